/- Several texts of mine in one: Cmp, MapIB, Contacts. No condition. -/
import Derived.Test.YtjldgcebadojiaaGreatDoorChecked
import Derived.Test.YtjldgcebadojiaaGreatDoorGQ8
import Derived.Maps.OwnOps
import Derived.Maps.Views
import Derived.Test.YtjldgcebadojiaaGreatDoorStCo
import Derived.Test.YtjldgcebadojiaaGreatDoorGQ0
import Derived.StillTailTactics
import Derived.Deep.RegionHeld3
namespace Go.Proofs.YtjldgcebadojiaaGreatDoor
open Go.ChangeShapes Go.WideShapes Go.ChangeAt Go.RowKit Go.Sort
set_option linter.unusedSimpArgs false
set_option linter.unusedVariables false
def cmpI (a b:Int):Int:=if a < b then -1 else if b < a then 1 else 0
theorem cmpI_lt {a b:Int} (h:a < b):cmpI a b = -1:=if_pos h
theorem cmpI_gt {a b:Int} (h:b < a):cmpI a b = 1:=by unfold cmpI; rw [if_neg (by omega),if_pos h]
theorem cmpI_zero {a b:Int}:cmpI a b = 0 ↔ a = b:=by
 unfold cmpI; constructor
 ·intro h; split at h
  ·omega
  ·split at h <;> omega
 ·rintro rfl; rw [if_neg (by omega),if_neg (by omega)]
def orF:List Int → Int
 | [] => 0
 | x :: l => if x = 0 then orF l else x
theorem nan_any (a:Int) (w:World):Calls Tryz.prog 183 #[.int .i64 a] w fun e w' => e = .returned (.bool false) ∧ w = w':=by
 have hz:(a != a) = false:=by simp
 go_enter Tryz.func183,Tryz.ntmps183
 go_wp2
 go_ret
 exact ⟨rfl,rfl⟩
theorem cmp_any (a b:Int) (w:World):Calls Tryz.prog 119 #[.int .i64 a,.int .i64 b] w fun e w' => e = .returned (.int .i64 (cmpI a b)) ∧ w = w':=by
 by_cases h1:a < b
 ·rw [cmpI_lt h1]
  go_enter Tryz.func119,Tryz.ntmps119
  go_wp2_with (go_at_call 183; refine (nan_any _ _).mono ?_; rintro e w' ⟨rfl,rfl⟩)
  go_ret
  exact ⟨rfl,rfl⟩
 ·by_cases h2:b < a
  ·rw [cmpI_gt h2]
   go_enter Tryz.func119,Tryz.ntmps119
   go_wp2_with (go_at_call 183; refine (nan_any _ _).mono ?_; rintro e w' ⟨rfl,rfl⟩)
   go_ret
   exact ⟨rfl,rfl⟩
  ·have h0:cmpI a b = 0:=cmpI_zero.2 (by omega)
   rw [h0]
   go_enter Tryz.func119,Tryz.ntmps119
   go_wp2_with (go_at_call 183; refine (nan_any _ _).mono ?_; rintro e w' ⟨rfl,rfl⟩)
   go_ret
   exact ⟨rfl,rfl⟩
theorem orF_next:∀ (l:List Int) (k:Nat),k < l.length → (∀ j,j < k → l.getD j 0 = 0) → l.getD k 0 ≠ 0 → orF l = l.getD k 0
 | x :: l,0,_,_,h => by simp [orF] at *; intro e; exact absurd e h
 | x :: l,k + 1,hk,hz,h => by
  have h0:x = 0:=by simpa using hz 0 (by omega)
  rw [orF,if_pos h0]
  simpa using orF_next l k (by simpa using hk) (fun j hj => by simpa using hz (j + 1) (by omega)) (by simpa using h)
theorem orF_zero:∀ (l:List Int),(∀ j,j < l.length → l.getD j 0 = 0) → orF l = 0
 | [],_ => rfl
 | x :: l,h => by
  have h0:x = 0:=by simpa using h 0 (by simp)
  rw [orF,if_pos h0]
  exact orF_zero l (fun j hj => by simpa using h (j + 1) (by simpa using hj))
theorem or_any (g m c:Nat) (l:List Int) (w:World) (hm:l.length = m) (hm2:m ≤ 1000) (hc:∀ k,k < m → w.cell? ⟨g,k,none⟩ = some (.int .i64 (l.getD k 0))) :
  Calls Tryz.prog 190 #[.slice (some ⟨g,0,none⟩) m c] w fun e w' => e = .returned (.int .i64 (orF l)) ∧ w = w':=by
 have HC:=Lib.hid hc
 have HM:=Lib.hid hm
 clear hc hm
 go_enter Tryz.func190,Tryz.ntmps190
 go_wp2
 go_loop [8] (fun i => ∃ k:Nat,k ≤ m ∧ i = .int .i64 k ∧ Hid (∀ j,j < k → l.getD j 0 = 0)) (fun i => m - (intOf i).toNat)
 case atStart => exact ⟨0,by omega,rfl,fun j hj => by omega⟩
 case round =>
  obtain ⟨k,hk,rfl,HZ⟩:=hrel
  by_cases hkm:k < m
  ·have hck:=HC.out k hkm
   obtain ⟨y,hy⟩:∃ y,l.getD k 0 = y:=⟨_,rfl⟩
   rw [hy] at hck
   have HY:=Lib.hid hy
   clear hy
   by_cases h0:y = 0
   ·have hb:(y != 0) = false:=by simp [h0]
    have H0:=Lib.hid h0
    clear h0
    go_wp2
    go_round
    case rel => exact ⟨k + 1,by omega,by go_num,fun j hj => by
     by_cases e:j = k
     ·rw [e,HY.out]; exact H0.out
     ·exact HZ.out j (by omega)⟩
    case measure => simp [intOf]; omega
   ·have hb:(y != 0) = true:=by simpa using h0
    have hfin:orF l = y:=by rw [← HY.out]; exact orF_next l k (by have:=HM.out; omega) HZ.out (by rw [HY.out]; exact h0)
    have HF:=Lib.hid hfin
    clear hfin h0
    go_wp2
    go_ret
    exact ⟨by rw [HF.out]; rfl,rfl⟩
  ·have hfin:orF l = 0:=orF_zero l (fun j hj => HZ.out j (by have:=HM.out; omega))
   have HF:=Lib.hid hfin
   clear hfin
   go_wp2
   go_ret
   exact ⟨by rw [HF.out]; rfl,rfl⟩
end Go.Proofs.YtjldgcebadojiaaGreatDoor
namespace Go.Proofs.YtjldgcebadojiaaGreatDoor
open Go.ChangeShapes Go.WideShapes Go.ChangeAt Go.RowKit Go.Sort
set_option linter.unusedSimpArgs false
set_option linter.unusedVariables false
open Go.Maps (Keyed)
theorem keyedI:Keyed Tryz.prog 3:=Maps.int_keyed Tryz.underlying3
theorem zeroB (w:World):(zeroValue 4).run Tryz.prog w = .ok (.bool false) w:=by kernel_rfl
def SetW (w:World) (b n:Nat) (S:Int → Bool):Prop:=
 ∃ D:DataW Unit,w.ownsMap Tryz.prog 3 (plainElem Tryz.prog 4) b n D ∧ Maps.IsMap D ∧ ∀ k,(Lit.int .i64 k).wf = true → D.atKey (.int .i64 k) (.lit (.bool false)) = .lit (.bool (S k))
theorem wfI {k:Int} (h : -9223372036854775808 ≤ k ∧ k ≤ 9223372036854775807):(Lit.int .i64 k).wf = true:=by
 simp [Lit.wf,IntKind.min,IntKind.max,IntKind.signed,IntKind.bits]; omega
theorem plainElem_bool_inv {P:Program} {e:TypeId} (he:P.underlying e = some .bool) {v:Value} {z:DataW Unit × List MemPlace} (h:plainElem P e v = some z):∃ x,v = .bool x ∧ z = (.lit (.bool x),[]):=by
 unfold plainElem at h
 rw [he] at h
 cases v <;> simp at h
 rename_i x
 exact ⟨x,rfl,h.symm⟩
theorem SetW.made (w:World):SetW (w.alloc (.map #[] 0)) w.heap.size 0 (fun _ => false):=
 ⟨.map [],World.ownsMap_made _ _ _ _,⟨[],rfl⟩,fun k _ => rfl⟩
theorem SetW.lt {w:World} {b n:Nat} {S:Int → Bool} (h:SetW w b n S):b < w.heap.size:=let ⟨_,h,_⟩:=h; h.lt
theorem SetW.kept {w w':World} {b n:Nat} {S:Int → Bool} {row:Option Nat} (h:SetW w b n S) (hg:w.grownBy w' row) (hne:some b ≠ row):SetW w' b n S:=let ⟨D,h1,h2⟩:=h; ⟨D,h1.kept hg hne,h2⟩
theorem SetW.below {w w':World} {b n:Nat} {S:Int → Bool} (h:SetW w b n S) (hb:Below w.heap.size w w'):SetW w' b n S:=h.kept (grown_of_below (row:=none) hb) (by simp)
theorem SetW.alloc {w:World} {b n:Nat} {S:Int → Bool} (h:SetW w b n S) (o:Obj):SetW (w.alloc o) b n S:=let ⟨D,h1,h2⟩:=h; ⟨D,h1.alloc o,h2⟩
theorem SetW.drew {w:World} {b n:Nat} {S:Int → Bool} (h:SetW w b n S):SetW w.drew b n S:=h
theorem SetW.congr {w:World} {b n:Nat} {S S':Int → Bool} (h:SetW w b n S) (e:∀ k,(Lit.int .i64 k).wf = true → S k = S' k):SetW w b n S':=let ⟨D,h1,h2,h3⟩:=h; ⟨D,h1,h2,fun k hk => by rw [h3 k hk,e k hk]⟩
theorem SetW.look {w:World} {b n:Nat} {S:Int → Bool} (h:SetW w b n S) {k:Int} (hk:(Lit.int .i64 k).wf = true):(Instr.lookup 137 (.map (some b)) (.int .i64 k) false).run Tryz.prog w = .ok (.bool (S k)) w:=by
 obtain ⟨D,h1,h2,h3⟩:=h
 obtain ⟨v,ps,hrun,hv⟩:=h1.lookup keyedI Tryz.underlying137 (zeroB w) (plainElem_bool Tryz.underlying4 false) (Maps.keyOf_int_mk Tryz.underlying3 hk)
 obtain ⟨x,rfl,hx⟩:=plainElem_bool_inv Tryz.underlying4 hv
 rw [h3 k hk] at hx
 simp only [Prod.mk.injEq,DataW.lit.injEq,Lit.bool.injEq] at hx
 rw [hrun,hx.1]
theorem SetW.put {w:World} {b n:Nat} {S:Int → Bool} (h:SetW w b n S) (hn:n < maxLen) {k:Int} (hk:(Lit.int .i64 k).wf = true) (v:Bool) :
  ∃ w',(Instr.mapUpdate 137 (.map (some b)) (.int .i64 k) (.bool v)).run Tryz.prog w = .ok () w' ∧ SetW w' b (n + 1) (fun j => if j = k then v else S j) ∧ w.grownBy w' (some b):=by
 obtain ⟨D,h1,h2,h3⟩:=h
 obtain ⟨w',hrun,hown,hg⟩:=h1.update keyedI Tryz.underlying137 hn (Maps.keyOf_int_mk Tryz.underlying3 hk) (plainElem_bool Tryz.underlying4 v)
 refine ⟨w',hrun,⟨_,hown,h2.put _ _,fun j hj => ?_⟩,hg⟩
 by_cases e:j = k
 ·subst e
  rw [Maps.atKey_put_same h2 (by simp [WideAt.IsKeyLit])]; simp
 ·rw [Maps.atKey_put_other (by intro e2; injection e2 with _ e3; exact e e3),h3 j hj]; simp [e]
theorem wpList_put_set {ops:Array Oper} {rest:List Oper} {o:Oper} {a:Act} {w:World} {Q:Exit → Act → World → Prop} (hg:o.guard = none) (m x v:Operand) (hop:o.op = Op.mapUpdate 137 m x v) (b n:Nat) (S:Int → Bool) (k:Int) (vb:Bool)
  (hm:a.eval m = .map (some b)) (h:SetW w b n S) (hn:n < maxLen) (hx:a.eval x = .int .i64 k) (hk:(Lit.int .i64 k).wf = true) (hv:a.eval v = .bool vb)
  (hK:∀ w',SetW w' b (n + 1) (fun j => if j = k then vb else S j) → w.grownBy w' (some b) → wpList Tryz.prog ops Q rest (a.put o.dst undef) w'):wpList Tryz.prog ops Q (o :: rest) a w:=by
 refine wpList_plain hg fun K' hK' => ?_
 obtain ⟨w',hrun,h1,h2⟩:=h.put hn hk vb
 unfold Oper.wp
 simp [execOp,hop,hm,hx,hv,hrun,Result.andThen]
 exact hK' _ _ (hK w' h1 h2)
end Go.Proofs.YtjldgcebadojiaaGreatDoor
namespace Go.Proofs.YtjldgcebadojiaaGreatDoor.Kc
open Go.ChangeShapes Go.WideShapes Go.ChangeAt Go.RowKit Go.Sort
set_option linter.unusedSimpArgs false
set_option linter.unusedVariables false
def cmpC (a b:Co):Int:=orF [cmpI a.fr b.fr,cmpI a.tn b.tn,cmpI a.st b.st,cmpI a.id b.id]
set_option maxHeartbeats 2000000 in
set_option maxRecDepth 100000 in
theorem cmpC_any (a b:Co) (w:World):Calls Tryz.prog 125 #[.agg #[.int .i64 a.id,.int .i64 a.fr,.int .i64 a.tn,.int .i64 a.st,.int .i64 a.en,.int .i64 a.rt],.agg #[.int .i64 b.id,.int .i64 b.fr,.int .i64 b.tn,.int .i64 b.st,.int .i64 b.en,.int .i64 b.rt]] w fun e w' => e = .returned (.int .i64 (cmpC a b)) ∧ Below w.heap.size w w':=by
 obtain ⟨p,hp⟩:∃ p,cmpI a.fr b.fr = p:=⟨_,rfl⟩
 obtain ⟨q,hq⟩:∃ q,cmpI a.tn b.tn = q:=⟨_,rfl⟩
 obtain ⟨r,hr⟩:∃ r,cmpI a.st b.st = r:=⟨_,rfl⟩
 obtain ⟨s,hs⟩:∃ s,cmpI a.id b.id = s:=⟨_,rfl⟩
 have hfin:cmpC a b = orF [p,q,r,s]:=by rw [← hp,← hq,← hr,← hs]; rfl
 have HP:=Lib.hid hp
 have HQ:=Lib.hid hq
 have HR:=Lib.hid hr
 have HS:=Lib.hid hs
 rw [hfin]
 clear hp hq hr hs hfin
 go_enter Tryz.func125,Tryz.ntmps125
 go_wp2_with fail
 refine wp_region_still_tail 20 (by kernel_rfl) (by kernel_rfl) ?_
 change wpStill _ _ (World.drew _) (fun a' => wpList _ _ _ _ a' (World.drew _)) _ _
 simp only [List.take_succ_cons,List.take_zero,List.drop_succ_cons,List.drop_zero]
 repeat still_step
 still_call ((HP.out ▸ cmp_any a.fr b.fr _).mono fun _ _ h => ⟨h.1,h.2.symm⟩)
 repeat still_step
 still_call ((HQ.out ▸ cmp_any a.tn b.tn _).mono fun _ _ h => ⟨h.1,h.2.symm⟩)
 repeat still_step
 still_call ((HR.out ▸ cmp_any a.st b.st _).mono fun _ _ h => ⟨h.1,h.2.symm⟩)
 repeat still_step
 still_call ((HS.out ▸ cmp_any a.id b.id _).mono fun _ _ h => ⟨h.1,h.2.symm⟩)
 refine wpStill_nil ?_
 have hB:Below w.heap.size w (((w.alloc (.cells #[.int .i64 a.id,.int .i64 a.fr,.int .i64 a.tn,.int .i64 a.st,.int .i64 a.en,.int .i64 a.rt] 34)).alloc (.cells #[.int .i64 b.id,.int .i64 b.fr,.int .i64 b.tn,.int .i64 b.st,.int .i64 b.en,.int .i64 b.rt] 34)).drew):=by (repeat (first | exact Below.refl _ _ | refine Below.alloc ?_ (by first | omega | (simp; done) | (simp; omega)) _ | refine Below.setCell ?_ (by first | omega | (simp; done) | (simp; omega)) _ | refine Below.drew ?_))
 have hs:=hB.size
 generalize (((w.alloc (.cells #[.int .i64 a.id,.int .i64 a.fr,.int .i64 a.tn,.int .i64 a.st,.int .i64 a.en,.int .i64 a.rt] 34)).alloc (.cells #[.int .i64 b.id,.int .i64 b.fr,.int .i64 b.tn,.int .i64 b.st,.int .i64 b.en,.int .i64 b.rt] 34)).drew) = w2 at *
 go_wp2_with fail
 have hX:=Blok.new w2 3 #[.int .i64 p,.int .i64 q,.int .i64 r,.int .i64 s]
 refine (or_any w2.heap.size 4 4 [p,q,r,s] _ rfl (by omega) (fun k hk => by
  have hc:=hX.cell k
  have hk2:k = 0 ∨ k = 1 ∨ k = 2 ∨ k = 3:=by omega
  rcases hk2 with rfl | rfl | rfl | rfl <;> exact hc)).mono ?_
 rintro e w3 ⟨rfl,rfl⟩
 go_wp2
 go_ret
 exact ⟨rfl,hB.alloc hs _⟩
def ltC (a b:Co):Prop:=a.fr < b.fr ∨ a.fr = b.fr ∧ (a.tn < b.tn ∨ a.tn = b.tn ∧ (a.st < b.st ∨ a.st = b.st ∧ a.id < b.id))
theorem cmpI_spec (a b:Int):(a < b ∧ cmpI a b = -1) ∨ (a = b ∧ cmpI a b = 0) ∨ (b < a ∧ cmpI a b = 1):=by
 rcases Int.lt_trichotomy a b with h | h | h
 ·exact .inl ⟨h,cmpI_lt h⟩
 ·exact .inr (.inl ⟨h,cmpI_zero.2 h⟩)
 ·exact .inr (.inr ⟨h,cmpI_gt h⟩)
theorem cmpC_spec (a b:Co):(ltC a b ∧ cmpC a b = -1) ∨ (a.fr = b.fr ∧ a.tn = b.tn ∧ a.st = b.st ∧ a.id = b.id ∧ cmpC a b = 0) ∨ (ltC b a ∧ cmpC a b = 1):=by
 unfold cmpC ltC
 rcases cmpI_spec a.fr b.fr with ⟨h1,e1⟩ | ⟨h1,e1⟩ | ⟨h1,e1⟩ <;> rcases cmpI_spec a.tn b.tn with ⟨h2,e2⟩ | ⟨h2,e2⟩ | ⟨h2,e2⟩ <;> rcases cmpI_spec a.st b.st with ⟨h3,e3⟩ | ⟨h3,e3⟩ | ⟨h3,e3⟩ <;> rcases cmpI_spec a.id b.id with ⟨h4,e4⟩ | ⟨h4,e4⟩ | ⟨h4,e4⟩ <;>
  simp only [e1,e2,e3,e4,orF] <;> simp <;> omega
def overC (a b:Co):Bool:=decide (a.fr = b.fr ∧ a.tn = b.tn ∧ a.st < b.en ∧ b.st < a.en)
set_option maxHeartbeats 2000000 in
set_option maxRecDepth 100000 in
theorem overC_any (a b:Co) (w:World):Calls Tryz.prog 126 #[.agg #[.int .i64 a.id,.int .i64 a.fr,.int .i64 a.tn,.int .i64 a.st,.int .i64 a.en,.int .i64 a.rt],.agg #[.int .i64 b.id,.int .i64 b.fr,.int .i64 b.tn,.int .i64 b.st,.int .i64 b.en,.int .i64 b.rt]] w fun e w' => e = .returned (.bool (overC a b)) ∧ Below w.heap.size w w':=by
 obtain ⟨b1,e1⟩:∃ t,(a.fr == b.fr) = t:=⟨_,rfl⟩
 obtain ⟨b2,e2⟩:∃ t,(a.tn == b.tn) = t:=⟨_,rfl⟩
 obtain ⟨b3,e3⟩:∃ t,decide (a.st < b.en) = t:=⟨_,rfl⟩
 obtain ⟨b4,e4⟩:∃ t,decide (b.st < a.en) = t:=⟨_,rfl⟩
 have hres:overC a b = (b1 && (b2 && (b3 && b4))):=by rw [← e1,← e2,← e3,← e4]; unfold overC; rw [Bool.eq_iff_iff]; simp
 rw [hres]
 clear hres
 cases b1 <;> cases b2 <;> cases b3 <;> cases b4
 all_goals
  go_enter Tryz.func126,Tryz.ntmps126
  go_wp2
  go_ret
  exact ⟨rfl,by (repeat (first | exact Below.refl _ _ | refine Below.alloc ?_ (by first | omega | (simp; done) | (simp; omega)) _ | refine Below.setCell ?_ (by first | omega | (simp; done) | (simp; omega)) _ | refine Below.drew ?_))⟩
set_option maxRecDepth 100000 in
theorem has1_any (x:Co) (id:Int) (g:Nat) (w:World) (hR:Blok w g 3 #[.int .i64 id]):Calls Tryz.prog 99 #[.agg #[.int .i64 x.id,.int .i64 x.fr,.int .i64 x.tn,.int .i64 x.st,.int .i64 x.en,.int .i64 x.rt],.pointer (some ⟨g,0,none⟩)] w fun e w' => e = .returned (.bool (x.id == id)) ∧ Below w.heap.size w w':=by
 have r0:w.cell? ⟨g,0,none⟩ = some (.int .i64 id):=hR.cell 0
 have hl:=hR.lt
 clear hR
 go_enter Tryz.func99,Tryz.ntmps99
 go_wp2
 all_goals go_ret
 all_goals exact ⟨rfl,by (repeat (first | exact Below.refl _ _ | refine Below.alloc ?_ (by first | omega | (simp; done) | (simp; omega)) _ | refine Below.setCell ?_ (by first | omega | (simp; done) | (simp; omega)) _ | refine Below.drew ?_))⟩
set_option maxRecDepth 100000 in
theorem has_any (id:Int) (w:World):Calls Tryz.prog 55 #[.int .i64 id] w fun e w' => ∃ g,e = .returned (.func (.func 99) #[] #[.pointer (some ⟨g,0,none⟩)]) ∧ Blok w' g 3 #[.int .i64 id] ∧ w.heap.size ≤ g ∧ Below w.heap.size w w':=by
 go_enter Tryz.func55,Tryz.ntmps55
 go_wp2
 go_ret
 exact ⟨w.heap.size,rfl,Blok.new w _ _,Nat.le_refl _,by (repeat (first | exact Below.refl _ _ | refine Below.alloc ?_ (by first | omega | (simp; done) | (simp; omega)) _ | refine Below.setCell ?_ (by first | omega | (simp; done) | (simp; omega)) _ | refine Below.drew ?_))⟩
set_option maxHeartbeats 1000000 in
set_option maxRecDepth 100000 in
theorem mayC1_any (x r:Co) (g:Nat) (w:World) (hR:Blok w g 34 #[.int .i64 r.id,.int .i64 r.fr,.int .i64 r.tn,.int .i64 r.st,.int .i64 r.en,.int .i64 r.rt]):Calls Tryz.prog 249 #[.agg #[.int .i64 x.id,.int .i64 x.fr,.int .i64 x.tn,.int .i64 x.st,.int .i64 x.en,.int .i64 x.rt],.pointer (some ⟨g,0,none⟩)] w fun e w' => e = .returned (.bool (overC x r)) ∧ Below w.heap.size w w':=by
 have hB:Below w.heap.size w (w.alloc (.cells #[.int .i64 x.id,.int .i64 x.fr,.int .i64 x.tn,.int .i64 x.st,.int .i64 x.en,.int .i64 x.rt] 34)):=by (repeat (first | exact Below.refl _ _ | refine Below.alloc ?_ (by first | omega | (simp; done) | (simp; omega)) _ | refine Below.setCell ?_ (by first | omega | (simp; done) | (simp; omega)) _ | refine Below.drew ?_))
 replace hR:=hR.alloc (.cells #[.int .i64 x.id,.int .i64 x.fr,.int .i64 x.tn,.int .i64 x.st,.int .i64 x.en,.int .i64 x.rt] 34)
 have hX:=Blok.new w 34 #[.int .i64 x.id,.int .i64 x.fr,.int .i64 x.tn,.int .i64 x.st,.int .i64 x.en,.int .i64 x.rt]
 have hl:=hR.lt
 have r0:(w.alloc (.cells #[.int .i64 x.id,.int .i64 x.fr,.int .i64 x.tn,.int .i64 x.st,.int .i64 x.en,.int .i64 x.rt] 34)).cell? ⟨g,0,none⟩ = some (.int .i64 r.id):=hR.cell 0
 have r1:(w.alloc (.cells #[.int .i64 x.id,.int .i64 x.fr,.int .i64 x.tn,.int .i64 x.st,.int .i64 x.en,.int .i64 x.rt] 34)).cell? ⟨g,1,none⟩ = some (.int .i64 r.fr):=hR.cell 1
 have r2:(w.alloc (.cells #[.int .i64 x.id,.int .i64 x.fr,.int .i64 x.tn,.int .i64 x.st,.int .i64 x.en,.int .i64 x.rt] 34)).cell? ⟨g,2,none⟩ = some (.int .i64 r.tn):=hR.cell 2
 have r3:(w.alloc (.cells #[.int .i64 x.id,.int .i64 x.fr,.int .i64 x.tn,.int .i64 x.st,.int .i64 x.en,.int .i64 x.rt] 34)).cell? ⟨g,3,none⟩ = some (.int .i64 r.st):=hR.cell 3
 have r4:(w.alloc (.cells #[.int .i64 x.id,.int .i64 x.fr,.int .i64 x.tn,.int .i64 x.st,.int .i64 x.en,.int .i64 x.rt] 34)).cell? ⟨g,4,none⟩ = some (.int .i64 r.en):=hR.cell 4
 have r5:(w.alloc (.cells #[.int .i64 x.id,.int .i64 x.fr,.int .i64 x.tn,.int .i64 x.st,.int .i64 x.en,.int .i64 x.rt] 34)).cell? ⟨g,5,none⟩ = some (.int .i64 r.rt):=hR.cell 5
 clear hR
 generalize hy:overC x r = y at *
 have HY:=Lib.hid hy
 clear hy
 go_enter Tryz.func249,Tryz.ntmps249
 go_wp2_with fail
 generalize w.alloc (.cells #[.int .i64 x.id,.int .i64 x.fr,.int .i64 x.tn,.int .i64 x.st,.int .i64 x.en,.int .i64 x.rt] 34) = w2 at *
 have hs:=hB.size
 refine (HY.out ▸ overC_any x r w2).mono ?_
 rintro e w3 ⟨rfl,hb3⟩
 replace hB:=hB.trans (hb3.mono hs)
 clear hb3 r0 r1 r2 r3 r4 r5 hX
 go_wp2
 go_ret
 exact ⟨rfl,hB⟩
theorem pred_has (id:Int) (g:Nat) (row:Option Nat) (w:World) (hR:Blok w g 3 #[.int .i64 id]) (hr:row ≠ some g):PredCo 99 #[.pointer (some ⟨g,0,none⟩)] row w (fun x => x.id == id):=
 ⟨enter_run Tryz.func99 rfl rfl,fun w' hg x => has1_any x id g w' (hR.grown hg (fun e => hr e.symm))⟩
theorem pred_mayC (r:Co) (g:Nat) (row:Option Nat) (w:World) (hR:Blok w g 34 #[.int .i64 r.id,.int .i64 r.fr,.int .i64 r.tn,.int .i64 r.st,.int .i64 r.en,.int .i64 r.rt]) (hr:row ≠ some g):PredCo 249 #[.pointer (some ⟨g,0,none⟩)] row w (fun x => overC x r):=
 ⟨enter_run Tryz.func249 rfl rfl,fun w' hg x => mayC1_any x r g w' (hR.grown hg (fun e => hr e.symm))⟩
theorem cmp_contacts (t:Co) (w:World):CmpCo 125 #[] t w (fun x => cmpC x t):=
 ⟨enter_run Tryz.func125 rfl rfl,fun w' _ x => cmpC_any x t w'⟩
end Go.Proofs.YtjldgcebadojiaaGreatDoor.Kc
