/- Several texts of mine in one: MapR, DueMore. No condition. -/
import Derived.Test.YtodcoockhkghdaaGreatGQ9
import Derived.Maps.RangeWalk
import Derived.Test.YtodcoockhkghdaaGreatDueAhead
import Derived.Test.YtodcoockhkghdaaGreatGQ16
import Derived.Deep.CutBlock
import Derived.Deep.DeepCutAuto
namespace Go.Proofs.YtodcoockhkghdaaGreat
open Go.ChangeShapes Go.WideShapes Go.ChangeAt Go.RowKit Go.Sort Go.Maps Go.ChangeMaps
set_option linter.unusedSimpArgs false
set_option linter.unusedVariables false
def RngV (w:World) (b r nm:Nat) (S:Lit → Option Value) (lf:Lit → Bool) (cnt:Nat):Prop:=
 ∃ D:DataW Value,w.ranges Tryz.prog 3 heldV b r nm D lf cnt ∧ ∀ kl,WideAt.IsKeyLit kl → Maps.has D kl = (S kl).isSome ∧ ∀ v,S kl = some v → ∀ z,D.atKey kl z = .held v
theorem RngV.map {w:World} {b r nm cnt:Nat} {S:Lit → Option Value} {lf:Lit → Bool} (h:RngV w b r nm S lf cnt):MapV w 3 b nm S:=let ⟨D,h1,h2⟩:=h; ⟨D,h1.owns,h2⟩
theorem RngV.lt {w:World} {b r nm cnt:Nat} {S:Lit → Option Value} {lf:Lit → Bool} (h:RngV w b r nm S lf cnt):r < w.heap.size:=let ⟨_,h1,_⟩:=h; h1.lt
theorem RngV.left_eq {w:World} {b r nm cnt:Nat} {S:Lit → Option Value} {lf:Lit → Bool} (h:RngV w b r nm S lf cnt):w.rangeLeft b r = cnt:=let ⟨_,h1,_⟩:=h; h1.left_eq
theorem RngV.kept {w w':World} {b r nm cnt:Nat} {S:Lit → Option Value} {lf:Lit → Bool} {row:Option Nat} (h:RngV w b r nm S lf cnt) (hg:w.grownBy w' row) (h1:some b ≠ row) (h2:some r ≠ row):RngV w' b r nm S lf cnt:=let ⟨D,g1,g2⟩:=h; ⟨D,g1.kept hg h1 h2,g2⟩
theorem RngV.below {w w':World} {b r nm cnt:Nat} {S:Lit → Option Value} {lf:Lit → Bool} (h:RngV w b r nm S lf cnt) (hb:Below w.heap.size w w'):RngV w' b r nm S lf cnt:=h.kept (grown_of_below (row:=none) hb) (by simp) (by simp)
theorem RngV.keptS {Z:Nat → Prop} {w w':World} {b r nm cnt:Nat} {S:Lit → Option Value} {lf:Lit → Bool} (h:RngV w b r nm S lf cnt) (hk:Kept Z w w') (h1:¬ Z b) (h2:¬ Z r):RngV w' b r nm S lf cnt:=by
 obtain ⟨D,⟨es,clock,since,seen,c0,hb,F,hs,hD,hr,rest⟩,g2⟩:=h
 exact ⟨D,⟨es,clock,since,seen,c0,(hk.block b (lt_of_block hb) h1).trans hb,F,hs,hD,(hk.block r (lt_of_block hr) h2).trans hr,rest⟩,g2⟩
theorem RngV.blocks {w:World} {b r nm cnt:Nat} {S:Lit → Option Value} {lf:Lit → Bool} (h:RngV w b r nm S lf cnt):(∃ es clock,w.heap[b]? = some (.map es clock)) ∧ ∃ s seen c0,w.heap[r]? = some (.mapIter (some b) s seen c0):=by
 obtain ⟨D,⟨es,clock,since,seen,c0,hb,F,hs,hD,hr,rest⟩,g2⟩:=h
 exact ⟨⟨es,clock,hb⟩,since,seen,c0,hr⟩
set_option maxRecDepth 100000 in
theorem ranges_has {w:World} {b r nm cnt:Nat} {D:DataW Value} {lf:Lit → Bool} (h:w.ranges Tryz.prog 3 heldV b r nm D lf cnt) {kl:Lit} (hl:lf kl = true) (hk:WideAt.IsKeyLit kl):Maps.has D kl = true:=by
 obtain ⟨es,clock,since,seen,c0,hb,F,hs,rfl,hr,_,_,_,h2,_⟩:=h
 obtain ⟨x,hx,he⟩:=h2 kl hl
 exact List.any_eq_true.2 ⟨Go.WideElems.rg Tryz.prog 3 heldV x,mem_sorted.2 (List.mem_map.2 ⟨x,hx,rfl⟩),by rw [he]; exact WideAt.sameKey_self hk⟩
theorem wpList_range_mapV {ops:Array Oper} {rest:List Oper} {o:Oper} {a:Act} {w:World} {Q:Exit → Act → World → Prop} (hg:o.guard = none) (m:Operand) (t:TypeId) (hop:o.op = Op.range t m) (e:TypeId) (ht:Tryz.prog.underlying t = some (.map 3 e)) (b nm:Nat) (S:Lit → Option Value)
  (hm:a.eval m = .map (some b)) (h:MapV w 3 b nm S)
  (hK:∀ w' lf cnt,RngV w' b w.heap.size nm S lf cnt → (∀ kl,WideAt.IsKeyLit kl → lf kl = (S kl).isSome) → w.grownBy w' none → w'.heap.size = w.heap.size + 1 → wpList Tryz.prog ops Q rest (a.put o.dst (.pointer (some ⟨w.heap.size,0,none⟩))) w'):wpList Tryz.prog ops Q (o :: rest) a w:=by
 obtain ⟨D,h1,h2⟩:=h
 exact wpList_range_own w hg m t hop 3 e keyedV ht heldV b nm D hm h1 fun w' g1 g2 g3 => hK w' _ _ ⟨D,g1,h2⟩ (fun kl hk => (h2 kl hk).1) g2 g3
theorem wpList_next_mapV {ops:Array Oper} {rest:List Oper} {o:Oper} {a:Act} {w:World} {Q:Exit → Act → World → Prop} (hg:o.guard = none) (it:Operand) (hop:o.op = Op.next it false) (b r nm:Nat) (S:Lit → Option Value) (lf:Lit → Bool) (cnt:Nat)
  (hit:a.eval it = .pointer (some ⟨r,0,none⟩)) (h:RngV w b r nm S lf cnt)
  (hDone:(∀ kl,lf kl = false) → wpList Tryz.prog ops Q rest (a.put o.dst (.tuple #[.bool false])) w)
  (hMore:∀ (x:Int) (v:Value) (w':World) (cnt':Nat),(Lit.int .i64 x).wf = true → lf (.int .i64 x) = true → S (.int .i64 x) = some v → RngV w' b r nm S (fun z => lf z && !z.sameKey (.int .i64 x)) cnt' → cnt' < cnt →
   w.grownBy w' (some r) → w'.heap.size = w.heap.size → (Instr.entry (.pointer (some ⟨r,0,none⟩))).run Tryz.prog w' = .ok (.tuple #[.int .i64 x,v]) w' → wpList Tryz.prog ops Q rest (a.put o.dst (.tuple #[.bool true,.int .i64 x,v])) w'):wpList Tryz.prog ops Q (o :: rest) a w:=by
 obtain ⟨D,h1,h2⟩:=h
 refine wpList_next_ranges w hg it hop 3 keyedV heldV (Value.int .i64) (fun v:Value => v) (fun key kl hkey => by obtain ⟨x,rfl,_⟩:=Maps.keyOf_int_inv Tryz.underlying3 hkey; exact ⟨x,rfl⟩) (fun v y hv => ⟨v,rfl⟩) b r nm D lf cnt hit h1 (fun _ hl => hDone hl) ?_
 intro x v kl y w' cnt' hkey hlk hv hat hrg hlt hgr hsz hen
 obtain ⟨x',ex,rfl,hwx⟩:=Maps.keyOf_int_inv Tryz.underlying3 hkey
 cases ex
 have h3:=ranges_has h1 hlk (isKeyI x)
 rw [(h2 _ (isKeyI x)).1] at h3
 obtain ⟨u,hu⟩:=Option.isSome_iff_exists.1 h3
 have h4:=(h2 _ (isKeyI x)).2 u hu (.held v)
 have h5:=hat (.held v)
 rw [h4] at h5
 simp only [heldV,Option.some.injEq] at hv
 rw [← hv] at h5
 have h6:u = v:=by simpa using h5
 subst h6
 exact hMore x u w' cnt' hwx hlk hu ⟨D,hrg,h2⟩ hlt hgr hsz hen
theorem MapV.len2 {w:World} {t e:TypeId} {b n:Nat} {S:Lit → Option Value} (h:MapV w 3 b n S) (ht:Tryz.prog.underlying t = some (.map 3 e)) :
  ∃ q:Nat,(∀ ty,(Builtin.len_ #[t] ty #[.map (some b)]).run Tryz.prog w = .ok (.int .i64 q) w) ∧ (0 < q ↔ ∃ kl,WideAt.IsKeyLit kl ∧ (S kl).isSome = true):=by
 obtain ⟨D,h1,h2⟩:=h
 refine ⟨_,fun ty => h1.len ht ty,?_⟩
 obtain ⟨es,rfl,hpw,hkl⟩:=h1.entries keyedV
 constructor
 ·intro hq
  rw [Maps.size_eq] at hq
  cases es with
  | nil => simp at hq
  | cons p r =>
   have hp:=hkl p (List.mem_cons_self ..)
   refine ⟨p.1,hp,?_⟩
   rw [← (h2 p.1 hp).1,Maps.has_eq]
   exact List.any_eq_true.2 ⟨p,List.mem_cons_self ..,WideAt.sameKey_self hp⟩
 ·rintro ⟨kl,hk,hs⟩
  rw [← (h2 kl hk).1,Maps.has_eq] at hs
  rw [Maps.size_eq]
  cases es with
  | nil => simp at hs
  | cons p r => simp
end Go.Proofs.YtodcoockhkghdaaGreat
namespace Go.Proofs.YtodcoockhkghdaaGreat
open Go.ChangeShapes Go.WideShapes Go.ChangeAt Go.RowKit Go.Sort Go.Maps Hp
set_option linter.unusedSimpArgs false
set_option linter.unusedVariables false
theorem infoIM:(Tryz.prog.info? 3).map (fun i => (i.zero,i.size,i.bytes)) = some (some (.int .i64 0),1,8):=by kernel_rfl
theorem below_none {w w':World} (h:w.grownBy w' none):Below w.heap.size w w':=⟨h.os,h.tape,h.output,h.size,fun k hk => h.block k hk (by simp)⟩
structure Half (P:Int → List (Int × Int)) (L:Int → Option Int) (h:Nat) (lf:Lit → Bool) (P':Int → List (Int × Int)) (F':List Int):Prop where
 sub:∀ x,lf (.int .i64 x) = true → (L x).isSome = true
 row:∀ x,P' x = if lf (.int .i64 x) = true then P x else match L x with | some a => P x ++ [((h:Int) + 1,a)] | none => P x
 mem:∀ x,x ∈ F' ↔ (L x).isSome = true ∧ lf (.int .i64 x) = false
 nd:F'.Nodup
theorem Half.start {P:Int → List (Int × Int)} {L:Int → Option Int} {h:Nat} {lf:Lit → Bool} (hl:∀ kl,WideAt.IsKeyLit kl → lf kl = (tabS L kl).isSome):Half P L h lf P []:=by
 have e:∀ x,lf (.int .i64 x) = (L x).isSome:=fun x => by
  rw [hl _ (isKeyI x)]
  show ((L x).map (Value.int .i64)).isSome = _
  cases L x <;> rfl
 refine ⟨fun x hx => by rw [← e x]; exact hx,fun x => ?_,fun x => ?_,List.nodup_nil⟩
 ·rw [e x]
  cases L x <;> simp
 ·rw [e x]
  cases L x <;> simp
theorem Half.step {P:Int → List (Int × Int)} {L:Int → Option Int} {h:Nat} {lf:Lit → Bool} {P':Int → List (Int × Int)} {F':List Int} {x a:Int} (H:Half P L h lf P' F') (hx:lf (.int .i64 x) = true) (ha:L x = some a) :
  P' x = P x ∧ Half P L h (fun z => lf z && !z.sameKey (.int .i64 x)) (updP P' x (P' x ++ [((h:Int) + 1,a)])) (F' ++ [x]):=by
 have h1:P' x = P x:=by rw [H.row x,if_pos hx]
 have e:∀ y,(lf (.int .i64 y) && !(Lit.int .i64 y).sameKey (.int .i64 x)) = (lf (.int .i64 y) && !decide (y = x)):=fun y => by
  congr 2
  by_cases h:y = x
  ·subst h; rw [WideAt.sameKey_self (isKeyI y)]; simp
  ·have:(Lit.int .i64 y).sameKey (.int .i64 x) = false:=by
    cases h2:(Lit.int .i64 y).sameKey (.int .i64 x) with
    | false => rfl
    | true => have:=WideAt.sameKey_eq h2; injection this with _ h3; exact absurd h3 h
   rw [this]; simp [h]
 refine ⟨h1,fun y hy => ?_,fun y => ?_,fun y => ?_,?_⟩
 ·rw [e y] at hy
  simp only [Bool.and_eq_true] at hy
  exact H.sub y hy.1
 ·rw [e y]
  by_cases h2:y = x
  ·subst h2
   rw [updP_same,h1,ha]; simp
  ·rw [updP_ne _ _ h2,H.row y]; simp [h2]
 ·rw [e y,List.mem_append,H.mem y,List.mem_singleton]
  by_cases h2:y = x
  ·subst h2; simp [ha]
  ·simp [h2]
 ·rw [List.nodup_append]
  refine ⟨H.nd,by simp,fun y hy z hz => ?_⟩
  rw [List.mem_singleton.1 hz]
  intro e2
  subst e2
  have:=(H.mem y).1 hy
  rw [hx] at this
  exact absurd this.2 (by simp)
theorem Half.done {P:Int → List (Int × Int)} {L:Int → Option Int} {h:Nat} {lf:Lit → Bool} {P':Int → List (Int × Int)} {F':List Int} (H:Half P L h lf P' F') (hl:∀ kl,lf kl = false):(∀ x,P' x = match L x with | some a => P x ++ [((h:Int) + 1,a)] | none => P x) ∧ ∀ x,x ∈ F' ↔ (L x).isSome = true:=by
 refine ⟨fun x => ?_,fun x => ?_⟩
 ·rw [H.row x,if_neg (by rw [hl]; simp)]
 ·rw [H.mem x,hl]; simp
end Go.Proofs.YtodcoockhkghdaaGreat
