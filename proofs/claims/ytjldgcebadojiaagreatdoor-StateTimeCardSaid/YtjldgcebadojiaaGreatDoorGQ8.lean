/- Several texts of mine in one: SlLib, MapV. No condition. -/
import Derived.Test.YtjldgcebadojiaaGreatDoorGQ0
import Derived.Test.YtjldgcebadojiaaGreatDoorGQ9
import Derived.Lib.LazyBuf
import Derived.Test.YtjldgcebadojiaaGreatDoorChecked
import Derived.Maps.OwnOps
import Derived.Maps.OwnSet
import Derived.Maps.Views
namespace Go.Proofs.YtjldgcebadojiaaGreatDoor
open Go.ChangeShapes Go.WideShapes Go.ChangeAt Go.RowKit Go.Sort
set_option linter.unusedSimpArgs false
set_option linter.unusedVariables false

structure Sl (w:World) (B k:Nat) (A:Option Addr) (n c:Nat) (xs:List Value):Prop where
 lst:Lst w B k A n xs
 cap:n ≤ c
 max:c ≤ maxLen
 nil:A = none → c = 0
section
variable {w w':World} {B B' k n c:Nat} {A:Option Addr} {xs:List Value}
theorem Sl.below (h:Sl w B k A n c xs) (hb:Below B w w'):Sl w' B k A n c xs:=⟨h.lst.below hb,h.cap,h.max,h.nil⟩
theorem Sl.more (h:Sl w B k A n c xs) (hB:B ≤ B'):Sl w B' k A n c xs:=⟨h.lst.more hB,h.cap,h.max,h.nil⟩
theorem Sl.up (h:Sl w w.heap.size k A n c xs) (hb:Below w.heap.size w w'):Sl w' w'.heap.size k A n c xs:=(h.below hb).more hb.size
theorem Sl.nil0 (w:World) (B k:Nat):Sl w B k none 0 0 []:=⟨⟨by simp,fun h => by omega⟩,by omega,by simp [maxLen],fun _ => rfl⟩
theorem Sl.of_own {base:Nat} {e:TypeId} (h:w.ownsRow base e k (.slice A n c) n xs):Sl w w.heap.size k A n c xs:=by
 refine ⟨Lst.of_own h,?_,?_,?_⟩
 all_goals
  rcases h.2 with ⟨he,h0⟩ | ⟨g,cap,cur,he,hb,hg,hc,hm,_⟩
  ·injection he with e1 e2 e3
   subst e1 e2 e3
   simp [maxLen]
  ·injection he with e1 e2 e3
   subst e1 e3
   first | exact hc | exact hm | (intro e; cases e)
theorem Sl.upto (h:Sl w B k A n c xs) {m:Nat} (hm:m ≤ n):Sl w B k A m c (xs.take (m * k)):=⟨h.lst.upto hm,Nat.le_trans hm h.cap,h.max,h.nil⟩
theorem Sl.from_ (h:Sl w B k A n c xs) {m:Nat} (hm:m ≤ n):Sl w B k (if c = m then A else A.map (·.add (m * k))) (n - m) (c - m) (xs.drop (m * k)):=by
 refine ⟨h.lst.from_ hm h.cap,by have:=h.cap; omega,by have:=h.max; omega,fun e => ?_⟩
 split at e
 ·omega
 ·have:A = none:=by cases A with | none => rfl | some a => simp at e
  have:=h.nil this
  omega
end
theorem addr_next (ad:Addr) (j m:Nat) (hm:0 < m):(⟨(ad.add j).block,(ad.add j).off + m,none⟩:Addr) = ad.add (j + m):=by
 unfold Addr.add
 by_cases hj:j = 0
 ·subst hj; simp; omega
 ·simp [hj]; omega
theorem own_lit (w:World) (base:Nat) (t:TypeId) (size n:Nat) (cs:Array Value) (hb:base ≤ w.heap.size) (hs:cs.size = n * size) (hm:n ≤ maxLen):(w.alloc (.cells cs t)).ownsRow base t size (.slice (some ⟨w.heap.size,0,none⟩) n n) n cs.toList:=
 ⟨by simpa using hs,.inr ⟨w.heap.size,n,cs,rfl,hb,heap_alloc_new w _,Nat.le_refl _,hm,hs,by rw [List.take_of_length_le (by simp; omega)]⟩⟩

section
variable {P:Program}
theorem run_append_made (w:World) (t ty e k:TypeId) (i:TypeInfo) (z:Value) (ht:P.underlying t = some (.slice e)) (hk:P.underlying k = some (.int .i64)) (hi:P.info? e = some i) (hz:i.zero = some z)
  (n:Nat) (h0:0 < n) (hsz:0 < i.size) (h63:(n:Int) ≤ 9223372036854775807) (h48:n * i.bytes ≤ 281474976710656) :
  ∃ c cur,(Builtin.append_ #[t,k] ty #[.slice none 0 0,.int .i64 n]).run P w = .ok (.slice (some ⟨w.heap.size,0,none⟩) n c) (w.drew.alloc (.cells cur e)) ∧ cur.size = c * z.cells.size ∧ n ≤ c ∧ c ≤ maxLen:=by
 refine ⟨grownCap w n 0 e,Builtin.zeroCells z.cells n ++ Builtin.zeroCells z.cells (grownCap w n 0 e - n),?_,?_,grownCap_ge w n 0 e,grownCap_le_maxLen w n 0 e (by unfold maxLen; omega)⟩
 ·have hn:n ≠ 0:=by omega
  have hw:IntKind.i64.wrap (n:Int) = n:=IntWalk.i64_in _ (by omega)
  have h63':¬ (9223372036854775807 < (n:Int)):=by omega
  have h48':¬ (281474976710656 < Builtin.nextslicecap n 0 * i.bytes):=by rw [nextslicecap_zero h0]; omega
  have h48i:¬ (281474976710656 < (n:Int) * (i.bytes:Int)):=by
   have h:=Int.ofNat_le.2 h48
   rw [Int.natCast_mul] at h
   omega
  have hs:i.size ≠ 0:=by omega
  simp [Builtin.append_,run_underlying ht,run_underlying hk,sizeOf,typeInfo,zeroValue,asInt,asIntOf,hi,hz,hn,hs,hw,h63',h48',h48i,Question.forced,run_firstCells_none,newRow,grownCap]
  have hns:¬ (n * i.size = 0):=by
   have:=Nat.mul_pos h0 hsz
   omega
  rw [if_neg (by omega:¬ ((n:Int) < 0)),if_neg hns]
 ·have:=grownCap_ge w n 0 e
  simp only [Array.size_append,size_zeroCells,← Nat.add_mul]
  congr 1
  omega
theorem wpList_append_made {ops:Array Oper} {rest:List Oper} {o:Oper} {a:Act} {w:World} {Q:Exit → Act → World → Prop} (hgd:o.guard = none) (s x:Operand) (t k:TypeId)
  (ho:o.op = .call { callee:=.builtin .append,args:=#[s,x],argTypes:=#[t,k] })
  (e:TypeId) (i:TypeInfo) (z:Value) (size:Nat) (ht:P.underlying t = some (.slice e)) (hk:P.underlying k = some (.int .i64)) (hi:P.info? e = some i) (hz:i.zero = some z) (hsize:i.size = size) (hzs:z.cells.size = size)
  (n:Nat) (hs:a.eval s = .slice none 0 0) (hx:a.eval x = .int .i64 n) (h0:0 < n) (hsz:0 < size) (h63:(n:Int) ≤ 9223372036854775807) (h48:n * i.bytes ≤ 281474976710656)
  (h:∀ c w',w'.ownsRow w.heap.size e size (.slice (some ⟨w.heap.size,0,none⟩) 0 c) 0 [] → Below w.heap.size w w' → n ≤ c → wpList P ops Q rest (a.put o.dst (.slice (some ⟨w.heap.size,0,none⟩) n c)) w'):wpList P ops Q (o :: rest) a w:=by
 refine wpList_plain hgd fun _ hK => ?_
 obtain ⟨c,cur,hr,h1,h2,h3⟩:=run_append_made (P:=P) w t o.type e k i z ht hk hi hz n h0 (by omega) h63 h48
 unfold Oper.wp execOp
 simp only [ho,resolve,invoke,builtin,Sem.run_bind,Sem.run_pure,Result.andThen_ok,List.map_toArray,List.map_cons,List.map_nil,hs,hx,hr]
 refine hK _ _ (h c _ ?_ ?_ h2)
 ·exact World.ownsRow_made w.drew cur c (Nat.le_refl _) h3 (by rw [h1,hzs])
 ·exact (Below.drew (Below.refl _ _)).alloc (Nat.le_refl _) _

theorem run_clear_own (w:World) (base:Nat) (t e ty:TypeId) (i:TypeInfo) (z:Value) (size:Nat) (ht:P.underlying t = some (.slice e)) (hi:P.info? e = some i) (hz:i.zero = some z) (hzs:z.cells.size = size) (hz1:∀ u ∈ z.cells.toList,u.oneCell' = true)
  (g n c m:Nat) (xs:List Value) (hown:w.ownsRow base e size (.slice (some ⟨g,0,none⟩) n c) n xs) (hm:m ≤ n) (A:Option Addr) (hA:A = some ((⟨g,0,none⟩:Addr).add (m * size)) ∨ n - m = 0) (c':Nat) :
  ∃ w' ys,(Builtin.clear_ #[t] ty #[.slice A (n - m) c']).run P w = .ok (.tuple #[]) w' ∧ w'.ownsRow base e size (.slice (some ⟨g,0,none⟩) n c) n ys ∧ ys.take (m * size) = xs.take (m * size) ∧ w.grownBy w' (some g):=by
 by_cases h0:n - m = 0
 ·refine ⟨w,xs,?_,hown,rfl,grown_refl _ _⟩
  rw [h0]
  cases A <;> simp [Builtin.clear_,run_underlying ht]
 ·obtain rfl:A = some ((⟨g,0,none⟩:Addr).add (m * size)):=hA.resolve_right h0
  rcases hown.2 with ⟨h',_⟩ | ⟨g',cap,cur,h',hb,hg,hc,hcm,hs,ht'⟩
  ·simp at h'
  ·simp only [Value.slice.injEq,Option.some.injEq,Addr.mk.injEq,and_true,true_and] at h'
   obtain ⟨rfl,rfl⟩:=h'
   have hadd:((⟨g,0,none⟩:Addr).add (m * size)) = ⟨g,m * size,none⟩:=by unfold Addr.add; split <;> simp_all
   rw [hadd]
   have hzl:(Builtin.zeroCells z.cells (n - m)).toList.length = (n - m) * size:=by rw [Array.length_toList,size_zeroCells,hzs]
   have hle:m * size + (n - m) * size ≤ cur.size:=by
    rw [← Nat.add_mul,hs]; exact Nat.mul_le_mul_right _ (by omega)
   have hz1':∀ u ∈ (Builtin.zeroCells z.cells (n - m)).toList,u.oneCell' = true:=by
    intro u hu
    have hpos:0 < z.cells.size:=by
     rcases Nat.eq_zero_or_pos z.cells.size with h | h
     ·exfalso
      have:(Builtin.zeroCells z.cells (n - m)).size = 0:=by rw [size_zeroCells,h]; simp
      rw [Array.eq_empty_of_size_eq_zero this] at hu
      simp at hu
     ·exact h
    unfold Builtin.zeroCells at hu
    simp only [Array.toList_map,List.mem_map] at hu
    obtain ⟨j,_,rfl⟩:=hu
    have hj:=Nat.mod_lt j hpos
    have e:z.cells[j % z.cells.size]! = z.cells[j % z.cells.size]:=getElem!_pos z.cells _ hj
    rw [e]
    exact hz1 _ (Array.getElem_mem_toList hj)
   have hst:=run_storeCells_at P g (m * size) e _ 0 cur w hg (by rw [hzl]; omega) hz1'
   simp only [Nat.add_zero] at hst
   refine ⟨w.setRow g (cur.toList.take (m * size) ++ (Builtin.zeroCells z.cells (n - m)).toList ++ cur.toList.drop (m * size + (Builtin.zeroCells z.cells (n - m)).toList.length)).toArray,List.take (n * size) (cur.toList.take (m * size) ++ (Builtin.zeroCells z.cells (n - m)).toList ++ cur.toList.drop (m * size + (Builtin.zeroCells z.cells (n - m)).toList.length)),?_,⟨?_,.inr ⟨g,c,_,rfl,hb,setRow_heap w g cur _ e _ hg,hc,hcm,?_,?_⟩⟩,?_,⟨rfl,rfl,rfl,by simp,fun k _ hk => setRow_other w g k _ (fun e => hk (by simp [e]))⟩⟩
   ·have h0':∃ q,n - m = q + 1:=⟨n - m - 1,by omega⟩
    obtain ⟨q,hq⟩:=h0'
    have hzv:∀ w,(zeroValue e).run P w = .ok z w:=fun w => by simp [zeroValue,typeInfo,hi,hz]
    rw [hq] at hst ⊢
    simp [Builtin.clear_,run_underlying ht,hzv,hst]
   ·simp only [List.length_take,List.length_append,List.length_drop,hzl,Array.length_toList]
    have h3:n * size ≤ cur.size:=by rw [hs]; exact Nat.mul_le_mul_right _ hc
    have h4:m * size + (n - m) * size = n * size:=by rw [← Nat.add_mul]; congr 1; omega
    omega
   ·simp only [List.size_toArray,List.length_append,List.length_take,List.length_drop,hzl,Array.length_toList]
    omega
   ·rfl
   ·rw [← ht',List.take_take,List.take_take]
    have h5:m * size ≤ n * size:=Nat.mul_le_mul_right _ hm
    rw [Nat.min_eq_left h5,List.append_assoc,List.take_append_of_le_length (by rw [List.length_take,Array.length_toList]; omega),List.take_take,Nat.min_self]
theorem wpList_clear_own {ops:Array Oper} {rest:List Oper} {o:Oper} {a:Act} {w:World} {Q:Exit → Act → World → Prop} (hgd:o.guard = none) (x:Operand) (t:TypeId)
  (ho:o.op = .call { callee:=.builtin .clear,args:=#[x],argTypes:=#[t] })
  (base:Nat) (e:TypeId) (i:TypeInfo) (z:Value) (size:Nat) (ht:P.underlying t = some (.slice e)) (hi:P.info? e = some i) (hz:i.zero = some z) (hzs:z.cells.size = size) (hz1:∀ u ∈ z.cells.toList,u.oneCell' = true)
  (g n c m:Nat) (xs:List Value) (hown:w.ownsRow base e size (.slice (some ⟨g,0,none⟩) n c) n xs) (hm:m ≤ n) (A:Option Addr) (c':Nat) (hx:a.eval x = .slice A (n - m) c') (hA:A = some ((⟨g,0,none⟩:Addr).add (m * size)) ∨ n - m = 0)
  (h:∀ w' ys,w'.ownsRow base e size (.slice (some ⟨g,0,none⟩) n c) n ys → ys.take (m * size) = xs.take (m * size) → w.grownBy w' (some g) → wpList P ops Q rest (a.put o.dst (.tuple #[])) w'):wpList P ops Q (o :: rest) a w:=by
 refine wpList_plain hgd fun _ hK => ?_
 obtain ⟨w',ys,hr,h1,h2,h3⟩:=run_clear_own (P:=P) w base t e o.type i z size ht hi hz hzs hz1 g n c m xs hown hm A hA c'
 unfold Oper.wp execOp
 simp only [ho,resolve,invoke,builtin,Sem.run_bind,Sem.run_pure,Result.andThen_ok,List.map_toArray,List.map_cons,List.map_nil,hx,hr]
 exact hK _ _ (h w' ys h1 h2 h3)
end
theorem enter_run {P : Program} {f : FuncId} {fn : Func} (hf : P.funcs[f]? = some fn) (hb : fn.body.isNone = false) (hnm : (fn.name == "runtime.NumGoroutine") = false) : ∀ vals w, (callFunc f vals).run P w = .ok (.enter f vals) w := by
 intro vals w
 have h1 : fn.name ≠ "runtime.NumGoroutine" := by simpa using hnm
 have h2:fn.body ≠ none:=by intro e; rw [e] at hb; cases hb
 simp [callFunc,run_program,hf]
 rw [if_neg h1,if_neg h2]
def idxOf (q n:Nat):Int:=if q < n then (q:Int) else -1
theorem idxOf_yes {q n:Nat} (h:q < n):idxOf q n = q:=if_pos h
theorem idxOf_no {q n:Nat} (h:¬ q < n):idxOf q n = -1:=if_neg h
theorem own_cut {w:World} {base:Nat} {e:TypeId} {size n m g c:Nat} {xs:List Value} (h:w.ownsRow base e size (.slice (some ⟨g,0,none⟩) n c) n xs) (hm:m ≤ n):w.ownsRow base e size (.slice (some ⟨g,0,none⟩) m c) m (xs.take (m * size)):=by
 have hle:m * size ≤ n * size:=Nat.mul_le_mul_right _ hm
 refine ⟨by rw [List.length_take,h.1]; omega,?_⟩
 rcases h.2 with ⟨h',_⟩ | ⟨g',cap,cur,h',hb,hg,hc,hcm,hs,ht⟩
 ·simp at h'
 ·simp only [Value.slice.injEq,Option.some.injEq,Addr.mk.injEq,and_true,true_and] at h'
  obtain ⟨rfl,rfl⟩:=h'
  refine .inr ⟨g,c,cur,rfl,hb,hg,by omega,hcm,hs,?_⟩
  rw [← ht,List.take_take]
  congr 1
  omega
theorem own_at {w:World} {base:Nat} {e:TypeId} {size n:Nat} {v:Value} {xs:List Value} (h:w.ownsRow base e size v n xs) (hn:0 < n):∃ g c,v = .slice (some ⟨g,0,none⟩) n c ∧ n ≤ c ∧ c ≤ maxLen ∧ base ≤ g ∧ g < w.heap.size:=by
 rcases h.2 with ⟨rfl,rfl⟩ | ⟨g',cap,cur,rfl,hb,hg,hc,hm,_⟩
 ·omega
 ·exact ⟨_,_,rfl,hc,hm,hb,lt_of_block hg⟩
theorem own_down {w:World} {base base':Nat} {e:TypeId} {size n:Nat} {v:Value} {xs:List Value} (h:w.ownsRow base e size v n xs) (hb:base' ≤ base):w.ownsRow base' e size v n xs:=by
 refine ⟨h.1,?_⟩
 rcases h.2 with hx | ⟨g,cap,cur,h1,h2,rest⟩
 ·exact .inl hx
 ·exact .inr ⟨g,cap,cur,h1,by omega,rest⟩
end Go.Proofs.YtjldgcebadojiaaGreatDoor
namespace Go.Proofs.YtjldgcebadojiaaGreatDoor
open Go.ChangeShapes Go.WideShapes Go.ChangeAt Go.RowKit Go.Sort
set_option linter.unusedSimpArgs false
set_option linter.unusedVariables false
open Go.Maps (Keyed)
set_option maxRecDepth 100000
def heldV (v:Value):Option (DataW Value × List MemPlace):=some (.held v,[])
noncomputable def setS (S:Lit → Option Value) (kl:Lit) (v:Value):Lit → Option Value:=fun j => @ite _ (j = kl) (Classical.propDecidable _) (some v) (S j)
theorem setS_same (S:Lit → Option Value) (kl:Lit) (v:Value):setS S kl v kl = some v:=if_pos rfl
theorem setS_other (S:Lit → Option Value) {kl j:Lit} (v:Value) (h:j ≠ kl):setS S kl v j = S j:=if_neg h
def MapV (w:World) (k:TypeId) (b n:Nat) (S:Lit → Option Value):Prop:=
 ∃ D:DataW Value,w.ownsMap Tryz.prog k heldV b n D ∧ ∀ kl,WideAt.IsKeyLit kl → Maps.has D kl = (S kl).isSome ∧ ∀ v,S kl = some v → ∀ z,D.atKey kl z = .held v
theorem MapV.made (w:World) (k:TypeId):MapV (w.alloc (.map #[] 0)) k w.heap.size 0 (fun _ => none):=
 ⟨.map [],World.ownsMap_made _ _ _ _,fun kl _ => ⟨rfl,fun v h => by cases h⟩⟩
theorem MapV.lt {w:World} {k:TypeId} {b n:Nat} {S:Lit → Option Value} (h:MapV w k b n S):b < w.heap.size:=let ⟨_,h,_⟩:=h; h.lt
theorem MapV.kept {w w':World} {k:TypeId} {b n:Nat} {S:Lit → Option Value} {row:Option Nat} (h:MapV w k b n S) (hg:w.grownBy w' row) (hne:some b ≠ row):MapV w' k b n S:=let ⟨D,h1,h2⟩:=h; ⟨D,h1.kept hg hne,h2⟩
theorem MapV.below {w w':World} {k:TypeId} {b n:Nat} {S:Lit → Option Value} (h:MapV w k b n S) (hb:Below w.heap.size w w'):MapV w' k b n S:=h.kept (grown_of_below (row:=none) hb) (by simp)
theorem MapV.alloc {w:World} {k:TypeId} {b n:Nat} {S:Lit → Option Value} (h:MapV w k b n S) (o:Obj):MapV (w.alloc o) k b n S:=let ⟨D,h1,h2⟩:=h; ⟨D,h1.alloc o,h2⟩
theorem MapV.drew {w:World} {k:TypeId} {b n:Nat} {S:Lit → Option Value} (h:MapV w k b n S):MapV w.drew k b n S:=h
theorem MapV.congr {w:World} {k:TypeId} {b n:Nat} {S S':Lit → Option Value} (h:MapV w k b n S) (e:∀ kl,S kl = S' kl):MapV w k b n S':=by
 have:S = S':=funext e
 rw [← this]; exact h
theorem MapV.look {w:World} {k t e:TypeId} {b n:Nat} {S:Lit → Option Value} (h:MapV w k b n S) (K:Keyed Tryz.prog k) (ht:Tryz.prog.underlying t = some (.map k e)) {z:Value} (hz:(zeroValue e).run Tryz.prog w = .ok z w) {key:Value} {kl:Lit} (hkey:keyOf Tryz.prog k key = some kl) (hl:WideAt.IsKeyLit kl) :
  (Instr.lookup t (.map (some b)) key false).run Tryz.prog w = .ok ((S kl).getD z) w:=by
 obtain ⟨D,h1,h2⟩:=h
 obtain ⟨v,ps,hrun,hv⟩:=h1.lookup K ht hz (z:=z) (zd:=.held z) (zp:=[]) rfl hkey
 obtain ⟨g1,g2⟩:=h2 kl hl
 simp only [heldV,Option.some.injEq,Prod.mk.injEq] at hv
 rw [hrun]
 cases hs:S kl with
 | none =>
  rw [hs] at g1
  rw [Maps.atKey_of_not_has g1] at hv
  injection hv.1 with hv
  rw [hv]; rfl
 | some x =>
  rw [g2 x hs] at hv
  injection hv.1 with hv
  rw [hv]; rfl
theorem MapV.look_ok {w:World} {k t e:TypeId} {b n:Nat} {S:Lit → Option Value} (h:MapV w k b n S) (K:Keyed Tryz.prog k) (ht:Tryz.prog.underlying t = some (.map k e)) {z:Value} (hz:(zeroValue e).run Tryz.prog w = .ok z w) {key:Value} {kl:Lit} (hkey:keyOf Tryz.prog k key = some kl) (hl:WideAt.IsKeyLit kl) :
  (Instr.lookup t (.map (some b)) key true).run Tryz.prog w = .ok (.tuple #[(S kl).getD z,.bool (S kl).isSome]) w:=by
 obtain ⟨D,h1,h2⟩:=h
 obtain ⟨v,ps,hrun,hv⟩:=h1.look_ok K ht hz (z:=z) (zd:=.held z) (zp:=[]) rfl hkey
 obtain ⟨g1,g2⟩:=h2 kl hl
 simp only [heldV,Option.some.injEq,Prod.mk.injEq] at hv
 rw [hrun,g1]
 cases hs:S kl with
 | none =>
  rw [hs] at g1
  rw [Maps.atKey_of_not_has g1] at hv
  injection hv.1 with hv
  rw [hv]; rfl
 | some x =>
  rw [g2 x hs] at hv
  injection hv.1 with hv
  rw [hv]; rfl
theorem MapV.put {w:World} {k t e:TypeId} {b n:Nat} {S:Lit → Option Value} (h:MapV w k b n S) (K:Keyed Tryz.prog k) (ht:Tryz.prog.underlying t = some (.map k e)) (hn:n < maxLen) {key:Value} {kl:Lit} (hkey:keyOf Tryz.prog k key = some kl) (hl:WideAt.IsKeyLit kl) (v:Value) :
  ∃ w',(Instr.mapUpdate t (.map (some b)) key v).run Tryz.prog w = .ok () w' ∧ MapV w' k b (n + 1) (setS S kl v) ∧ w.grownBy w' (some b):=by
 obtain ⟨D,h1,h2⟩:=h
 have hm:=h1.isMap
 obtain ⟨w',hrun,hown,ht2⟩:=h1.store K ht hn hkey (val:=v) (d:=.held v) (ps:=[]) rfl
 refine ⟨w',hrun,⟨_,hown,fun j hj => ?_⟩,ht2.grown⟩
 by_cases e:j = kl
 ·subst e
  rw [Maps.has_put_same hm hj]
  rw [setS_same]
  refine ⟨by simp,fun x hx z => ?_⟩
  rw [Maps.atKey_put_same hm hj]
  simp only [Option.some.injEq] at hx
  rw [hx]
 ·rw [Maps.has_put_other e]
  rw [setS_other _ _ e]
  refine ⟨(h2 j hj).1,fun x hx z => ?_⟩
  rw [Maps.atKey_put_other e]
  exact (h2 j hj).2 x hx z
theorem MapV.len {w:World} {k t e:TypeId} {b n:Nat} {S:Lit → Option Value} (h:MapV w k b n S) (ht:Tryz.prog.underlying t = some (.map k e)) (ty:TypeId) :
  ∃ q:Nat,(Builtin.len_ #[t] ty #[.map (some b)]).run Tryz.prog w = .ok (.int .i64 q) w ∧ q ≤ n ∧ ∀ kl,WideAt.IsKeyLit kl → (S kl).isSome = true → 0 < q:=by
 obtain ⟨D,h1,h2⟩:=h
 refine ⟨_,h1.len ht ty,h1.size_le,fun kl hl hs => ?_⟩
 rw [← (h2 kl hl).1] at hs
 obtain ⟨es,rfl⟩:=h1.isMap
 rw [Maps.has_eq] at hs
 rw [Maps.size_eq]
 cases es with
 | nil => simp at hs
 | cons x r => simp
end Go.Proofs.YtjldgcebadojiaaGreatDoor
