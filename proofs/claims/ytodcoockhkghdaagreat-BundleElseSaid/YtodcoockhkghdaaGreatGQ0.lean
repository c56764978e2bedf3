/- Several texts of mine in one: Appl, SlLib, Cmp, TyRg, SlRg, Ranges. No condition. -/
import Derived.Test.YtodcoockhkghdaaGreatGQ7
import Derived.Lib.LazyBuf
import Derived.Test.YtodcoockhkghdaaGreatChecked
import Derived.Test.YtodcoockhkghdaaGreatGQ4
import Derived.StillTailTactics
import Derived.Deep.RegionHeld3
namespace Go.Proofs.YtodcoockhkghdaaGreat
open Go.ChangeShapes Go.WideShapes Go.ChangeAt Go.RowKit Go.Sort
set_option linter.unusedSimpArgs false
set_option linter.unusedVariables false
section
variable {P:Program} (w:World)
theorem run_append_lst (base:Nat) (t ty e:TypeId) (i:TypeInfo) (z:Value) (size bytes:Nat) (ht:P.underlying t = some (.slice e)) (hi:P.info? e = some i) (hz:i.zero = some z)
  (hsize:i.size = size) (hby:i.bytes = bytes) (hzs:z.cells.size = size) (hsz:0 < size)
  (v:Value) (n:Nat) (xs:List Value) (hown:w.ownsRow base e size v n xs)
  (B:Nat) (A:Option Addr) (m c:Nat) (news:List Value) (hr:Lst w B size A m news) (h1:∀ u ∈ news,u.oneCell' = true)
  (h63:n + m ≤ maxLen) (hbytes:(n + m) * bytes ≤ 140737488355328) (hbase:base ≤ w.heap.size) :
  ∃ v' w',(Builtin.append_ #[t,t] ty #[v,.slice A m c]).run P w = .ok v' w' ∧ w'.ownsRow base e size v' (n + m) (xs ++ news) ∧ w.grownBy w' v.ownBlock ∧ (v'.ownBlock = v.ownBlock ∨ v'.ownBlock = some w.heap.size):=by
 have hcase:(m = 0 ∧ news = []) ∨ 0 < m:=by
  rcases Nat.eq_zero_or_pos m with h | h
  ·subst h; exact .inl ⟨rfl,List.eq_nil_of_length_eq_zero (by simpa using hr.len)⟩
  ·exact .inr h
 rcases hcase with ⟨rfl,rfl⟩ | hm
 ·cases A with
  | none =>
   refine ⟨v,w,?_,by simpa using hown,grown_refl w _,.inl rfl⟩
   rcases hown.2 with ⟨rfl,rfl⟩ | ⟨g,cap,cur,rfl,_,_,hnc,_⟩
   ·simp [Builtin.append_,run_underlying ht,sizeOf,typeInfo,hi,Builtin.lenOf,Builtin.firstCells]
   ·simp [Builtin.append_,run_underlying ht,sizeOf,typeInfo,hi,Builtin.lenOf,Builtin.firstCells,hnc,storeCells]
  | some ad =>
   obtain ⟨v',w',hrun,h2,h3,_,h5⟩:=run_append_own_at (P:=P) w base t ty e i z size bytes ht hi hz hsize hby hzs hsz v n xs hown ad 0 c [] (by simp) (by simp) (by simp) h63 hbytes hbase
   exact ⟨v',w',hrun,h2,h3,h5⟩
 ·obtain ⟨ad,rfl,_,hc⟩:=hr.at_ hm
  obtain ⟨v',w',hrun,h2,h3,_,h5⟩:=run_append_own_at (P:=P) w base t ty e i z size bytes ht hi hz hsize hby hzs hsz v n xs hown ad m c news hr.len hc h1 h63 hbytes hbase
  exact ⟨v',w',hrun,h2,h3,h5⟩

theorem wp_append_lst {o:Oper} {a:Act} {K:Act → World → Prop} {Q:Exit → Act → World → Prop} (s x:Operand) (t:TypeId)
  (ho:o.op = .call { callee:=.builtin .append,args:=#[s,x],argTypes:=#[t,t] })
  (base:Nat) (e:TypeId) (i:TypeInfo) (z:Value) (size bytes:Nat) (ht:P.underlying t = some (.slice e)) (hi:P.info? e = some i) (hz:i.zero = some z)
  (hsize:i.size = size) (hby:i.bytes = bytes) (hzs:z.cells.size = size) (hsz:0 < size)
  (v:Value) (n:Nat) (xs:List Value) (hs:a.eval s = v) (hown:w.ownsRow base e size v n xs)
  (B:Nat) (A:Option Addr) (m c:Nat) (news:List Value) (hx:a.eval x = .slice A m c) (hr:Lst w B size A m news) (h1:∀ u ∈ news,u.oneCell' = true)
  (h63:n + m ≤ maxLen) (hbytes:(n + m) * bytes ≤ 140737488355328) (hbase:base ≤ w.heap.size)
  (h:∀ v' w',w'.ownsRow base e size v' (n + m) (xs ++ news) → w.grownBy w' v.ownBlock → (v'.ownBlock = v.ownBlock ∨ v'.ownBlock = some w.heap.size) → K (a.put o.dst v') w'):o.wp P a w K Q:=by
 obtain ⟨v',w',hr,h2,h3,h4⟩:=run_append_lst (P:=P) w base t o.type e i z size bytes ht hi hz hsize hby hzs hsz v n xs hown B A m c news hr h1 h63 hbytes hbase
 unfold Oper.wp execOp
 simp only [ho,resolve,invoke,builtin,Sem.run_bind,Sem.run_pure,Result.andThen_ok,List.map_toArray,List.map_cons,List.map_nil,hs,hx,hr]
 exact h v' w' h2 h3 h4

theorem wpList_append_lst {ops:Array Oper} {rest:List Oper} {o:Oper} {a:Act} {Q:Exit → Act → World → Prop} (hgd:o.guard = none) (s x:Operand) (t:TypeId)
  (ho:o.op = .call { callee:=.builtin .append,args:=#[s,x],argTypes:=#[t,t] })
  (base:Nat) (e:TypeId) (i:TypeInfo) (z:Value) (size bytes:Nat) (ht:P.underlying t = some (.slice e)) (hi:P.info? e = some i) (hz:i.zero = some z)
  (hsize:i.size = size) (hby:i.bytes = bytes) (hzs:z.cells.size = size) (hsz:0 < size)
  (v:Value) (n:Nat) (xs:List Value) (hs:a.eval s = v) (hown:w.ownsRow base e size v n xs)
  (B:Nat) (A:Option Addr) (m c:Nat) (news:List Value) (hx:a.eval x = .slice A m c) (hr:Lst w B size A m news) (h1:∀ u ∈ news,u.oneCell' = true)
  (h63:n + m ≤ maxLen) (hbytes:(n + m) * bytes ≤ 140737488355328) (hbase:base ≤ w.heap.size)
  (h:∀ v' w',w'.ownsRow base e size v' (n + m) (xs ++ news) → w.grownBy w' v.ownBlock → (v'.ownBlock = v.ownBlock ∨ v'.ownBlock = some w.heap.size) → wpList P ops Q rest (a.put o.dst v') w'):wpList P ops Q (o :: rest) a w:=
 wpList_plain hgd fun _ hK => wp_append_lst w s x t ho base e i z size bytes ht hi hz hsize hby hzs hsz v n xs hs hown B A m c news hx hr h1 h63 hbytes hbase fun v' w' h2 h3 h4 => hK _ _ (h v' w' h2 h3 h4)

end
section
variable {w w':World} {B size n:Nat} {A:Option Addr} {xs:List Value}
theorem Lst.from_ (h:Lst w B size A n xs) {k cap:Nat} (hk:k ≤ n) (hc:n ≤ cap):Lst w B size (if cap = k then A else A.map (·.add (k * size))) (n - k) (xs.drop (k * size)):=by
 refine ⟨by rw [List.length_drop,h.len,Nat.sub_mul],fun hn => ?_⟩
 obtain ⟨ad,rfl,hb,hcell⟩:=h.at_ (by omega)
 rw [if_neg (by omega)]
 refine ⟨ad.add (k * size),rfl,by rw [add_block]; exact hb,fun j u hu => ?_⟩
 rw [add_plus]
 exact hcell _ u (by rw [← hu,List.getElem?_drop])
theorem Lst.upto (h:Lst w B size A n xs) {k:Nat} (hk:k ≤ n):Lst w B size A k (xs.take (k * size)):=by
 have hle:k * size ≤ n * size:=Nat.mul_le_mul_right _ hk
 refine ⟨by rw [List.length_take,h.len]; omega,fun hn => ?_⟩
 obtain ⟨ad,rfl,hb,hcell⟩:=h.at_ (by omega)
 refine ⟨ad,rfl,hb,fun j u hu => hcell j u ?_⟩
 rw [List.getElem?_take] at hu
 split at hu
 ·exact hu
 ·cases hu
theorem Lst.grown {row:Option Nat} (h:Lst w B size A n xs) (hg:w.grownBy w' row) (hB:B ≤ w.heap.size) (hr:∀ g,row = some g → B ≤ g):Lst w' B size A n xs:=
 h.kept (S:=fun _ => False) fun i hi => hg.block i (by omega) (fun e => by have:=hr i e.symm; omega)
theorem Lst.keptS {S:Nat → Prop} (h:Lst w B size A n xs) (hk:Kept S w w') (hB:B ≤ w.heap.size) (hS:∀ i,i < B → ¬ S i):Lst w' B size A n xs:=
 h.kept (S:=S) fun i hi => hk.block i (by omega) (hS i hi)
end
end Go.Proofs.YtodcoockhkghdaaGreat
namespace Go.Proofs.YtodcoockhkghdaaGreat
open Go.ChangeShapes Go.WideShapes Go.ChangeAt Go.RowKit Go.Sort
set_option linter.unusedSimpArgs false
set_option linter.unusedVariables false

structure Sl (w:World) (B k:Nat) (A:Option Addr) (n c:Nat) (xs:List Value):Prop where
 lst:Lst w B k A n xs
 cap:n ≤ c
 max:c ≤ maxLen
 nil:A = none → c = 0
section
variable {w w':World} {B B' k n c:Nat} {A:Option Addr} {xs:List Value}
theorem Sl.below (h:Sl w B k A n c xs) (hb:Below B w w'):Sl w' B k A n c xs:=⟨h.lst.below hb,h.cap,h.max,h.nil⟩
theorem Sl.more (h:Sl w B k A n c xs) (hB:B ≤ B'):Sl w B' k A n c xs:=⟨h.lst.more hB,h.cap,h.max,h.nil⟩
theorem Sl.up (h:Sl w w.heap.size k A n c xs) (hb:Below w.heap.size w w'):Sl w' w'.heap.size k A n c xs:=(h.below hb).more hb.size
theorem Sl.nil0 (w:World) (B k:Nat):Sl w B k none 0 0 []:=⟨⟨by simp,fun h => by omega⟩,by omega,by simp [maxLen],fun _ => rfl⟩
theorem Sl.of_own {base:Nat} {e:TypeId} (h:w.ownsRow base e k (.slice A n c) n xs):Sl w w.heap.size k A n c xs:=by
 refine ⟨Lst.of_own h,?_,?_,?_⟩
 all_goals
  rcases h.2 with ⟨he,h0⟩ | ⟨g,cap,cur,he,hb,hg,hc,hm,_⟩
  ·injection he with e1 e2 e3
   subst e1 e2 e3
   simp [maxLen]
  ·injection he with e1 e2 e3
   subst e1 e3
   first | exact hc | exact hm | (intro e; cases e)
theorem Sl.upto (h:Sl w B k A n c xs) {m:Nat} (hm:m ≤ n):Sl w B k A m c (xs.take (m * k)):=⟨h.lst.upto hm,Nat.le_trans hm h.cap,h.max,h.nil⟩
theorem Sl.from_ (h:Sl w B k A n c xs) {m:Nat} (hm:m ≤ n):Sl w B k (if c = m then A else A.map (·.add (m * k))) (n - m) (c - m) (xs.drop (m * k)):=by
 refine ⟨h.lst.from_ hm h.cap,by have:=h.cap; omega,by have:=h.max; omega,fun e => ?_⟩
 split at e
 ·omega
 ·have:A = none:=by cases A with | none => rfl | some a => simp at e
  have:=h.nil this
  omega
end
theorem addr_next (ad:Addr) (j m:Nat) (hm:0 < m):(⟨(ad.add j).block,(ad.add j).off + m,none⟩:Addr) = ad.add (j + m):=by
 unfold Addr.add
 by_cases hj:j = 0
 ·subst hj; simp; omega
 ·simp [hj]; omega
theorem own_lit (w:World) (base:Nat) (t:TypeId) (size n:Nat) (cs:Array Value) (hb:base ≤ w.heap.size) (hs:cs.size = n * size) (hm:n ≤ maxLen):(w.alloc (.cells cs t)).ownsRow base t size (.slice (some ⟨w.heap.size,0,none⟩) n n) n cs.toList:=
 ⟨by simpa using hs,.inr ⟨w.heap.size,n,cs,rfl,hb,heap_alloc_new w _,Nat.le_refl _,hm,hs,by rw [List.take_of_length_le (by simp; omega)]⟩⟩

section
variable {P:Program}
theorem run_append_made (w:World) (t ty e k:TypeId) (i:TypeInfo) (z:Value) (ht:P.underlying t = some (.slice e)) (hk:P.underlying k = some (.int .i64)) (hi:P.info? e = some i) (hz:i.zero = some z)
  (n:Nat) (h0:0 < n) (hsz:0 < i.size) (h63:(n:Int) ≤ 9223372036854775807) (h48:n * i.bytes ≤ 281474976710656) :
  ∃ c cur,(Builtin.append_ #[t,k] ty #[.slice none 0 0,.int .i64 n]).run P w = .ok (.slice (some ⟨w.heap.size,0,none⟩) n c) (w.drew.alloc (.cells cur e)) ∧ cur.size = c * z.cells.size ∧ n ≤ c ∧ c ≤ maxLen:=by
 refine ⟨grownCap w n 0 e,Builtin.zeroCells z.cells n ++ Builtin.zeroCells z.cells (grownCap w n 0 e - n),?_,?_,grownCap_ge w n 0 e,grownCap_le_maxLen w n 0 e (by unfold maxLen; omega)⟩
 ·have hn:n ≠ 0:=by omega
  have hw:IntKind.i64.wrap (n:Int) = n:=IntWalk.i64_in _ (by omega)
  have h63':¬ (9223372036854775807 < (n:Int)):=by omega
  have h48':¬ (281474976710656 < Builtin.nextslicecap n 0 * i.bytes):=by rw [nextslicecap_zero h0]; omega
  have h48i:¬ (281474976710656 < (n:Int) * (i.bytes:Int)):=by
   have h:=Int.ofNat_le.2 h48
   rw [Int.natCast_mul] at h
   omega
  have hs:i.size ≠ 0:=by omega
  simp [Builtin.append_,run_underlying ht,run_underlying hk,sizeOf,typeInfo,zeroValue,asInt,asIntOf,hi,hz,hn,hs,hw,h63',h48',h48i,Question.forced,run_firstCells_none,newRow,grownCap]
  have hns:¬ (n * i.size = 0):=by
   have:=Nat.mul_pos h0 hsz
   omega
  rw [if_neg (by omega:¬ ((n:Int) < 0)),if_neg hns]
 ·have:=grownCap_ge w n 0 e
  simp only [Array.size_append,size_zeroCells,← Nat.add_mul]
  congr 1
  omega
theorem wpList_append_made {ops:Array Oper} {rest:List Oper} {o:Oper} {a:Act} {w:World} {Q:Exit → Act → World → Prop} (hgd:o.guard = none) (s x:Operand) (t k:TypeId)
  (ho:o.op = .call { callee:=.builtin .append,args:=#[s,x],argTypes:=#[t,k] })
  (e:TypeId) (i:TypeInfo) (z:Value) (size:Nat) (ht:P.underlying t = some (.slice e)) (hk:P.underlying k = some (.int .i64)) (hi:P.info? e = some i) (hz:i.zero = some z) (hsize:i.size = size) (hzs:z.cells.size = size)
  (n:Nat) (hs:a.eval s = .slice none 0 0) (hx:a.eval x = .int .i64 n) (h0:0 < n) (hsz:0 < size) (h63:(n:Int) ≤ 9223372036854775807) (h48:n * i.bytes ≤ 281474976710656)
  (h:∀ c w',w'.ownsRow w.heap.size e size (.slice (some ⟨w.heap.size,0,none⟩) 0 c) 0 [] → Below w.heap.size w w' → n ≤ c → wpList P ops Q rest (a.put o.dst (.slice (some ⟨w.heap.size,0,none⟩) n c)) w'):wpList P ops Q (o :: rest) a w:=by
 refine wpList_plain hgd fun _ hK => ?_
 obtain ⟨c,cur,hr,h1,h2,h3⟩:=run_append_made (P:=P) w t o.type e k i z ht hk hi hz n h0 (by omega) h63 h48
 unfold Oper.wp execOp
 simp only [ho,resolve,invoke,builtin,Sem.run_bind,Sem.run_pure,Result.andThen_ok,List.map_toArray,List.map_cons,List.map_nil,hs,hx,hr]
 refine hK _ _ (h c _ ?_ ?_ h2)
 ·exact World.ownsRow_made w.drew cur c (Nat.le_refl _) h3 (by rw [h1,hzs])
 ·exact (Below.drew (Below.refl _ _)).alloc (Nat.le_refl _) _

theorem run_clear_own (w:World) (base:Nat) (t e ty:TypeId) (i:TypeInfo) (z:Value) (size:Nat) (ht:P.underlying t = some (.slice e)) (hi:P.info? e = some i) (hz:i.zero = some z) (hzs:z.cells.size = size) (hz1:∀ u ∈ z.cells.toList,u.oneCell' = true)
  (g n c m:Nat) (xs:List Value) (hown:w.ownsRow base e size (.slice (some ⟨g,0,none⟩) n c) n xs) (hm:m ≤ n) (A:Option Addr) (hA:A = some ((⟨g,0,none⟩:Addr).add (m * size)) ∨ n - m = 0) (c':Nat) :
  ∃ w' ys,(Builtin.clear_ #[t] ty #[.slice A (n - m) c']).run P w = .ok (.tuple #[]) w' ∧ w'.ownsRow base e size (.slice (some ⟨g,0,none⟩) n c) n ys ∧ ys.take (m * size) = xs.take (m * size) ∧ w.grownBy w' (some g):=by
 by_cases h0:n - m = 0
 ·refine ⟨w,xs,?_,hown,rfl,grown_refl _ _⟩
  rw [h0]
  cases A <;> simp [Builtin.clear_,run_underlying ht]
 ·obtain rfl:A = some ((⟨g,0,none⟩:Addr).add (m * size)):=hA.resolve_right h0
  rcases hown.2 with ⟨h',_⟩ | ⟨g',cap,cur,h',hb,hg,hc,hcm,hs,ht'⟩
  ·simp at h'
  ·simp only [Value.slice.injEq,Option.some.injEq,Addr.mk.injEq,and_true,true_and] at h'
   obtain ⟨rfl,rfl⟩:=h'
   have hadd:((⟨g,0,none⟩:Addr).add (m * size)) = ⟨g,m * size,none⟩:=by unfold Addr.add; split <;> simp_all
   rw [hadd]
   have hzl:(Builtin.zeroCells z.cells (n - m)).toList.length = (n - m) * size:=by rw [Array.length_toList,size_zeroCells,hzs]
   have hle:m * size + (n - m) * size ≤ cur.size:=by
    rw [← Nat.add_mul,hs]; exact Nat.mul_le_mul_right _ (by omega)
   have hz1':∀ u ∈ (Builtin.zeroCells z.cells (n - m)).toList,u.oneCell' = true:=by
    intro u hu
    have hpos:0 < z.cells.size:=by
     rcases Nat.eq_zero_or_pos z.cells.size with h | h
     ·exfalso
      have:(Builtin.zeroCells z.cells (n - m)).size = 0:=by rw [size_zeroCells,h]; simp
      rw [Array.eq_empty_of_size_eq_zero this] at hu
      simp at hu
     ·exact h
    unfold Builtin.zeroCells at hu
    simp only [Array.toList_map,List.mem_map] at hu
    obtain ⟨j,_,rfl⟩:=hu
    have hj:=Nat.mod_lt j hpos
    have e:z.cells[j % z.cells.size]! = z.cells[j % z.cells.size]:=getElem!_pos z.cells _ hj
    rw [e]
    exact hz1 _ (Array.getElem_mem_toList hj)
   have hst:=run_storeCells_at P g (m * size) e _ 0 cur w hg (by rw [hzl]; omega) hz1'
   simp only [Nat.add_zero] at hst
   refine ⟨w.setRow g (cur.toList.take (m * size) ++ (Builtin.zeroCells z.cells (n - m)).toList ++ cur.toList.drop (m * size + (Builtin.zeroCells z.cells (n - m)).toList.length)).toArray,List.take (n * size) (cur.toList.take (m * size) ++ (Builtin.zeroCells z.cells (n - m)).toList ++ cur.toList.drop (m * size + (Builtin.zeroCells z.cells (n - m)).toList.length)),?_,⟨?_,.inr ⟨g,c,_,rfl,hb,setRow_heap w g cur _ e _ hg,hc,hcm,?_,?_⟩⟩,?_,⟨rfl,rfl,rfl,by simp,fun k _ hk => setRow_other w g k _ (fun e => hk (by simp [e]))⟩⟩
   ·have h0':∃ q,n - m = q + 1:=⟨n - m - 1,by omega⟩
    obtain ⟨q,hq⟩:=h0'
    have hzv:∀ w,(zeroValue e).run P w = .ok z w:=fun w => by simp [zeroValue,typeInfo,hi,hz]
    rw [hq] at hst ⊢
    simp [Builtin.clear_,run_underlying ht,hzv,hst]
   ·simp only [List.length_take,List.length_append,List.length_drop,hzl,Array.length_toList]
    have h3:n * size ≤ cur.size:=by rw [hs]; exact Nat.mul_le_mul_right _ hc
    have h4:m * size + (n - m) * size = n * size:=by rw [← Nat.add_mul]; congr 1; omega
    omega
   ·simp only [List.size_toArray,List.length_append,List.length_take,List.length_drop,hzl,Array.length_toList]
    omega
   ·rfl
   ·rw [← ht',List.take_take,List.take_take]
    have h5:m * size ≤ n * size:=Nat.mul_le_mul_right _ hm
    rw [Nat.min_eq_left h5,List.append_assoc,List.take_append_of_le_length (by rw [List.length_take,Array.length_toList]; omega),List.take_take,Nat.min_self]
theorem wpList_clear_own {ops:Array Oper} {rest:List Oper} {o:Oper} {a:Act} {w:World} {Q:Exit → Act → World → Prop} (hgd:o.guard = none) (x:Operand) (t:TypeId)
  (ho:o.op = .call { callee:=.builtin .clear,args:=#[x],argTypes:=#[t] })
  (base:Nat) (e:TypeId) (i:TypeInfo) (z:Value) (size:Nat) (ht:P.underlying t = some (.slice e)) (hi:P.info? e = some i) (hz:i.zero = some z) (hzs:z.cells.size = size) (hz1:∀ u ∈ z.cells.toList,u.oneCell' = true)
  (g n c m:Nat) (xs:List Value) (hown:w.ownsRow base e size (.slice (some ⟨g,0,none⟩) n c) n xs) (hm:m ≤ n) (A:Option Addr) (c':Nat) (hx:a.eval x = .slice A (n - m) c') (hA:A = some ((⟨g,0,none⟩:Addr).add (m * size)) ∨ n - m = 0)
  (h:∀ w' ys,w'.ownsRow base e size (.slice (some ⟨g,0,none⟩) n c) n ys → ys.take (m * size) = xs.take (m * size) → w.grownBy w' (some g) → wpList P ops Q rest (a.put o.dst (.tuple #[])) w'):wpList P ops Q (o :: rest) a w:=by
 refine wpList_plain hgd fun _ hK => ?_
 obtain ⟨w',ys,hr,h1,h2,h3⟩:=run_clear_own (P:=P) w base t e o.type i z size ht hi hz hzs hz1 g n c m xs hown hm A hA c'
 unfold Oper.wp execOp
 simp only [ho,resolve,invoke,builtin,Sem.run_bind,Sem.run_pure,Result.andThen_ok,List.map_toArray,List.map_cons,List.map_nil,hx,hr]
 exact hK _ _ (h w' ys h1 h2 h3)
end
theorem enter_run {P : Program} {f : FuncId} {fn : Func} (hf : P.funcs[f]? = some fn) (hb : fn.body.isNone = false) (hnm : (fn.name == "runtime.NumGoroutine") = false) : ∀ vals w, (callFunc f vals).run P w = .ok (.enter f vals) w := by
 intro vals w
 have h1 : fn.name ≠ "runtime.NumGoroutine" := by simpa using hnm
 have h2:fn.body ≠ none:=by intro e; rw [e] at hb; cases hb
 simp [callFunc,run_program,hf]
 rw [if_neg h1,if_neg h2]
def idxOf (q n:Nat):Int:=if q < n then (q:Int) else -1
theorem idxOf_yes {q n:Nat} (h:q < n):idxOf q n = q:=if_pos h
theorem idxOf_no {q n:Nat} (h:¬ q < n):idxOf q n = -1:=if_neg h
theorem own_cut {w:World} {base:Nat} {e:TypeId} {size n m g c:Nat} {xs:List Value} (h:w.ownsRow base e size (.slice (some ⟨g,0,none⟩) n c) n xs) (hm:m ≤ n):w.ownsRow base e size (.slice (some ⟨g,0,none⟩) m c) m (xs.take (m * size)):=by
 have hle:m * size ≤ n * size:=Nat.mul_le_mul_right _ hm
 refine ⟨by rw [List.length_take,h.1]; omega,?_⟩
 rcases h.2 with ⟨h',_⟩ | ⟨g',cap,cur,h',hb,hg,hc,hcm,hs,ht⟩
 ·simp at h'
 ·simp only [Value.slice.injEq,Option.some.injEq,Addr.mk.injEq,and_true,true_and] at h'
  obtain ⟨rfl,rfl⟩:=h'
  refine .inr ⟨g,c,cur,rfl,hb,hg,by omega,hcm,hs,?_⟩
  rw [← ht,List.take_take]
  congr 1
  omega
theorem own_at {w:World} {base:Nat} {e:TypeId} {size n:Nat} {v:Value} {xs:List Value} (h:w.ownsRow base e size v n xs) (hn:0 < n):∃ g c,v = .slice (some ⟨g,0,none⟩) n c ∧ n ≤ c ∧ c ≤ maxLen ∧ base ≤ g ∧ g < w.heap.size:=by
 rcases h.2 with ⟨rfl,rfl⟩ | ⟨g',cap,cur,rfl,hb,hg,hc,hm,_⟩
 ·omega
 ·exact ⟨_,_,rfl,hc,hm,hb,lt_of_block hg⟩
theorem own_down {w:World} {base base':Nat} {e:TypeId} {size n:Nat} {v:Value} {xs:List Value} (h:w.ownsRow base e size v n xs) (hb:base' ≤ base):w.ownsRow base' e size v n xs:=by
 refine ⟨h.1,?_⟩
 rcases h.2 with hx | ⟨g,cap,cur,h1,h2,rest⟩
 ·exact .inl hx
 ·exact .inr ⟨g,cap,cur,h1,by omega,rest⟩
end Go.Proofs.YtodcoockhkghdaaGreat
namespace Go.Proofs.YtodcoockhkghdaaGreat
open Go.ChangeShapes Go.WideShapes Go.ChangeAt Go.RowKit Go.Sort
set_option linter.unusedSimpArgs false
set_option linter.unusedVariables false
def cmpI (a b:Int):Int:=if a < b then -1 else if b < a then 1 else 0
theorem cmpI_lt {a b:Int} (h:a < b):cmpI a b = -1:=if_pos h
theorem cmpI_gt {a b:Int} (h:b < a):cmpI a b = 1:=by unfold cmpI; rw [if_neg (by omega),if_pos h]
theorem cmpI_eq (a:Int):cmpI a a = 0:=by unfold cmpI; rw [if_neg (by omega),if_neg (by omega)]
theorem cmpI_zero {a b:Int}:cmpI a b = 0 ↔ a = b:=by
 unfold cmpI; constructor
 ·intro h; split at h
  ·omega
  ·split at h <;> omega
 ·rintro rfl; rw [if_neg (by omega),if_neg (by omega)]
def orF:List Int → Int
 | [] => 0
 | x :: l => if x = 0 then orF l else x
theorem nan_any (a:Int) (w:World):Calls Tryz.prog 92 #[.int .i64 a] w fun e w' => e = .returned (.bool false) ∧ w = w':=by
 have hz:(a != a) = false:=by simp
 go_enter Tryz.func92,Tryz.ntmps92
 go_wp2
 go_ret
 exact ⟨rfl,rfl⟩
theorem cmp_any (a b:Int) (w:World):Calls Tryz.prog 54 #[.int .i64 a,.int .i64 b] w fun e w' => e = .returned (.int .i64 (cmpI a b)) ∧ w = w':=by
 by_cases h1:a < b
 ·rw [cmpI_lt h1]
  go_enter Tryz.func54,Tryz.ntmps54
  go_wp2_with (go_at_call 92; refine (nan_any _ _).mono ?_; rintro e w' ⟨rfl,rfl⟩)
  go_ret
  exact ⟨rfl,rfl⟩
 ·by_cases h2:b < a
  ·rw [cmpI_gt h2]
   go_enter Tryz.func54,Tryz.ntmps54
   go_wp2_with (go_at_call 92; refine (nan_any _ _).mono ?_; rintro e w' ⟨rfl,rfl⟩)
   go_ret
   exact ⟨rfl,rfl⟩
  ·have h0:cmpI a b = 0:=cmpI_zero.2 (by omega)
   rw [h0]
   go_enter Tryz.func54,Tryz.ntmps54
   go_wp2_with (go_at_call 92; refine (nan_any _ _).mono ?_; rintro e w' ⟨rfl,rfl⟩)
   go_ret
   exact ⟨rfl,rfl⟩
theorem orF_next:∀ (l:List Int) (k:Nat),k < l.length → (∀ j,j < k → l.getD j 0 = 0) → l.getD k 0 ≠ 0 → orF l = l.getD k 0
 | x :: l,0,_,_,h => by simp [orF] at *; intro e; exact absurd e h
 | x :: l,k + 1,hk,hz,h => by
  have h0:x = 0:=by simpa using hz 0 (by omega)
  rw [orF,if_pos h0]
  simpa using orF_next l k (by simpa using hk) (fun j hj => by simpa using hz (j + 1) (by omega)) (by simpa using h)
theorem orF_zero:∀ (l:List Int),(∀ j,j < l.length → l.getD j 0 = 0) → orF l = 0
 | [],_ => rfl
 | x :: l,h => by
  have h0:x = 0:=by simpa using h 0 (by simp)
  rw [orF,if_pos h0]
  exact orF_zero l (fun j hj => by simpa using h (j + 1) (by simpa using hj))
theorem or_any (g m c:Nat) (l:List Int) (w:World) (hm:l.length = m) (hm2:m ≤ 1000) (hc:∀ k,k < m → w.cell? ⟨g,k,none⟩ = some (.int .i64 (l.getD k 0))) :
  Calls Tryz.prog 169 #[.slice (some ⟨g,0,none⟩) m c] w fun e w' => e = .returned (.int .i64 (orF l)) ∧ w = w':=by
 have HC:=Lib.hid hc
 have HM:=Lib.hid hm
 clear hc hm
 go_enter Tryz.func169,Tryz.ntmps169
 go_wp2
 go_loop [8] (fun i => ∃ k:Nat,k ≤ m ∧ i = .int .i64 k ∧ Hid (∀ j,j < k → l.getD j 0 = 0)) (fun i => m - (intOf i).toNat)
 case atStart => exact ⟨0,by omega,rfl,fun j hj => by omega⟩
 case round =>
  obtain ⟨k,hk,rfl,HZ⟩:=hrel
  by_cases hkm:k < m
  ·have hck:=HC.out k hkm
   obtain ⟨y,hy⟩:∃ y,l.getD k 0 = y:=⟨_,rfl⟩
   rw [hy] at hck
   have HY:=Lib.hid hy
   clear hy
   by_cases h0:y = 0
   ·have hb:(y != 0) = false:=by simp [h0]
    have H0:=Lib.hid h0
    clear h0
    go_wp2
    go_round
    case rel => exact ⟨k + 1,by omega,by go_num,fun j hj => by
     by_cases e:j = k
     ·rw [e,HY.out]; exact H0.out
     ·exact HZ.out j (by omega)⟩
    case measure => simp [intOf]; omega
   ·have hb:(y != 0) = true:=by simpa using h0
    have hfin:orF l = y:=by rw [← HY.out]; exact orF_next l k (by have:=HM.out; omega) HZ.out (by rw [HY.out]; exact h0)
    have HF:=Lib.hid hfin
    clear hfin h0
    go_wp2
    go_ret
    exact ⟨by rw [HF.out]; rfl,rfl⟩
  ·have hfin:orF l = 0:=orF_zero l (fun j hj => HZ.out j (by have:=HM.out; omega))
   have HF:=Lib.hid hfin
   clear hfin
   go_wp2
   go_ret
   exact ⟨by rw [HF.out]; rfl,rfl⟩
structure Rg where
 fr:Int
 tn:Int
 st:Int
 en:Int
 ow:Int
theorem Rg.ext_ {a b:Rg} (h0:a.fr = b.fr) (h1:a.tn = b.tn) (h2:a.st = b.st) (h3:a.en = b.en) (h4:a.ow = b.ow):a = b:=by cases a; cases b; simp_all
instance:DecidableEq Rg:=fun a b => if h:a.fr = b.fr ∧ a.tn = b.tn ∧ a.st = b.st ∧ a.en = b.en ∧ a.ow = b.ow then isTrue (Rg.ext_ h.1 h.2.1 h.2.2.1 h.2.2.2.1 h.2.2.2.2) else isFalse (by rintro rfl; simp at h)
def Rg.cs (r:Rg):List Value:=[.int .i64 r.fr,.int .i64 r.tn,.int .i64 r.st,.int .i64 r.en,.int .i64 r.ow]
def flatRg (d:List Rg):List Value:=d.flatMap Rg.cs
def gRg (d:List Rg) (i:Nat):Rg:=d.getD i ⟨0,0,0,0,0⟩
theorem flatRg_cons (p:Rg) (d:List Rg):flatRg (p :: d) = .int .i64 p.fr :: .int .i64 p.tn :: .int .i64 p.st :: .int .i64 p.en :: .int .i64 p.ow :: flatRg d:=rfl
theorem flatRg_at0:∀ (d:List Rg) (i:Nat),i < d.length → (flatRg d)[i * 5]? = some (.int .i64 (gRg d i).fr)
 | p :: d,0,_ => rfl
 | p :: d,i + 1,h => by
  rw [flatRg_cons,show (i + 1) * 5 = i * 5 + 1 + 1 + 1 + 1 + 1 from by omega]
  simp only [List.getElem?_cons_succ]
  exact flatRg_at0 d i (by simpa using h)
theorem flatRg_at1:∀ (d:List Rg) (i:Nat),i < d.length → (flatRg d)[i * 5 + 1]? = some (.int .i64 (gRg d i).tn)
 | p :: d,0,_ => rfl
 | p :: d,i + 1,h => by
  rw [flatRg_cons,show (i + 1) * 5 + 1 = i * 5 + 1 + 1 + 1 + 1 + 1 + 1 from by omega]
  simp only [List.getElem?_cons_succ]
  exact flatRg_at1 d i (by simpa using h)
theorem flatRg_at2:∀ (d:List Rg) (i:Nat),i < d.length → (flatRg d)[i * 5 + 2]? = some (.int .i64 (gRg d i).st)
 | p :: d,0,_ => rfl
 | p :: d,i + 1,h => by
  rw [flatRg_cons,show (i + 1) * 5 + 2 = i * 5 + 2 + 1 + 1 + 1 + 1 + 1 from by omega]
  simp only [List.getElem?_cons_succ]
  exact flatRg_at2 d i (by simpa using h)
theorem flatRg_at3:∀ (d:List Rg) (i:Nat),i < d.length → (flatRg d)[i * 5 + 3]? = some (.int .i64 (gRg d i).en)
 | p :: d,0,_ => rfl
 | p :: d,i + 1,h => by
  rw [flatRg_cons,show (i + 1) * 5 + 3 = i * 5 + 3 + 1 + 1 + 1 + 1 + 1 from by omega]
  simp only [List.getElem?_cons_succ]
  exact flatRg_at3 d i (by simpa using h)
theorem flatRg_at4:∀ (d:List Rg) (i:Nat),i < d.length → (flatRg d)[i * 5 + 4]? = some (.int .i64 (gRg d i).ow)
 | p :: d,0,_ => rfl
 | p :: d,i + 1,h => by
  rw [flatRg_cons,show (i + 1) * 5 + 4 = i * 5 + 4 + 1 + 1 + 1 + 1 + 1 from by omega]
  simp only [List.getElem?_cons_succ]
  exact flatRg_at4 d i (by simpa using h)
theorem rowsRg_of:∀ (n:Nat) (ns:List Int),ns.length = n * 5 → ∃ d:List Rg,d.length = n ∧ ns.map (Value.int .i64) = flatRg d
 | 0,[],_ => ⟨[],rfl,rfl⟩
 | 0,_ :: _,h => by simp at h
 | n + 1,a0 :: a1 :: a2 :: a3 :: a4 :: ns,h => by
  obtain ⟨d,h1,h2⟩:=rowsRg_of n ns (by simp at h; omega)
  exact ⟨⟨a0,a1,a2,a3,a4⟩ :: d,by simp [h1],by simp [flatRg_cons,h2]⟩
 | n + 1,[],h => by simp at h <;> omega
 | n + 1,[_],h => by simp at h <;> omega
 | n + 1,[_,_],h => by simp at h <;> omega
 | n + 1,[_,_,_],h => by simp at h <;> omega
 | n + 1,[_,_,_,_],h => by simp at h <;> omega

theorem Lst.atRg {w:World} {B:Nat} {A:Option Addr} {n:Nat} {l:List Rg} (h:Lst w B 5 A n (flatRg l)) (hl:l.length = n) {k:Nat} (hk:k < n):∃ ad,A = some ad ∧ ad.block < B ∧ w.cell? (ad.add (k * 5)) = some (.int .i64 (gRg l k).fr) ∧ w.cell? ⟨(ad.add (k * 5)).block,(ad.add (k * 5)).off + 1,none⟩ = some (.int .i64 (gRg l k).tn) ∧ w.cell? ⟨(ad.add (k * 5)).block,(ad.add (k * 5)).off + 2,none⟩ = some (.int .i64 (gRg l k).st) ∧ w.cell? ⟨(ad.add (k * 5)).block,(ad.add (k * 5)).off + 3,none⟩ = some (.int .i64 (gRg l k).en) ∧ w.cell? ⟨(ad.add (k * 5)).block,(ad.add (k * 5)).off + 4,none⟩ = some (.int .i64 (gRg l k).ow):=by
 obtain ⟨ad,e,hb,hc⟩:=h.at_ (by omega)
 exact ⟨ad,e,hb,hc _ _ (flatRg_at0 l k (by omega)),by rw [addr_next _ _ _ (by omega)]; exact hc _ _ (flatRg_at1 l k (by omega)),by rw [addr_next _ _ _ (by omega)]; exact hc _ _ (flatRg_at2 l k (by omega)),by rw [addr_next _ _ _ (by omega)]; exact hc _ _ (flatRg_at3 l k (by omega)),by rw [addr_next _ _ _ (by omega)]; exact hc _ _ (flatRg_at4 l k (by omega))⟩
theorem gRg_mem {d:List Rg} {i:Nat} (h:i < d.length):gRg d i ∈ d:=by
 unfold gRg; rw [List.getD_eq_getElem?_getD,List.getElem?_eq_getElem h]; simp
theorem gRg_eq {d:List Rg} {i:Nat} (h:i < d.length):gRg d i = d[i]:=by
 unfold gRg; rw [List.getD_eq_getElem?_getD,List.getElem?_eq_getElem h]; rfl
structure PredRg (g:FuncId) (lb:Array Value) (row:Option Nat) (W:World) (p:Rg → Bool):Prop where
 run:∀ vals w,(callFunc g vals).run Tryz.prog w = .ok (.enter g vals) w
 tells:∀ w',W.grownBy w' row → ∀ x:Rg,Calls Tryz.prog g (#[.agg #[.int .i64 x.fr,.int .i64 x.tn,.int .i64 x.st,.int .i64 x.en,.int .i64 x.ow]] ++ lb) w' fun e w'' => e = .returned (.bool (p x)) ∧ Below w'.heap.size w' w''
theorem PredRg.next {g:FuncId} {lb:Array Value} {row:Option Nat} {W W':World} {p:Rg → Bool} (h:PredRg g lb row W p) (hg:W.grownBy W' row):PredRg g lb row W' p:=⟨h.run,fun w' h' x => h.tells w' (grown_trans hg h') x⟩
theorem PredRg.below {g:FuncId} {lb:Array Value} {row:Option Nat} {W W':World} {p:Rg → Bool} (h:PredRg g lb row W p) (hb:Below W.heap.size W W'):PredRg g lb row W' p:=h.next (grown_of_below hb)
end Go.Proofs.YtodcoockhkghdaaGreat
namespace Go.Proofs.YtodcoockhkghdaaGreat.Kr
open Go.ChangeShapes Go.WideShapes Go.ChangeAt Go.RowKit Go.Sort
set_option linter.unusedSimpArgs false
set_option linter.unusedVariables false
def waysI (a b:Rg):Int:=orF [cmpI a.fr b.fr,cmpI a.tn b.tn]
set_option maxHeartbeats 1000000 in
set_option maxRecDepth 100000 in
theorem ways_any (a b:Rg) (w:World):Calls Tryz.prog 133 #[.agg #[.int .i64 a.fr,.int .i64 a.tn,.int .i64 a.st,.int .i64 a.en,.int .i64 a.ow],.agg #[.int .i64 b.fr,.int .i64 b.tn,.int .i64 b.st,.int .i64 b.en,.int .i64 b.ow]] w fun e w' => e = .returned (.int .i64 (waysI a b)) ∧ Below w.heap.size w w':=by
 obtain ⟨p,hp⟩:∃ p,cmpI a.fr b.fr = p:=⟨_,rfl⟩
 obtain ⟨q,hq⟩:∃ q,cmpI a.tn b.tn = q:=⟨_,rfl⟩
 have hfin:waysI a b = orF [p,q]:=by rw [← hp,← hq]; rfl
 have HP:=Lib.hid hp
 have HQ:=Lib.hid hq
 rw [hfin]
 clear hp hq hfin
 go_enter Tryz.func133,Tryz.ntmps133
 go_wp2_with fail
 refine wp_region_still_tail 10 (by kernel_rfl) (by kernel_rfl) ?_
 change wpStill _ _ (World.drew _) (fun a' => wpList _ _ _ _ a' (World.drew _)) _ _
 simp only [List.take_succ_cons,List.take_zero,List.drop_succ_cons,List.drop_zero]
 repeat still_step
 still_call ((HP.out ▸ cmp_any a.fr b.fr _).mono fun _ _ h => ⟨h.1,h.2.symm⟩)
 repeat still_step
 still_call ((HQ.out ▸ cmp_any a.tn b.tn _).mono fun _ _ h => ⟨h.1,h.2.symm⟩)
 refine wpStill_nil ?_
 have hB:Below w.heap.size w (((w.alloc (.cells #[.int .i64 a.fr,.int .i64 a.tn,.int .i64 a.st,.int .i64 a.en,.int .i64 a.ow] 100)).alloc (.cells #[.int .i64 b.fr,.int .i64 b.tn,.int .i64 b.st,.int .i64 b.en,.int .i64 b.ow] 100)).drew):=by (repeat (first | exact Below.refl _ _ | refine Below.alloc ?_ (by first | omega | (simp; done) | (simp; omega)) _ | refine Below.setCell ?_ (by first | omega | (simp; done) | (simp; omega)) _ | refine Below.drew ?_))
 have hs:=hB.size
 generalize (((w.alloc (.cells #[.int .i64 a.fr,.int .i64 a.tn,.int .i64 a.st,.int .i64 a.en,.int .i64 a.ow] 100)).alloc (.cells #[.int .i64 b.fr,.int .i64 b.tn,.int .i64 b.st,.int .i64 b.en,.int .i64 b.ow] 100)).drew) = w2 at *
 go_wp2_with fail
 have hX:=Blok.new w2 3 #[.int .i64 p,.int .i64 q]
 refine (or_any w2.heap.size 2 2 [p,q] _ rfl (by omega) (fun k hk => by
  have hc:=hX.cell k
  have hk2:k = 0 ∨ k = 1:=by omega
  rcases hk2 with rfl | rfl <;> exact hc)).mono ?_
 rintro e w3 ⟨rfl,rfl⟩
 go_wp2
 go_ret
 exact ⟨rfl,hB.alloc hs _⟩
def cmpR (a b:Rg):Int:=orF [waysI a b,cmpI a.st b.st]
def ltR (a b:Rg):Prop:=a.fr < b.fr ∨ a.fr = b.fr ∧ (a.tn < b.tn ∨ a.tn = b.tn ∧ a.st < b.st)
theorem cmpI_spec (a b:Int):(a < b ∧ cmpI a b = -1) ∨ (a = b ∧ cmpI a b = 0) ∨ (b < a ∧ cmpI a b = 1):=by
 rcases Int.lt_trichotomy a b with h | h | h
 ·exact .inl ⟨h,cmpI_lt h⟩
 ·exact .inr (.inl ⟨h,cmpI_zero.2 h⟩)
 ·exact .inr (.inr ⟨h,cmpI_gt h⟩)
theorem cmpR_spec (a b:Rg):(ltR a b ∧ cmpR a b = -1) ∨ (a.fr = b.fr ∧ a.tn = b.tn ∧ a.st = b.st ∧ cmpR a b = 0) ∨ (ltR b a ∧ cmpR a b = 1):=by
 unfold cmpR waysI ltR
 rcases cmpI_spec a.fr b.fr with ⟨h1,e1⟩ | ⟨h1,e1⟩ | ⟨h1,e1⟩ <;> rcases cmpI_spec a.tn b.tn with ⟨h2,e2⟩ | ⟨h2,e2⟩ | ⟨h2,e2⟩ <;> rcases cmpI_spec a.st b.st with ⟨h3,e3⟩ | ⟨h3,e3⟩ | ⟨h3,e3⟩ <;>
  simp only [e1,e2,e3,orF] <;> simp <;> omega
def overR (a b:Rg):Bool:=decide (a.fr = b.fr ∧ a.tn = b.tn ∧ a.st < b.en ∧ b.st < a.en)
end Go.Proofs.YtodcoockhkghdaaGreat.Kr
