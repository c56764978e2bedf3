/- Several texts of mine in one: WMath, WRef, WOpen, Text, WLine, WWMath2, WRows. No condition. -/
import Derived.Test.YtjldgcebadojiaaGreatDoorGQ8
import Derived.Lib.SplitLaws
import Derived.Lib.Join
import Derived.Lib.Strings
import Derived.Laws.RangeAny
import Derived.Test.YtjldgcebadojiaaGreatDoorChecked
import Derived.WalkSmall
import Derived.SliceStrings
import Derived.HandedShaped
import Derived.ProofKit
import Derived.Test.YtjldgcebadojiaaGreatDoorTie
import Derived.Test.YtjldgcebadojiaaGreatDoorCards
import Derived.LaidMore
import Derived.Lay
import Derived.PinnedBridge
import Derived.LaidOnce
import Derived.LaidSub
import Derived.Stop.Joined
import Derived.SevenTiedAt
import Derived.Test.YtjldgcebadojiaaGreatDoorShelf
import Derived.Test.YtjldgcebadojiaaGreatDoorGQ0
import Derived.Lib.AppendIntMem
import Derived.Deep.Slices
namespace Go.Proofs.YtjldgcebadojiaaGreatDoor
open Go.ChangeShapes Go.WideShapes Go.ChangeAt Go.RowKit Go.Sort
set_option linter.unusedSimpArgs false
set_option linter.unusedVariables false
abbrev Bytes:=List UInt8
def bs (l:Bytes):ByteArray:=⟨l.toArray⟩
theorem bs_size (l:Bytes):(bs l).size = l.length:=by simp [bs,ByteArray.size]
theorem bs_list (l:Bytes):(bs l).data.toList = l:=by simp [bs]
theorem bs_of (s:ByteArray):bs s.data.toList = s:=by cases s; simp [bs]
theorem bs_toList (l:Bytes):(bs l).toList = l:=by rw [ByteArray.toList_eq,bs_list]
theorem size_list (s:ByteArray):s.size = s.data.toList.length:=by simp
theorem ext_bs (s:ByteArray) (a b:Nat):s.extract a b = bs ((s.data.toList.take b).drop a):=by
 rw [← bs_of (s.extract a b)]
 congr 1
 rw [ByteArray.data_extract,Array.toList_extract,List.extract_eq_take_drop,List.drop_take]
def vs (d:List Bytes):List Value:=d.map fun x => .string (bs x)
theorem vs_length (d:List Bytes):(vs d).length = d.length:=by simp [vs]
theorem vs_append (d e:List Bytes):vs (d ++ e) = vs d ++ vs e:=by simp [vs]
def gS (d:List Bytes) (k:Nat):Bytes:=d.getD k []
theorem vs_at {d:List Bytes} {k:Nat} (h:k < d.length):(vs d)[k]? = some (.string (bs (gS d k))):=by
 simp [vs,gS,List.getD_eq_getElem?_getD,List.getElem?_eq_getElem h]
theorem gS_eq {d:List Bytes} {k:Nat} (h:k < d.length):gS d k = d[k]:=by simp [gS,List.getD_eq_getElem?_getD,List.getElem?_eq_getElem h]
theorem take_nextS {l:List Bytes} {k:Nat} (h:k < l.length):l.take (k + 1) = l.take k ++ [gS l k]:=by
 rw [List.take_succ_eq_append_getElem h,gS_eq h]
theorem Lst.atS {w:World} {B:Nat} {A:Option Addr} {n:Nat} {l:List Bytes} (h:Lst w B 1 A n (vs l)) (hl:l.length = n) {k:Nat} (hk:k < n):∃ ad,A = some ad ∧ ad.block < B ∧ w.cell? (ad.add k) = some (.string (bs (gS l k))):=by
 obtain ⟨ad,e,hb,hc⟩:=h.at_ (by omega)
 exact ⟨ad,e,hb,hc _ _ (vs_at (by omega))⟩

/-! ### Lines -/
abbrev Pcs:=List Bytes × Bytes
def stL (st:Pcs) (c:UInt8):Pcs:=if c = 10 then (st.1 ++ [st.2],[]) else (st.1,st.2 ++ [c])
def finS (st:Pcs):List Bytes:=if st.2 = [] then st.1 else st.1 ++ [st.2]
def linesL (s:Bytes):List Bytes:=finS (s.foldl stL ([],[]))
def ps:Bytes → Bytes → List Bytes
 | cur,[] => [cur]
 | cur,c :: r => if c = 10 then cur :: ps [] r else ps (cur ++ [c]) r
theorem fold_ps:∀ (t:Bytes) (o:List Bytes) (cur:Bytes),(t.foldl stL (o,cur)).1 ++ [(t.foldl stL (o,cur)).2] = o ++ ps cur t
 | [],o,cur => rfl
 | c :: r,o,cur => by
  rw [List.foldl_cons]
  by_cases h:c = 10
  ·have e:stL (o,cur) c = (o ++ [cur],[]):=by unfold stL; rw [if_pos h]
   rw [e,fold_ps r (o ++ [cur]) [],ps,if_pos h]; simp
  ·have e:stL (o,cur) c = (o,cur ++ [c]):=by unfold stL; rw [if_neg h]
   rw [e,fold_ps r o (cur ++ [c]),ps,if_neg h]
theorem ps_cur:∀ (t cur:Bytes),∃ h r,ps [] t = h :: r ∧ ps cur t = (cur ++ h) :: r
 | [],cur => ⟨[],[],rfl,by simp [ps]⟩
 | c :: t,cur => by
  unfold ps
  by_cases h:c = 10
  ·simp only [h,if_true]; exact ⟨[],ps [] t,rfl,by simp⟩
  ·simp only [h,if_false]
   obtain ⟨h1,r1,e1,e2⟩:=ps_cur t ([] ++ [c])
   obtain ⟨h2,r2,e3,e4⟩:=ps_cur t (cur ++ [c])
   rw [e1] at e3
   injection e3 with e5 e6
   subst e5 e6
   exact ⟨_,_,e2,by rw [e4]; simp⟩
theorem split_ps:∀ t:Bytes,Lib.splitK [10] 0 (Lib.count t [10]) t = ps [] t
 | [] => rfl
 | c :: r => by
  have ih:=split_ps r
  by_cases h:c = 10
  ·subst h
   rw [Lib.count_cons_eq,Nat.add_comm]
   have hi:Lib.index (10 :: r) [10] = 0:=by unfold Lib.index; rw [if_pos (by simp [List.isPrefixOf])]
   unfold Lib.splitK
   rw [hi]
   simp only [ps,if_true]
   rw [if_neg (by decide)]
   simp [ih]
  ·rw [Lib.count_cons_ne c 10 r h]
   have hi:Lib.index (c :: r) [10] = (if Lib.index r [10] == -1 then -1 else Lib.index r [10] + 1):=by
    rw [Lib.index,if_neg (by simpa [List.isPrefixOf,beq_iff_eq] using fun e:(10:UInt8) = c => h e.symm)]
   obtain ⟨h1,r1,e1,e2⟩:=ps_cur r ([] ++ [c])
   have e3:ps [] (c :: r) = (c :: h1) :: r1:=by rw [ps,if_neg h,e2]; rfl
   rw [e3]
   rw [e1] at ih
   cases hk:Lib.count r [10] with
   | zero =>
    rw [hk] at ih
    unfold Lib.splitK at ih ⊢
    injection ih with i1 i2
    rw [i1,← i2]
   | succ k =>
    rw [hk] at ih
    unfold Lib.splitK at ih ⊢
    rw [hi]
    by_cases hm:(Lib.index r [10] == -1) = true
    ·rw [if_pos hm] at ih
     rw [if_pos hm]
     injection ih with i1 i2
     rw [if_pos (by decide),i1,← i2]
    ·rw [if_neg hm] at ih
     rw [if_neg hm]
     have hge:0 ≤ Lib.index r [10]:=by
      rcases Lib.index_spec r [10] with ⟨q,_⟩ | ⟨i,q,_⟩
      ·rw [q] at hm; exact absurd rfl hm
      ·omega
     rw [if_neg (by rw [beq_iff_eq]; omega)]
     injection ih with i1 i2
     have en:(Lib.index r [10] + 1).toNat = (Lib.index r [10]).toNat + 1:=by omega
     rw [en,← i1,← i2]
     simp [Nat.add_right_comm]
def splitL (s:Bytes):List Bytes:=if s = [] then [] else Lib.splitK [10] 0 (Lib.count (Lib.trimSuffix s [10]) [10]) (Lib.trimSuffix s [10])
theorem snoc_cases (s:Bytes):s = [] ∨ ∃ u c,s = u ++ [c]:=by
 rcases List.eq_nil_or_concat s with h | ⟨u,c,h⟩
 ·exact .inl h
 ·exact .inr ⟨u,c,by simpa using h⟩
theorem split_lines (s:Bytes):splitL s = linesL s:=by
 unfold splitL linesL
 rcases snoc_cases s with rfl | ⟨u,c,rfl⟩
 ·rfl
 ·rw [if_neg (by simp),split_ps,List.foldl_append]
  by_cases h:c = 10
  ·subst h
   have ht:Lib.trimSuffix (u ++ [10]) [10] = u:=by
    unfold Lib.trimSuffix Lib.hasSuffix
    rw [if_pos (by rw [List.isSuffixOf_iff_suffix]; exact List.suffix_append _ _)]
    simp
   rw [ht,← List.nil_append (ps [] u),← fold_ps u [] []]
   simp [stL,finS]
  ·have ht:Lib.trimSuffix (u ++ [c]) [10] = u ++ [c]:=by
    unfold Lib.trimSuffix Lib.hasSuffix
    rw [if_neg]
    rw [List.isSuffixOf_iff_suffix]
    rintro ⟨v,hv⟩
    have:=List.append_inj_right' hv rfl
    simp at this
    exact h this.symm
   rw [ht,← List.nil_append (ps [] (u ++ [c])),← fold_ps (u ++ [c]) [] [],List.foldl_append]
   simp [stL,finS,h]

/-! ### Words -/
def blankC (c:UInt8):Bool:=c == 32 || c == 9 || c == 13
def stW (st:Pcs) (c:UInt8):Pcs:=if blankC c = true then (if st.2 = [] then (st.1,[]) else (st.1 ++ [st.2],[])) else (st.1,st.2 ++ [c])
def hashL (s:Bytes):Bytes:=s.takeWhile fun c => c != 35
def wordsL (s:Bytes):List Bytes:=finS ((hashL s).foldl stW ([],[]))
theorem cut_hash:∀ s:Bytes,(Lib.cut s [35]).1 = hashL s
 | [] => rfl
 | c :: r => by
  have ih:=cut_hash r
  unfold Lib.cut at ih ⊢
  by_cases h:c = 35
  ·subst h
   have hi:Lib.index (35 :: r) [35] = 0:=by unfold Lib.index; rw [if_pos (by simp [List.isPrefixOf])]
   rw [hi]
   simp [hashL]
  ·have hi:Lib.index (c :: r) [35] = (if Lib.index r [35] == -1 then -1 else Lib.index r [35] + 1):=by
    rw [Lib.index,if_neg (by simpa [List.isPrefixOf,beq_iff_eq] using fun e:(35:UInt8) = c => h e.symm)]
   have hh:hashL (c :: r) = c :: hashL r:=by simp [hashL,h]
   rw [hi,hh,← ih]
   rcases Lib.index_spec r [35] with ⟨q,_⟩ | ⟨i,q,_⟩
   ·rw [q]; simp
   ·have hm:¬ ((Lib.index r [35] == -1) = true):=by rw [q,beq_iff_eq]; omega
    rw [if_neg hm,q,if_pos (by omega),if_pos (by omega)]
    simp
theorem fold_next {α:Type} {f:α → UInt8 → α} {a:α} {s:Bytes} {i:Nat} (h:i < s.length):(s.take (i + 1)).foldl f a = f ((s.take i).foldl f a) s[i]:=by
 rw [List.take_succ_eq_append_getElem h,List.foldl_append]; rfl
theorem infoS:(Tryz.prog.info? 9).map (fun i => (i.zero,i.size,i.bytes)) = some (some (.string ByteArray.empty),1,16):=by kernel_rfl
theorem str_ne (a b:Bytes):(bs a).toList = (bs b).toList ↔ a = b:=by rw [bs_toList,bs_toList]
theorem drop_take_next {s:Bytes} {f i:Nat} (hf:f ≤ i) (hi:i < s.length):(s.take (i + 1)).drop f = (s.take i).drop f ++ [s[i]]:=by
 rw [List.take_succ_eq_append_getElem hi,List.drop_append_of_le_length (by simp; omega)]
theorem drop_all (s:Bytes) (k:Nat):(s.take k).drop k = []:=List.drop_eq_nil_of_le (by simp; omega)
theorem stL_ten (o:List Bytes) (cur:Bytes):stL (o,cur) 10 = (o ++ [cur],[]):=by simp [stL]
theorem stL_other {c:UInt8} (h:c ≠ 10) (o:List Bytes) (cur:Bytes):stL (o,cur) c = (o,cur ++ [c]):=by simp [stL,h]
theorem blank_cases (c:UInt8):(c = 32 ∧ blankC c = true) ∨ (c ≠ 32 ∧ c = 9 ∧ blankC c = true) ∨ (c ≠ 32 ∧ c ≠ 9 ∧ c = 13 ∧ blankC c = true) ∨ (c ≠ 32 ∧ c ≠ 9 ∧ c ≠ 13 ∧ blankC c = false):=by
 unfold blankC
 by_cases h1:c = 32
 ·exact .inl ⟨h1,by simp [h1]⟩
 ·by_cases h2:c = 9
  ·exact .inr (.inl ⟨h1,h2,by simp [h2]⟩)
  ·by_cases h3:c = 13
   ·exact .inr (.inr (.inl ⟨h1,h2,h3,by simp [h3]⟩))
   ·exact .inr (.inr (.inr ⟨h1,h2,h3,by simp [h1,h2,h3]⟩))
theorem stW_blank {c:UInt8} (h:blankC c = true) (o:List Bytes) (cur:Bytes):stW (o,cur) c = (if cur = [] then (o,[]) else (o ++ [cur],[])):=by simp [stW,h]
theorem stW_other {c:UInt8} (h:blankC c = false) (o:List Bytes) (cur:Bytes):stW (o,cur) c = (o,cur ++ [c]):=by simp [stW,h]
theorem hash_le (s:Bytes):(hashL s).length ≤ s.length:=by unfold hashL; exact (List.takeWhile_sublist _).length_le
end Go.Proofs.YtjldgcebadojiaaGreatDoor
namespace Go.Proofs.YtjldgcebadojiaaGreatDoor
open Go.ChangeShapes Go.WideShapes Go.ChangeAt Go.RowKit Go.Sort
set_option linter.unusedSimpArgs false
set_option linter.unusedVariables false
theorem own_below {w w':World} {base:Nat} {e:TypeId} {size n:Nat} {v:Value} {xs:List Value} (h:w.ownsRow base e size v n xs) (hb:Below w.heap.size w w'):w'.ownsRow base e size v n xs:=
 h.kept (grown_of_below (row:=some w.heap.size) hb) (.inr (fun e => by have:=(h.lt _ e).2; omega))
section
variable {H:Type} {enc:TypeId × Value → H}
theorem returnsInHanded_of_change_and_shaped {a:Assume} {C:Checked} {os:Os} {f:FuncId} {fn:Func} {s:ChangeSpec} {conds:List PathCond} {apart fresh handsOn again:Bool} {X:World → Array Value → Prop}
  (hX:∀ (w w':World) (args:Array Value),w.heap = w'.heap → X w args → X w' args)
  (own:ownKnob C.prog.godebug = none) (started:os.Started) (noInit:C.prog.inits.idxOf? f = none) (hfn:C.prog.funcs[f]? = some fn)
  (witness:∃ (w:World) (tape:Tape) (i:Input),w.os = os ∧ (w.forCall tape i).Shaped C.prog ∧ i.vars = [] ∧ Input.okWide C.prog (w.forCall tape i) .any w.heap.size f i ∧
   ((s.pre enc C.prog fn conds apart (w.forCall tape i).memory i.args ∧ X (w.forCall tape i).memory i.args) ∧ sizedMet enc C.prog fn (OpenSpec.ofChange s) apart (w.forCall tape i).memory i.args) ∧ a.holds C.prog (lone (Frame.enter C.prog f i.args .normal) [] (w.forCall tape i)))
  (contract:∀ (W:World) (base:Nat) (args:Array Value) (ds gs:List (DataW H)) (before:List MemPlace),
   (∀ (j:Nat) t v,fn.params[j]? = some t → args[j]? = some v → Value.okWide C.prog W .any base t v) →
   DataW.Whole enc C.prog fn.params.toList s.vars apart W args.toList ds gs before →
   conds.all (PathCond.test C.prog ⟨fn.params.toList,ds,s.plain.varTypes C.prog,gs⟩) = true →
   (DataW.weightsEach C.prog (fn.params.toList ++ s.plain.varTypes C.prog) (ds ++ gs)).all (· ≤ reachBytes) = true → X W args →
   W.ShapedOpen C.prog →
   a.holds C.prog (lone (Frame.enter C.prog f args .normal) [] W) →
   Calls C.prog f args W fun e W' => ∃ v,e = .returned v ∧ s.post enc C.prog fn apart fresh handsOn again W args v W') :
  ReturnsInHanded a C os f .any (fun w args => (s.pre enc C.prog fn conds apart w args ∧ X w args) ∧ sizedMet enc C.prog fn (OpenSpec.ofChange s) apart w args) (s.post enc C.prog fn apart fresh handsOn again):=by
 refine returnsInHanded_of_calls own started noInit witness ?_
 intro w tape i _ hsh _ hok hpre hholds
 obtain ⟨_,_,_,fn',hfn',_,_,_,_,hval⟩:=hok
 have e:fn' = fn:=Option.some.inj (hfn'.symm.trans hfn)
 subst e
 obtain ⟨⟨⟨ds,gs,before,hw,hc⟩,hx⟩,hz⟩:=hpre
 have hw':=DataW.Whole.of_heap (w':=w.forCall tape i) (by rfl) hw
 refine (contract (w.forCall tape i) w.heap.size i.args ds gs before hval hw' hc (hz.weights hw) (hX _ _ _ (by rfl) hx) hsh hholds).mono fun e W' ⟨v,he,hp⟩ => ?_
 subst he
 exact ChangeSpec.post_blind hp
end
end Go.Proofs.YtjldgcebadojiaaGreatDoor
namespace Go.Proofs.YtjldgcebadojiaaGreatDoor
open Go.ChangeShapes Go.WideShapes Go.ChangeAt Go.RowKit Go.Sort
set_option linter.unusedSimpArgs false
set_option linter.unusedVariables false


def TenTab (w : World) : Prop := Lib.TabIs Tryz.prog w "internal/strconv.uint64pow10" .u64 Lib.pow10Tab
theorem TenTab.below {w w':World} (h:TenTab w) (hb:Below w.heap.size w w'):TenTab w':=Lib.tabBelow_of_tabIs h _ hb
end Go.Proofs.YtjldgcebadojiaaGreatDoor
namespace Go.Proofs.YtjldgcebadojiaaGreatDoor
open Go.ChangeShapes Go.WideShapes Go.ChangeAt Go.RowKit Go.Sort
set_option linter.unusedSimpArgs false
set_option linter.unusedVariables false
abbrev Rowz:=List (List Bytes)
def gR (R:Rowz) (k:Nat):List Bytes:=R.getD k []
structure Rws (w:World) (B:Nat) (A:Option Addr) (n:Nat) (R:Rowz):Prop where
 len:R.length = n
 at_:∀ j,j < n → ∃ ad Aj nj cj,A = some ad ∧ ad.block < B ∧ w.cell? (ad.add j) = some (.slice Aj nj cj) ∧ Sl w B 1 Aj nj cj (vs (gR R j)) ∧ (gR R j).length = nj ∧ ∀ x ∈ gR R j,x.length ≤ maxLen
theorem blk_add (a:Addr) (n:Nat):(a.add n).block = a.block:=by unfold Addr.add; split <;> rfl
theorem Rws.below {w w':World} {B n:Nat} {A:Option Addr} {R:Rowz} (h:Rws w B A n R) (hb:Below B w w'):Rws w' B A n R:=
 ⟨h.len,fun j hj => by
  obtain ⟨ad,Aj,nj,cj,e,h1,h2,h3,h4⟩:=h.at_ j hj
  exact ⟨ad,Aj,nj,cj,e,h1,by rw [hb.cell (by rw [blk_add]; exact h1)]; exact h2,h3.below hb,h4⟩⟩
section
variable {H:Type} {enc:TypeId × Value → H}
end
/-! ### a plain word -/
end Go.Proofs.YtjldgcebadojiaaGreatDoor
