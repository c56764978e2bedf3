/- Several texts of mine in one: DMath, Small02, Tx1, DFacts. No condition. -/
import Derived.Test.YtjldgcebadojiaaGreatDoorGQ19
import Derived.Test.YtjldgcebadojiaaGreatDoorGQ21
import Derived.Test.YtjldgcebadojiaaGreatDoorWWords
import Derived.Test.YtjldgcebadojiaaGreatDoorDParse
import Derived.Lib.ItoaLen
namespace Go.Proofs.YtjldgcebadojiaaGreatDoor
open Go.ChangeShapes Go.WideShapes Go.ChangeAt Go.RowKit Go.Sort
set_option linter.unusedSimpArgs false
set_option linter.unusedVariables false
structure MadeD (op kd:Int) (ns:List Int):Prop where
 nums:numsD (madeD op kd ns) = ns
 keep:keepD (madeD op kd ns) = madeD op kd ns
 op_:(madeD op kd ns).op = op
 kd_:(madeD op kd ns).kd = kd
theorem made_at {op kd:Int} {ns:List Int} (hk:(formV op kd).isSome = true) (hl:ns.length = formLen op kd):MadeD op kd ns:=by
 by_cases c0:op = 1 ∧ kd = 1
 ·obtain ⟨rfl,rfl⟩:=c0
  match ns,hl with
  | [a0,a1,a2,a3,a4,a5],_ => exact ⟨rfl,rfl,rfl,rfl⟩
 by_cases c1:op = 2 ∧ kd = 1
 ·obtain ⟨rfl,rfl⟩:=c1
  match ns,hl with
  | [a0],_ => exact ⟨rfl,rfl,rfl,rfl⟩
 by_cases c2:op = 3 ∧ kd = 1
 ·obtain ⟨rfl,rfl⟩:=c2
  match ns,hl with
  | [a0,a1],_ => exact ⟨rfl,rfl,rfl,rfl⟩
 by_cases c3:op = 1 ∧ kd = 2
 ·obtain ⟨rfl,rfl⟩:=c3
  match ns,hl with
  | [a0,a1,a2,a3,a4],_ => exact ⟨rfl,rfl,rfl,rfl⟩
 by_cases c4:op = 2 ∧ kd = 2
 ·obtain ⟨rfl,rfl⟩:=c4
  match ns,hl with
  | [a0,a1,a2],_ => exact ⟨rfl,rfl,rfl,rfl⟩
 by_cases c5:op = 3 ∧ kd = 2
 ·obtain ⟨rfl,rfl⟩:=c5
  match ns,hl with
  | [a0,a1,a2,a3],_ => exact ⟨rfl,rfl,rfl,rfl⟩
 exfalso
 unfold formV at hk
 simp [c0,c1,c2,c3,c4,c5] at hk
theorem gS_opF {x:Bytes} (h:opF x = 1 ∨ opF x = 2 ∨ opF x = 3):gS opW (opF x).toNat = x:=by
 unfold opF at h ⊢
 repeat' split
 ·rename_i e; rw [e]; rfl
 ·rename_i e; rw [e]; rfl
 ·rename_i e; rw [e]; rfl
 ·simp_all
theorem gS_kdF {x:Bytes} (h:kdF x = 1 ∨ kdF x = 2):gS kdW (kdF x).toNat = x:=by
 unfold kdF at h ⊢
 repeat' split
 ·rename_i e; rw [e]; rfl
 ·rename_i e; rw [e]; rfl
 ·simp_all
theorem itoa_numsF:∀ {d:List Bytes} {ns:List Int},numsF d = some ns → ns.map Lib.itoa = d
 | [],ns,h => by
  simp [numsF] at h
  subst h
  rfl
 | x :: d,ns,h => by
  unfold numsF at h
  rw [List.mapM_cons] at h
  cases h1:parseF x 2147483647 with
  | none => rw [h1] at h; simp at h
  | some a =>
   rw [h1] at h
   cases h2:d.mapM (fun x => parseF x 2147483647) with
   | none => rw [h2] at h; simp at h
   | some b =>
    rw [h2] at h
    simp at h
    subst h
    have h3:=itoa_numsF (d:=d) (ns:=b) h2
    rw [List.map_cons,h3,(itoa_parse h1).1]
theorem parse_words {l:List Bytes} {d:Dr} (h:parseD l = (d,0)):rightD d = true ∧ wordsD d = l:=by
 unfold parseD at h
 split at h
 ·injection h with _ h2; cases h2
 rename_i hlen
 split at h
 ·injection h with _ h2; cases h2
 rename_i hk
 cases hns:numsF (l.drop 2) with
 | none => rw [hns] at h; injection h with _ h2; cases h2
 | some ns =>
  rw [hns] at h
  dsimp only at h
  split at h
  ·rename_i hl
   split at h
   ·rename_i hm
    injection h with h1 h2
    have hk2:(formV (opF (gS l 0)) (kdF (gS l 1))).isSome = true:=by
     cases hh:(formV (opF (gS l 0)) (kdF (gS l 1))).isSome with
     | true => rfl
     | false => exact absurd hh hk
    obtain ⟨_,_,_,_,hop,hkd⟩:=form_of hk2
    have hM:=made_at hk2 hl
    subst h1
    refine ⟨?_,?_⟩
    ·unfold rightD knownD
     rw [hM.op_,hM.kd_,hk2,hm,hM.keep]
     simp
    ·unfold wordsD
     rw [hM.nums,hM.op_,hM.kd_,gS_opF hop,gS_kdF hkd,itoa_numsF hns]
     match l,hlen with
     | [],h => exact absurd (by simp) h
     | [x],h => exact absurd (by simp) h
     | x :: y :: r,_ => rfl
   ·injection h with _ h2; cases h2
  ·injection h with _ h2; cases h2
theorem lines_is (s0:ByteArray) (d:List Bytes) (n:Nat) (h:linesL s0.data.toList = d) (hn:d.length = n) (w:World) (hm:MaxAt w) (hs:s0.data.toList.length ≤ 2000000) :
  Calls Tryz.prog 62 #[.string s0] w fun e w' => ∃ A c,e = .returned (.slice A n c) ∧ w'.ownsRow w.heap.size 9 1 (.slice A n c) n (vs d) ∧ Below w.heap.size w w':=by
 subst h hn
 refine (lines_any s0 _ rfl w hm hs).mono ?_
 rintro e w1 ⟨v,rfl,hv,hb⟩
 obtain ⟨A,c,rfl⟩:=slice_of_own hv
 exact ⟨A,c,rfl,hv,hb⟩
theorem words_is (s0:ByteArray) (d:List Bytes) (n:Nat) (h:wordsL s0.data.toList = d) (hn:d.length = n) (w:World) (hm:MaxAt w) (hs:s0.data.toList.length ≤ 100000) :
  Calls Tryz.prog 63 #[.string s0] w fun e w' => ∃ A c,e = .returned (.slice A n c) ∧ w'.ownsRow w.heap.size 9 1 (.slice A n c) n (vs d) ∧ Below w.heap.size w w':=by
 subst h hn
 refine (words_any s0 _ rfl w hm hs).mono ?_
 rintro e w1 ⟨v,rfl,hv,hb⟩
 obtain ⟨A,c,rfl⟩:=slice_of_own hv
 exact ⟨A,c,rfl,hv,hb⟩
theorem fin_len (st:Pcs):(finS st).length ≤ st.1.length + 1:=by unfold finS; split <;> simp
theorem foldL_len:∀ (s:Bytes) (o:List Bytes) (cur:Bytes),(s.foldl stL (o,cur)).1.length ≤ o.length + s.length
 | [],o,cur => by simp
 | c :: r,o,cur => by
  rw [List.foldl_cons]
  by_cases h:c = 10
  ·subst h; rw [stL_ten]; have:=foldL_len r (o ++ [cur]) []; simp at this ⊢; omega
  ·rw [stL_other h]; have:=foldL_len r o (cur ++ [c]); simp at this ⊢; omega
theorem lines_len (s:Bytes):(linesL s).length ≤ s.length + 1:=by
 unfold linesL
 have h1:=fin_len (s.foldl stL ([],[]))
 have h2:=foldL_len s [] []
 simp at h2
 omega
theorem foldW_len:∀ (s:Bytes) (o:List Bytes) (cur:Bytes),(s.foldl stW (o,cur)).1.length ≤ o.length + s.length
 | [],o,cur => by simp
 | c :: r,o,cur => by
  rw [List.foldl_cons]
  cases h:blankC c with
  | true =>
   rw [stW_blank h]
   split
   ·have:=foldW_len r o []; simp at this ⊢; omega
   ·have:=foldW_len r (o ++ [cur]) []; simp at this ⊢; omega
  | false => rw [stW_other h]; have:=foldW_len r o (cur ++ [c]); simp at this ⊢; omega
theorem words_len (s:Bytes):(wordsL s).length ≤ s.length + 1:=by
 unfold wordsL
 have h1:=fin_len ((hashL s).foldl stW ([],[]))
 have h2:=foldW_len (hashL s) [] []
 have h3:=hash_le s
 simp at h2
 omega
def lnoF:List Bytes → Int → List Int
 | [],_ => []
 | r :: rs,k => if (wordsL r).length = 0 then lnoF rs (k + 1) else k :: lnoF rs (k + 1)
abbrev Pt:=List Dr × Int × Int
def addF (a:List Dr) (p:Pt):Pt:=if p.2.2 = 0 then (a ++ p.1,p.2) else p
def textF:List Bytes → Int → Pt
 | [],_ => ([],0,0)
 | r :: rs,k => if (wordsL r).length = 0 then textF rs (k + 1) else if (parseD (wordsL r)).2 = 0 then addF [(parseD (wordsL r)).1] (textF rs (k + 1)) else ([],k,(parseD (wordsL r)).2)
theorem addF_nil (p:Pt):addF [] p = p:=by unfold addF; split <;> simp
theorem addF_code (a:List Dr) (p:Pt):(addF a p).2 = p.2:=by unfold addF; split <;> rfl
theorem addF_addF (a b:List Dr) (p:Pt):addF a (addF b p) = addF (a ++ b) p:=by
 unfold addF
 by_cases h:p.2.2 = 0
 ·simp [h]
 ·simp [h]
theorem dropS {rows:List Bytes} {i:Nat} (h:i < rows.length):rows.drop i = gS rows i :: rows.drop (i + 1):=by
 rw [List.drop_eq_getElem_cons h,gS_eq h]
theorem lno_blank {rows:List Bytes} {i:Nat} {k:Int} (h:i < rows.length) (hw:(wordsL (gS rows i)).length = 0):lnoF (rows.drop i) k = lnoF (rows.drop (i + 1)) (k + 1):=by
 rw [dropS h]; simp [lnoF,hw]
theorem lno_word {rows:List Bytes} {i:Nat} {k:Int} (h:i < rows.length) (hw:(wordsL (gS rows i)).length ≠ 0):lnoF (rows.drop i) k = k :: lnoF (rows.drop (i + 1)) (k + 1):=by
 rw [dropS h]; simp [lnoF,hw]
theorem text_blank {rows:List Bytes} {i:Nat} {k:Int} (h:i < rows.length) (hw:(wordsL (gS rows i)).length = 0):textF (rows.drop i) k = textF (rows.drop (i + 1)) (k + 1):=by
 rw [dropS h]; simp [textF,hw]
theorem text_ok {rows:List Bytes} {i:Nat} {k:Int} {z:Dr} (h:i < rows.length) (hw:(wordsL (gS rows i)).length ≠ 0) (hp:parseD (wordsL (gS rows i)) = (z,0)):textF (rows.drop i) k = addF [z] (textF (rows.drop (i + 1)) (k + 1)):=by
 rw [dropS h]
 simp only [textF]
 rw [if_neg hw,hp,if_pos rfl]
theorem text_bad {rows:List Bytes} {i:Nat} {k:Int} {z:Dr} {q:Int} (h:i < rows.length) (hw:(wordsL (gS rows i)).length ≠ 0) (hp:parseD (wordsL (gS rows i)) = (z,q)) (hq:q ≠ 0):textF (rows.drop i) k = ([],k,q):=by
 rw [dropS h]
 simp only [textF]
 rw [if_neg hw,hp,if_neg hq]
theorem finS_mem {B:Nat} {st:Pcs} (h1:∀ x ∈ st.1,x.length ≤ B) (h2:st.2.length ≤ B):∀ x ∈ finS st,x.length ≤ B:=by
 unfold finS
 split
 ·exact h1
 ·intro x hx
  rcases List.mem_append.1 hx with h | h
  ·exact h1 x h
  ·simp at h; subst h; exact h2
theorem foldL_mem:∀ (s:Bytes) (o:List Bytes) (cur:Bytes) (B:Nat),(∀ x ∈ o,x.length ≤ B) → cur.length + s.length ≤ B → (∀ x ∈ (s.foldl stL (o,cur)).1,x.length ≤ B) ∧ (s.foldl stL (o,cur)).2.length ≤ B
 | [],o,cur,B,h1,h2 => ⟨h1,by simpa using h2⟩
 | c :: r,o,cur,B,h1,h2 => by
  rw [List.foldl_cons]
  simp at h2
  by_cases h:c = 10
  ·subst h; rw [stL_ten]
   refine foldL_mem r (o ++ [cur]) [] B (fun x hx => ?_) (by simp; omega)
   rcases List.mem_append.1 hx with h | h
   ·exact h1 x h
   ·simp at h; subst h; omega
  ·rw [stL_other h]
   exact foldL_mem r o (cur ++ [c]) B h1 (by simp; omega)
theorem lines_mem {s x:Bytes} (h:x ∈ linesL s):x.length ≤ s.length:=by
 unfold linesL at h
 obtain ⟨h1,h2⟩:=foldL_mem s [] [] s.length (by simp) (by simp)
 exact finS_mem h1 h2 x h
theorem foldW_mem:∀ (s:Bytes) (o:List Bytes) (cur:Bytes) (B:Nat),(∀ x ∈ o,x.length ≤ B) → cur.length + s.length ≤ B → (∀ x ∈ (s.foldl stW (o,cur)).1,x.length ≤ B) ∧ (s.foldl stW (o,cur)).2.length ≤ B
 | [],o,cur,B,h1,h2 => ⟨h1,by simpa using h2⟩
 | c :: r,o,cur,B,h1,h2 => by
  rw [List.foldl_cons]
  simp at h2
  cases h:blankC c with
  | true =>
   rw [stW_blank h]
   split
   ·exact foldW_mem r o [] B h1 (by simp; omega)
   ·refine foldW_mem r (o ++ [cur]) [] B (fun x hx => ?_) (by simp; omega)
    rcases List.mem_append.1 hx with h | h
    ·exact h1 x h
    ·simp at h; subst h; omega
  | false =>
   rw [stW_other h]
   exact foldW_mem r o (cur ++ [c]) B h1 (by simp; omega)
theorem words_mem {s x:Bytes} (h:x ∈ wordsL s):x.length ≤ s.length:=by
 unfold wordsL at h
 have hh:=hash_le s
 obtain ⟨h1,h2⟩:=foldW_mem (hashL s) [] [] s.length (by simp) (by simp; omega)
 exact finS_mem h1 h2 x h
theorem own_low {w w':World} {base:Nat} {e:TypeId} {size n:Nat} {v:Value} {xs:List Value} {row:Option Nat} (h:w.ownsRow base e size v n xs) (hg:w.grownBy w' row) (hr:∀ q,row = some q → q < base):w'.ownsRow base e size v n xs:=
 h.kept hg (by
  cases hq:v.ownBlock with
  | none => exact .inl rfl
  | some q => exact .inr (fun e => by have:=hr q e.symm; have:=(h.lt q hq).1; omega))
theorem right_ops {d:Dr} (h:rightD d = true):(Lit.int .i64 d.op).wf = true ∧ (Lit.int .i64 d.kd).wf = true:=by
 unfold rightD at h
 simp only [Bool.and_eq_true] at h
 obtain ⟨_,_,_,_,_,_,_,hop,hkd⟩:=form_nums d h.1
 refine ⟨?_,?_⟩
 ·rcases hop with h | h | h <;> rw [h] <;> decide
 ·rcases hkd with h | h <;> rw [h] <;> decide
end Go.Proofs.YtjldgcebadojiaaGreatDoor
