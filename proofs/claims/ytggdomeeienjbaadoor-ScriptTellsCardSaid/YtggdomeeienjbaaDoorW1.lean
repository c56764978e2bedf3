/- Contracts and plain facts, several texts of mine in one: Tx1, Tx3, Tx5, TxB, Tx4, Ref03, Ref01, Ref04, Ref04b, Ref04c, Ref04d, Ref05. No condition. -/
import Derived.Test.YtggdomeeienjbaaDoorDMath
import Derived.Test.YtggdomeeienjbaaDoorSmall02
import Derived.Test.YtggdomeeienjbaaDoorDFacts
import Derived.Test.YtggdomeeienjbaaDoorChecked
import Derived.Test.YtggdomeeienjbaaDoorShelf
import Derived.Test.YtggdomeeienjbaaDoorLib
import Derived.Test.YtggdomeeienjbaaDoorMem
import Derived.Lib.Builder
import Derived.Test.YtggdomeeienjbaaDoorDWords3
import Derived.Test.YtggdomeeienjbaaDoorCheck
import Derived.Test.YtggdomeeienjbaaDoorNumMath
import Derived.Laws.BytesString
import Derived.Test.YtggdomeeienjbaaDoorTyCo
import Derived.Test.YtggdomeeienjbaaDoorTyRg
import Derived.Test.YtggdomeeienjbaaDoorQTail
import Derived.Maps.AppendAt
import Derived.Test.YtggdomeeienjbaaDoorFacts5

/- Texts of directives, as plain functions of rows of words. No condition. -/
namespace Go.Proofs.YtggdomeeienjbaaDoor
open Go.ChangeShapes Go.WideShapes Go.ChangeAt Go.RowKit Go.Sort
set_option linter.unusedSimpArgs false
set_option linter.unusedVariables false
/-- The numbers of the rows that have words. -/
def lnoF : List Bytes → Int → List Int
  | [],_ => []
  | r :: rs,k => if (wordsL r).length = 0 then lnoF rs (k + 1) else k :: lnoF rs (k + 1)
abbrev Pt := List Dr × Int × Int
def addF (a : List Dr) (p : Pt) : Pt := if p.2.2 = 0 then (a ++ p.1,p.2) else p
/-- The directives of rows, or the first fault. -/
def textF : List Bytes → Int → Pt
  | [],_ => ([],0,0)
  | r :: rs,k => if (wordsL r).length = 0 then textF rs (k + 1) else if (parseD (wordsL r)).2 = 0 then addF [(parseD (wordsL r)).1] (textF rs (k + 1)) else ([],k,(parseD (wordsL r)).2)
def printF : List Dr → Option Bytes
  | [] => some []
  | d :: ds => if rightD d = true then (printF ds).map (lineL (wordsD d) ++ ·) else none
theorem addF_nil (p : Pt) : addF [] p = p := by unfold addF; split <;> simp
theorem addF_code (a : List Dr) (p : Pt) : (addF a p).2 = p.2 := by unfold addF; split <;> rfl
theorem addF_addF (a b : List Dr) (p : Pt) : addF a (addF b p) = addF (a ++ b) p := by
  unfold addF
  by_cases h : p.2.2 = 0
  · simp [h]
  · simp [h]
theorem dropS {rows : List Bytes} {i : Nat} (h : i < rows.length) : rows.drop i = gS rows i :: rows.drop (i + 1) := by
  rw [List.drop_eq_getElem_cons h,gS_eq h]
theorem dropDr {l : List Dr} {i : Nat} (h : i < l.length) : l.drop i = gDr l i :: l.drop (i + 1) := by
  rw [List.drop_eq_getElem_cons h,gDr_eq h]
theorem lno_blank {rows : List Bytes} {i : Nat} {k : Int} (h : i < rows.length) (hw : (wordsL (gS rows i)).length = 0) : lnoF (rows.drop i) k = lnoF (rows.drop (i + 1)) (k + 1) := by
  rw [dropS h]; simp [lnoF,hw]
theorem lno_word {rows : List Bytes} {i : Nat} {k : Int} (h : i < rows.length) (hw : (wordsL (gS rows i)).length ≠ 0) : lnoF (rows.drop i) k = k :: lnoF (rows.drop (i + 1)) (k + 1) := by
  rw [dropS h]; simp [lnoF,hw]
theorem text_blank {rows : List Bytes} {i : Nat} {k : Int} (h : i < rows.length) (hw : (wordsL (gS rows i)).length = 0) : textF (rows.drop i) k = textF (rows.drop (i + 1)) (k + 1) := by
  rw [dropS h]; simp [textF,hw]
theorem text_ok {rows : List Bytes} {i : Nat} {k : Int} {z : Dr} (h : i < rows.length) (hw : (wordsL (gS rows i)).length ≠ 0) (hp : parseD (wordsL (gS rows i)) = (z,0)) : textF (rows.drop i) k = addF [z] (textF (rows.drop (i + 1)) (k + 1)) := by
  rw [dropS h]
  simp only [textF]
  rw [if_neg hw,hp,if_pos rfl]
theorem text_bad {rows : List Bytes} {i : Nat} {k : Int} {z : Dr} {q : Int} (h : i < rows.length) (hw : (wordsL (gS rows i)).length ≠ 0) (hp : parseD (wordsL (gS rows i)) = (z,q)) (hq : q ≠ 0) : textF (rows.drop i) k = ([],k,q) := by
  rw [dropS h]
  simp only [textF]
  rw [if_neg hw,hp,if_neg hq]
theorem print_ok {l : List Dr} {i : Nat} (h : i < l.length) (hr : rightD (gDr l i) = true) : printF (l.drop i) = (printF (l.drop (i + 1))).map (lineL (wordsD (gDr l i)) ++ ·) := by
  rw [dropDr h]; simp [printF,hr]
theorem print_no {l : List Dr} {i : Nat} (h : i < l.length) (hr : rightD (gDr l i) = false) : printF (l.drop i) = none := by
  rw [dropDr h]; simp [printF,hr]
theorem finS_mem {B : Nat} {st : Pcs} (h1 : ∀ x ∈ st.1,x.length ≤ B) (h2 : st.2.length ≤ B) : ∀ x ∈ finS st,x.length ≤ B := by
  unfold finS
  split
  · exact h1
  · intro x hx
    rcases List.mem_append.1 hx with h | h
    · exact h1 x h
    · simp at h; subst h; exact h2
theorem foldL_mem : ∀ (s : Bytes) (o : List Bytes) (cur : Bytes) (B : Nat),(∀ x ∈ o,x.length ≤ B) → cur.length + s.length ≤ B → (∀ x ∈ (s.foldl stL (o,cur)).1,x.length ≤ B) ∧ (s.foldl stL (o,cur)).2.length ≤ B
  | [],o,cur,B,h1,h2 => ⟨h1,by simpa using h2⟩
  | c :: r,o,cur,B,h1,h2 => by
    rw [List.foldl_cons]
    simp at h2
    by_cases h : c = 10
    · subst h; rw [stL_ten]
      refine foldL_mem r (o ++ [cur]) [] B (fun x hx => ?_) (by simp; omega)
      rcases List.mem_append.1 hx with h | h
      · exact h1 x h
      · simp at h; subst h; omega
    · rw [stL_other h]
      exact foldL_mem r o (cur ++ [c]) B h1 (by simp; omega)
theorem lines_mem {s x : Bytes} (h : x ∈ linesL s) : x.length ≤ s.length := by
  unfold linesL at h
  obtain ⟨h1,h2⟩ := foldL_mem s [] [] s.length (by simp) (by simp)
  exact finS_mem h1 h2 x h
theorem foldW_mem : ∀ (s : Bytes) (o : List Bytes) (cur : Bytes) (B : Nat),(∀ x ∈ o,x.length ≤ B) → cur.length + s.length ≤ B → (∀ x ∈ (s.foldl stW (o,cur)).1,x.length ≤ B) ∧ (s.foldl stW (o,cur)).2.length ≤ B
  | [],o,cur,B,h1,h2 => ⟨h1,by simpa using h2⟩
  | c :: r,o,cur,B,h1,h2 => by
    rw [List.foldl_cons]
    simp at h2
    cases h : blankC c with
    | true =>
      rw [stW_blank h]
      split
      · exact foldW_mem r o [] B h1 (by simp; omega)
      · refine foldW_mem r (o ++ [cur]) [] B (fun x hx => ?_) (by simp; omega)
        rcases List.mem_append.1 hx with h | h
        · exact h1 x h
        · simp at h; subst h; omega
    | false =>
      rw [stW_other h]
      exact foldW_mem r o (cur ++ [c]) B h1 (by simp; omega)
theorem words_mem {s x : Bytes} (h : x ∈ wordsL s) : x.length ≤ s.length := by
  unfold wordsL at h
  have hh := hash_le s
  obtain ⟨h1,h2⟩ := foldW_mem (hashL s) [] [] s.length (by simp) (by simp; omega)
  exact finS_mem h1 h2 x h
theorem own_low {w w' : World} {base : Nat} {e : TypeId} {size n : Nat} {v : Value} {xs : List Value} {row : Option Nat} (h : w.ownsRow base e size v n xs) (hg : w.grownBy w' row) (hr : ∀ q,row = some q → q < base) : w'.ownsRow base e size v n xs :=
  h.kept hg (by
    cases hq : v.ownBlock with
    | none => exact .inl rfl
    | some q => exact .inr (fun e => by have := hr q e.symm; have := (h.lt q hq).1; omega))
end Go.Proofs.YtggdomeeienjbaaDoor

/- Contract of text.Parse: the directives of a text, or its first fault. It makes new memory alone. -/
namespace Go.Proofs.YtggdomeeienjbaaDoor
open Go.ChangeShapes Go.WideShapes Go.ChangeAt Go.RowKit Go.Sort
set_option linter.unusedSimpArgs false
set_option linter.unusedVariables false
theorem flatDr_one_ (y : Dr) : flatDr [y] = [.int .i64 y.op, .int .i64 y.kd, .int .i64 y.id, .int .i64 y.fr, .int .i64 y.tn, .int .i64 y.st, .int .i64 y.en, .int .i64 y.rt, .int .i64 y.rf, .int .i64 y.rn, .int .i64 y.rs, .int .i64 y.re, .int .i64 y.ro] := rfl
theorem textF_bound : ∀ (rows : List Bytes) (k : Int),(textF rows k).2.2 = 0 → (textF rows k).2.1 = 0 ∧ (textF rows k).1.length ≤ rows.length
  | [],k,_ => ⟨rfl,by simp [textF]⟩
  | r :: rs,k,h => by
    have ih := textF_bound rs (k + 1)
    simp only [textF] at h ⊢
    split at h
    · rename_i h0
      rw [if_pos h0]
      obtain ⟨h1,h2⟩ := ih h
      exact ⟨h1,by simp; omega⟩
    · rename_i h0
      rw [if_neg h0]
      split at h
      · rename_i h1
        rw [if_pos h1]
        rw [addF_code] at h
        obtain ⟨h2,h3⟩ := ih h
        refine ⟨by rw [addF_code]; exact h2,?_⟩
        unfold addF
        rw [if_pos h]
        simp
        omega
      · rename_i h1
        exact absurd h h1
end Go.Proofs.YtggdomeeienjbaaDoor

/- The document's own words for the same rows (directives, numbers): contracts. No condition but on sizes. -/
namespace Go.Proofs.YtggdomeeienjbaaDoor
open Go.ChangeShapes Go.WideShapes Go.ChangeAt Go.RowKit Go.Sort
set_option linter.unusedSimpArgs false
set_option linter.unusedVariables false
def gI5 (d : List Int) (i : Nat) : Int := d.getD i 0
theorem gI5_eq {d : List Int} {k : Nat} (h : k < d.length) : gI5 d k = d[k] := by simp [gI5,List.getD_eq_getElem?_getD,List.getElem?_eq_getElem h]
theorem take_nextI5 {l : List Int} {k : Nat} (h : k < l.length) : l.take (k + 1) = l.take k ++ [gI5 l k] := by
  rw [List.take_succ_eq_append_getElem h,gI5_eq h]
theorem Lst.atI5 {w : World} {B : Nat} {A : Option Addr} {n : Nat} {l : List Int} (h : Lst w B 1 A n (l.map (Value.int .i64))) (hl : l.length = n) {k : Nat} (hk : k < n) : ∃ ad,A = some ad ∧ ad.block < B ∧ w.cell? (ad.add k) = some (.int .i64 (gI5 l k)) := by
  obtain ⟨ad,e,hb,hc⟩ := h.at_ (by omega)
  refine ⟨ad,e,hb,hc _ _ ?_⟩
  rw [List.getElem?_map,List.getElem?_eq_getElem (by omega),gI5_eq (by omega)]
  rfl
set_option maxHeartbeats 1000000 in
set_option maxRecDepth 100000 in
theorem fints_any (A A' : Option Addr) (n c n' c' : Nat) (d d' : List Int) (w : World) (hd : d.length = n) (hd' : d'.length = n') (hn : n ≤ 100000) (h : Sl w w.heap.size 1 A n c (d.map (Value.int .i64))) (h' : Sl w w.heap.size 1 A' n' c' (d'.map (Value.int .i64))) :
    Calls Tryd.prog 18 #[.slice A n c, .slice A' n' c'] w fun e w' => e = .returned (.bool (decide (d = d'))) ∧ Below w.heap.size w w' := by
  have HD := Lib.hid hd
  have HD' := Lib.hid hd'
  clear hd hd'
  by_cases hl : n = n'
  · subst hl
    have HL := Lib.hid h
    have HL' := Lib.hid h'
    clear h h'
    go_enter Tryd.func18,Tryd.ntmps18
    go_wp2
    go_loopw [5] (fun iv wr => ∃ (i : Nat),iv = .int .i64 i ∧ i ≤ n ∧ Hid (d.take i = d'.take i) ∧ Below w.heap.size w wr) (fun iv _ => n - (intOf iv).toNat)
    case atStart => exact ⟨0,rfl,by omega,by simp [Hid],Below.refl _ _⟩
    case round =>
      obtain ⟨i,rfl,hi,HE,hB⟩ := hrel
      by_cases hin : i < n
      · obtain ⟨ad,rfl,hab,c0⟩ := (HL.out.below hB).lst.atI5 HD.out hin
        obtain ⟨ad',rfl,hab',c0'⟩ := (HL'.out.below hB).lst.atI5 HD'.out hin
        by_cases he : gI5 d i = gI5 d' i
        · have HE2 : Hid (d.take (i + 1) = d'.take (i + 1)) := by
            show d.take (i + 1) = d'.take (i + 1)
            rw [take_nextI5 (by rw [HD.out]; exact hin),take_nextI5 (by rw [HD'.out]; exact hin),HE.out,he]
          rw [he] at c0
          clear HE
          go_wp2_with fail
          have q_c0 := fun d os => cell_regrown c0 d os
          have q_c0' := fun d os => cell_regrown c0' d os
          try simp only [List.append]
          first | refine wp_region_text_below ?_ | refine wp_region_quiet_below (by kernel_rfl) (by kernel_rfl) ?_
          repeat (go_big_quiet_step ((fail)))
          refine wpQuiet_nil ?_
          intro _ hqw
          obtain ⟨pq,hqw⟩ := hqw
          subst hqw
          clear q_c0 q_c0'
          have hbq := hB.trans ((below_regrown wr pq.d pq.os).mono hB.size)
          clear c0 c0'
          generalize grow (redrawn wr pq.d) pq.os = wq at *
          go_wp2_with fail
          go_roundw
          case rel => exact ⟨i + 1,by go_num,by omega,HE2,hbq⟩
          case measure => simp [intOf]; omega
        · have hne : d ≠ d' := fun e => he (by rw [e])
          have hsb : ((gI5 d i) != (gI5 d' i)) = true := by simpa using he
          have HNE := Lib.hid hne
          clear hne
          generalize gI5 d i = s1 at *
          generalize gI5 d' i = s2 at *
          go_wp2_with fail
          have q_c0 := fun d os => cell_regrown c0 d os
          have q_c0' := fun d os => cell_regrown c0' d os
          try simp only [List.append]
          first | refine wp_region_text_below ?_ | refine wp_region_quiet_below (by kernel_rfl) (by kernel_rfl) ?_
          repeat (go_big_quiet_step ((fail)))
          refine wpQuiet_nil ?_
          intro _ hqw
          obtain ⟨pq,hqw⟩ := hqw
          subst hqw
          clear q_c0 q_c0'
          have hbq := hB.trans ((below_regrown wr pq.d pq.os).mono hB.size)
          clear c0 c0'
          generalize grow (redrawn wr pq.d) pq.os = wq at *
          go_wp2_with fail
          go_ret
          exact ⟨by rw [decide_eq_false HNE.out]; rfl,hbq⟩
      · have hie : i = n := by omega
        subst hie
        have hdd : d = d' := by
          have := HE.out
          rw [List.take_of_length_le (by rw [HD.out]; omega),List.take_of_length_le (by rw [HD'.out]; omega)] at this
          exact this
        have HDD := Lib.hid hdd
        clear hdd
        go_wp2_with fail
        go_ret
        exact ⟨by rw [decide_eq_true HDD.out]; rfl,hB⟩
  · have hne : d ≠ d' := fun e => hl (by rw [← HD.out,← HD'.out,e])
    have hb : ((n : Int) != (n' : Int)) = true := by simp; omega
    have HNE := Lib.hid hne
    clear hl hne
    go_enter Tryd.func18,Tryd.ntmps18
    go_wp2
    go_ret
    exact ⟨by rw [decide_eq_false HNE.out]; rfl,Below.refl _ _⟩

end Go.Proofs.YtggdomeeienjbaaDoor

/- strings.Builder.WriteString in this program: walked anew (the library's own contract does not lay over it: a branch of copyCheck that is never met is refused by the loader). No condition but on sizes. -/
namespace Go.Proofs.YtggdomeeienjbaaDoor
open Go.ChangeShapes Go.WideShapes Go.ChangeAt Go.RowKit Go.Sort
set_option linter.unusedSimpArgs false
set_option linter.unusedVariables false
theorem infoB8 : (Tryd.prog.info? 5).map (fun i => (i.zero,i.size,i.bytes)) = some (some (.int .u8 0),1,1) := by kernel_rfl
theorem sizeBd : (Tryd.prog.info? 55).map (fun i => i.size) = some 2 := by kernel_rfl
theorem liesBd : liesAt Tryd.prog Tryd.prog.depth 55 (2 / Tryd.prog.cellsOf 55) 0 55 1 = true := by kernel_rfl
set_option maxHeartbeats 1000000 in
set_option maxRecDepth 100000 in
theorem check_used (b : Nat) (w : World) (h0 : w.cell? ⟨b,0,none⟩ = some (.pointer (some ⟨b,0,none⟩))) :
    Calls Tryd.prog 35 #[.pointer (some ⟨b,0,none⟩)] w fun e w' => e = .returned (.tuple #[]) ∧ w' = w := by
  obtain ⟨j,hj,_⟩ := Option.map_eq_some_iff.1 sizeBd
  have hne := Lib.run_neq_ptr_same (P := Tryd.prog) w (tp := 53) ⟨b,0,none⟩ Tryd.underlying53 hj
  go_enter Tryd.func35,Tryd.ntmps35
  go_wp2
  try rw [hne]
  go_wp2
  go_end0
  exact ⟨rfl,rfl⟩
set_option maxHeartbeats 1000000 in
set_option maxRecDepth 100000 in
theorem check_fresh (b : Nat) (w : World) (h0 : w.cell? ⟨b,0,none⟩ = some (.pointer none)) (hsh : w.shape? b = some (55,2)) (hfz : w.frozen? ⟨b,0,none⟩ = false) :
    Calls Tryd.prog 35 #[.pointer (some ⟨b,0,none⟩)] w fun e w' => e = .returned (.tuple #[]) ∧ w' = w.setCell ⟨b,0,none⟩ (.pointer (some ⟨b,0,none⟩)) := by
  obtain ⟨j,hj,hjs⟩ := Option.map_eq_some_iff.1 sizeBd
  go_enter Tryd.func35,Tryd.ntmps35
  go_wp2
  rw [Lib.run_to_unsafe w ⟨b,0,none⟩ Tryd.underlying53 Tryd.underlying88 hj (by rw [hjs]; decide) hsh (Nat.zero_lt_succ 1)]
  simp only [Result.andThen]
  rw [Oper.upon_value]
  go_wp2
  rw [run_callFunc_extern Tryd.func65 (by kernel_rfl) (by kernel_rfl) (by kernel_rfl) (e := Extern.AbiNoEscape.same) (by kernel_rfl)]
  rw [Lib.run_noEscape]
  simp only [Result.andThen]
  rw [Oper.upon_value]
  go_wp2
  rw [Lib.run_from_unsafe w ⟨b,0,none⟩ Tryd.underlying88 Tryd.underlying53 hj hsh liesBd]
  simp only [Result.andThen]
  rw [Oper.upon_value]
  go_wp2
  go_end0
  exact ⟨rfl,rfl⟩
theorem check_any (B b : Nat) (bs : List Value) (w : World) (h : Lib.IsBuilder 55 5 B b bs w) :
    Calls Tryd.prog 35 #[.pointer (some ⟨b,0,none⟩)] w fun e w' => e = .returned (.tuple #[]) ∧ (Lib.BuilderAt 55 5 B b (.pointer (some ⟨b,0,none⟩)) bs w' ∧ Below B w w') := by
  rcases h with h | h
  · refine (check_fresh b w h.cell0 h.shape h.frozen0).mono ?_
    rintro e w' ⟨rfl,rfl⟩
    exact ⟨rfl,h.used _,(Below.refl B w).setCell (p := ⟨b,0,none⟩) h.1 _⟩
  · refine (check_used b w h.cell0).mono ?_
    rintro e w' ⟨rfl,rfl⟩
    exact ⟨rfl,h,Below.refl B _⟩
set_option maxHeartbeats 1000000 in
set_option maxRecDepth 100000 in
theorem writeS_any (B b : Nat) (bs : List Value) (s : ByteArray) (w : World) (h : Lib.IsBuilder 55 5 B b bs w) (hlen : bs.length + s.size ≤ 140737488355328) (hBw : B ≤ w.heap.size) :
    Calls Tryd.prog 24 #[.pointer (some ⟨b,0,none⟩), .string s] w fun e w' => e = .returned (.tuple #[.int .i64 s.size, .nilIface]) ∧ (Lib.BuilderAt 55 5 B b (.pointer (some ⟨b,0,none⟩)) (bs ++ Lib.strCells s) w' ∧ Below B w w') := by
  obtain ⟨i0,hi,hz0,hz1,hz2⟩ := info_parts infoB8
  go_enter Tryd.func24,Tryd.ntmps24
  go_wp2_with fail
  refine (check_any B b bs _ h).mono ?_
  rintro e w1 ⟨rfl,h1,hb1⟩
  obtain ⟨hB,v,hbk,hown,hne⟩ := h1
  have c0 : w1.cell? ⟨b,0,none⟩ = some (.pointer (some ⟨b,0,none⟩)) := by rw [Lib.cell_of_heap hbk]; rfl
  have c1 : w1.cell? ⟨b,1,none⟩ = some v := by rw [Lib.cell_of_heap hbk]; rfl
  have hs1 := hb1.size
  go_wp2_with (at_builtin; refine Lib.wpList_append_own_string _ rfl _ _ 22 9 rfl B 5 i0 Tryd.underlying22 Tryd.underlying9 hi hz0 hz1 hz2 _ _ _ rfl hown s rfl ?c3 ?c4 ?c5 ?_)
  case c3 => unfold maxLen; omega
  case c4 => omega
  case c5 => omega
  intro v' w2 hown' hgrow _
  have hlt : b < w1.heap.size := Lib.BuilderAt.lt ⟨hB,v,hbk,hown,hne⟩
  have hb2 : w2.heap[b]? = some (.cells #[.pointer (some ⟨b,0,none⟩),v] 55 (0,0)) := by
    rw [hgrow.block b hlt (fun e => hne e.symm)]
    exact hbk
  have d1 : w2.cell? ⟨b,1,none⟩ = some v := by rw [Lib.cell_of_heap hb2]; rfl
  have d0 : w2.cell? ⟨b,0,none⟩ = some (.pointer (some ⟨b,0,none⟩)) := by rw [Lib.cell_of_heap hb2]; rfl
  have f1 : w2.frozen? ⟨b,1,none⟩ = false := Lib.frozen_of_heap hb2 1
  obtain ⟨ao,cap,rfl⟩ := slice_of_own hown'
  go_wp2
  go_ret2
  refine ⟨rfl,?_,?_⟩
  · exact Lib.BuilderAt.put (T := 55) (e := 5) hB hb2 (bs' := bs ++ Lib.strCells s) (by simpa [Lib.strCells_length] using hown') (by decide)
  · exact (hb1.grown hgrow (by omega) (fun k hk => (hown.lt k hk).1)).setCell (p := ⟨b,1,none⟩) hB _
end Go.Proofs.YtggdomeeienjbaaDoor

/- Contract of text.Print: a line for each right directive. It makes new memory alone. -/
namespace Go.Proofs.YtggdomeeienjbaaDoor
open Go.ChangeShapes Go.WideShapes Go.ChangeAt Go.RowKit Go.Sort
set_option linter.unusedSimpArgs false
set_option linter.unusedVariables false
theorem builder_below {T e : TypeId} {B b : Nat} {bs : List Value} {w w' : World} (h : Lib.IsBuilder T e B b bs w) (hb : Below w.heap.size w w') : Lib.IsBuilder T e B b bs w' := by
  rcases h with h | h
  · obtain ⟨h1,v,h2,h3,h4⟩ := h
    exact .inl ⟨h1,v,by rw [hb.block b (Lib.BuilderAt.lt ⟨h1,v,h2,h3,h4⟩)]; exact h2,own_below h3 hb,h4⟩
  · obtain ⟨h1,v,h2,h3,h4⟩ := h
    exact .inr ⟨h1,v,by rw [hb.block b (Lib.BuilderAt.lt ⟨h1,v,h2,h3,h4⟩)]; exact h2,own_below h3 hb,h4⟩
def printV : Option Bytes → Value
  | some s => .tuple #[.string (bs s), .bool true]
  | none => .tuple #[.string (bs []), .bool false]
theorem strCells_bs (s : Bytes) : Lib.strCells (bs s) = Lib.byteCells s := by unfold Lib.strCells; rw [bs_list]; rfl
theorem lnD_len {d : Dr} (h : rightD d = true) : (lineL (wordsD d)).length ≤ 200 := by
  have h1 := jn_len (B := 21) (wordsD d) (words_small h)
  rw [words_len_eq] at h1
  have h2 := nums_le d
  rw [lineL_eq,List.length_append]
  have h3 : (2 + (numsD d).length) * (21 + 1) ≤ 8 * 22 := Nat.mul_le_mul (by omega) (by omega)
  simp
  omega
set_option maxHeartbeats 8000000 in
set_option maxRecDepth 100000 in
theorem tprint_any (A : Option Addr) (n c : Nat) (ds : List Dr) (hd : ds.length = n) (hn : n ≤ 10000) (hwf : ∀ x ∈ ds,(Lit.int .i64 x.op).wf = true ∧ (Lit.int .i64 x.kd).wf = true) (w : World) (ht : TenTab w) (h : Sl w w.heap.size 13 A n c (flatDr ds)) (r : Option Bytes) (hr : printF ds = r) :
    Calls Tryd.prog 15 #[.slice A n c] w fun e w' => e = .returned (printV r) ∧ Below w.heap.size w w' := by
  have HD := Lib.hid hd
  have HR := Lib.hid hr
  have HWF := Lib.hid hwf
  have HL := Lib.hid h
  have HT := Lib.hid ht
  clear hd hr hwf h ht
  go_enter Tryd.func15,Tryd.ntmps15
  go_wp2_with fail
  have hb0 := Lib.fresh_isBuilder 55 5 w
  have hB0 : Below w.heap.size w (w.alloc (.cells #[.pointer none, .slice none 0 0] 55)) := by (repeat (first | exact Below.refl _ _ | refine Below.alloc ?_ (by first | omega | (simp; done) | (simp; omega)) _ | refine Below.setCell ?_ (by first | omega | (simp; done) | (simp; omega)) _ | refine Below.drew ?_))
  go_loopw [11] (fun iv wr => ∃ (i : Nat) (s : Bytes),iv = .int .i64 i ∧ i ≤ n ∧ Hid (printF ds = (printF (ds.drop i)).map (s ++ ·)) ∧ s.length ≤ i * 200 ∧ Lib.IsBuilder 55 5 w.heap.size w.heap.size (Lib.byteCells s) wr ∧ Below w.heap.size w wr) (fun iv _ => n - (intOf iv).toNat)
  case atStart => exact ⟨0,[],rfl,by omega,by simp [Hid],by simp,hb0,hB0⟩
  case round =>
    clear hb0 hB0
    obtain ⟨i,s,rfl,hi,HF,hsl,hbd,hB⟩ := hrel
    have hsz := hB.size
    by_cases hin : i < n
    · have hil : i < ds.length := by rw [HD.out]; exact hin
      obtain ⟨ad,rfl,hab,c_0,c_1,c_2,c_3,c_4,c_5,c_6,c_7,c_8,c_9,c_10,c_11,c_12⟩ := (HL.out.below hB).lst.atDr HD.out hin
      have hw1 := HWF.out _ (gDr_mem hil)
      have HIL := Lib.hid hil
      clear hil
      obtain ⟨x,hx⟩ : ∃ x,gDr ds i = x := ⟨_,rfl⟩
      rw [hx] at c_0 c_1 c_2 c_3 c_4 c_5 c_6 c_7 c_8 c_9 c_10 c_11 c_12 hw1
      obtain ⟨w1,w2⟩ := hw1
      have HX := Lib.hid hx
      clear hx
      have hX := Blok.new wr 31 #[.int .i64 x.op, .int .i64 x.kd, .int .i64 x.id, .int .i64 x.fr, .int .i64 x.tn, .int .i64 x.st, .int .i64 x.en, .int .i64 x.rt, .int .i64 x.rf, .int .i64 x.rn, .int .i64 x.rs, .int .i64 x.re, .int .i64 x.ro]
      have hb : Below wr.heap.size wr (wr.alloc (.cells #[.int .i64 x.op, .int .i64 x.kd, .int .i64 x.id, .int .i64 x.fr, .int .i64 x.tn, .int .i64 x.st, .int .i64 x.en, .int .i64 x.rt, .int .i64 x.rf, .int .i64 x.rn, .int .i64 x.rs, .int .i64 x.re, .int .i64 x.ro] 31)) := by (repeat (first | exact Below.refl _ _ | refine Below.alloc ?_ (by first | omega | (simp; done) | (simp; omega)) _ | refine Below.setCell ?_ (by first | omega | (simp; done) | (simp; omega)) _ | refine Below.drew ?_))
      replace hbd := builder_below hbd hb
      replace hB := hB.trans (hb.mono hsz)
      replace hsz := hB.size
      clear hb
      go_upto_region 5 with fail
      clear c_0 c_1 c_2 c_3 c_4 c_5 c_6 c_7 c_8 c_9 c_10 c_11 c_12
      generalize wr.alloc (.cells #[.int .i64 x.op, .int .i64 x.kd, .int .i64 x.id, .int .i64 x.fr, .int .i64 x.tn, .int .i64 x.st, .int .i64 x.en, .int .i64 x.rt, .int .i64 x.rf, .int .i64 x.rn, .int .i64 x.rs, .int .i64 x.re, .int .i64 x.ro] 31) = x0 at *
      generalize hbx : wr.heap.size = bx at *
      clear hbx
      have y0 : x0.cell? ⟨bx,0,none⟩ = some (.int .i64 x.op) := hX.cell 0
      have y1 : x0.cell? ⟨bx,1,none⟩ = some (.int .i64 x.kd) := hX.cell 1
      have y2 : x0.cell? ⟨bx,2,none⟩ = some (.int .i64 x.id) := hX.cell 2
      have y3 : x0.cell? ⟨bx,3,none⟩ = some (.int .i64 x.fr) := hX.cell 3
      have y4 : x0.cell? ⟨bx,4,none⟩ = some (.int .i64 x.tn) := hX.cell 4
      have y5 : x0.cell? ⟨bx,5,none⟩ = some (.int .i64 x.st) := hX.cell 5
      have y6 : x0.cell? ⟨bx,6,none⟩ = some (.int .i64 x.en) := hX.cell 6
      have y7 : x0.cell? ⟨bx,7,none⟩ = some (.int .i64 x.rt) := hX.cell 7
      have y8 : x0.cell? ⟨bx,8,none⟩ = some (.int .i64 x.rf) := hX.cell 8
      have y9 : x0.cell? ⟨bx,9,none⟩ = some (.int .i64 x.rn) := hX.cell 9
      have y10 : x0.cell? ⟨bx,10,none⟩ = some (.int .i64 x.rs) := hX.cell 10
      have y11 : x0.cell? ⟨bx,11,none⟩ = some (.int .i64 x.re) := hX.cell 11
      have y12 : x0.cell? ⟨bx,12,none⟩ = some (.int .i64 x.ro) := hX.cell 12
      have lt_y := hX.lt
      go_wp2_with fail
      clear y0 y1 y2 y3 y4 y5 y6 y7 y8 y9 y10 y11 y12 lt_y hX
      cases hrx : rightD x
      · have HRX := Lib.hid hrx
        clear hrx
        refine (dwords_no x x0 w1 w2 HRX.out).mono ?_
        rintro e x1 ⟨rfl,hb⟩
        replace hB := hB.trans (hb.mono hsz)
        clear hb hbd
        have hf : printF ds = none := by rw [HF.out,print_no HIL.out (by rw [HX.out]; exact HRX.out)]; rfl
        rw [HR.out] at hf
        subst hf
        go_wp2_with fail
        go_ret2
        exact ⟨rfl,hB⟩
      · have HRX := Lib.hid hrx
        clear hrx
        refine (dwords_yes x x0 w1 w2 HRX.out (HT.out.below hB)).mono ?_
        rintro e x1 ⟨v,rfl,hv,hb⟩
        replace hbd := builder_below hbd hb
        replace hB := hB.trans (hb.mono hsz)
        replace hsz := hB.size
        obtain ⟨k,hk⟩ : ∃ k,2 + (numsD x).length = k := ⟨_,rfl⟩
        rw [hk] at hv
        have hkb : k ≤ 10 := by have := nums_le x; omega
        have HK := Lib.hid (show (wordsD x).length = k by rw [words_len_eq]; exact hk)
        clear hk hb
        obtain ⟨A1,c1,rfl⟩ := slice_of_own hv
        have h1 := Sl.of_own hv
        clear hv
        go_wp2_with fail
        refine (line_any A1 k c1 (wordsD x) x1 HK.out (by omega) (fun y hy => Nat.le_trans (words_small HRX.out y hy) (by omega)) h1).mono ?_
        rintro e x2 ⟨rfl,hb⟩
        replace hbd := builder_below hbd hb
        replace hB := hB.trans (hb.mono hsz)
        replace hsz := hB.size
        clear hb h1
        have hll := lnD_len HRX.out
        obtain ⟨y,hy⟩ : ∃ y,lineL (wordsD x) = y := ⟨_,rfl⟩
        rw [hy] at hll
        have hn2 : printF ds = (printF (ds.drop (i + 1))).map ((s ++ y) ++ ·) := by
          rw [HF.out,print_ok HIL.out (by rw [HX.out]; exact HRX.out),HX.out,hy,Option.map_map]
          congr 1
          funext t
          simp
        have HN2 := Lib.hid hn2
        rw [hy]
        clear hy hn2
        go_wp2_with fail
        have hlen : (Lib.byteCells s).length + (bs y).size ≤ 140737488355328 := by rw [bs_size]; unfold Lib.byteCells; rw [List.length_map]; have : i * 200 ≤ 10000 * 200 := Nat.mul_le_mul (by omega) (by omega); omega
        refine (writeS_any w.heap.size w.heap.size (Lib.byteCells s) (bs y) x2 hbd hlen hsz).mono ?_
        rintro e x3 ⟨rfl,hbd2,hb⟩
        replace hB := hB.trans hb
        have hbd3 : Lib.IsBuilder 55 5 w.heap.size w.heap.size (Lib.byteCells (s ++ y)) x3 := .inr (by rw [strCells_bs] at hbd2; have h := hbd2; unfold Lib.byteCells at h ⊢; rw [List.map_append]; exact h)
        clear hbd2 hb hbd hlen
        go_wp2_with fail
        go_roundw
        case rel => exact ⟨i + 1,s ++ y,by go_num,by omega,HN2,by rw [List.length_append]; omega,hbd3,hB⟩
        case measure => simp [intOf]; omega
    · obtain rfl : n = i := by omega
      have hf : printF ds = some s := by rw [HF.out,List.drop_eq_nil_of_le (by rw [HD.out]; omega)]; simp [printF]
      rw [HR.out] at hf
      subst hf
      go_wp2_with fail
      refine (Tryd.Builder_String_any w.heap.size w.heap.size s wr hbd hsz).mono ?_
      rintro e x3 ⟨rfl,hb⟩
      replace hB := hB.trans hb
      clear hbd
      go_wp2_with fail
      go_ret2
      exact ⟨rfl,hB⟩
end Go.Proofs.YtggdomeeienjbaaDoor

/- Contracts of the document's answer for layer 3: it answers what package check answers, at all arguments. -/
namespace Go.Proofs.YtggdomeeienjbaaDoor
open Go.ChangeShapes Go.WideShapes Go.ChangeAt Go.RowKit Go.Sort
set_option linter.unusedSimpArgs false
set_option linter.unusedVariables false

theorem ret_bool {a b : Bool} (h : a = b) : Ending.returned (.bool a) = .returned (.bool b) := by rw [h]

theorem rnode_any (n : Int) (w : World) :
    Calls Tryd.prog 88 #[.int .i64 n] w fun e w' => e = .returned (.bool (nodeB n)) ∧ w = w' := by
  by_cases h1 : 1 ≤ n <;> by_cases h2 : n ≤ 255 <;>
  · go_enter Tryd.func88,Tryd.ntmps88
    go_wp2
    go_ret
    exact ⟨by simp [nodeB,inB,h1,h2],rfl⟩

def pairB (fr tn st en : Int) : Bool := wayB fr tn && spanB st en
theorem pairB_spec {fr tn st en : Int} : pairB fr tn st en = true ↔ (1 ≤ fr ∧ fr ≤ 255) ∧ (1 ≤ tn ∧ tn ≤ 255) ∧ fr ≠ tn ∧ 0 ≤ st ∧ st < en ∧ en ≤ 2147483647 := by
  simp [pairB,wayB,nodeB,spanB,inB,and_assoc]

theorem pair_any (fr tn st en : Int) (w : World) :
    Calls Tryd.prog 83 #[.int .i64 fr, .int .i64 tn, .int .i64 st, .int .i64 en] w fun e w' => e = .returned (.bool (pairB fr tn st en)) ∧ w = w' := by
  go_enter Tryd.func83,Tryd.ntmps83
  go_wp2_with (go_at_call 88; refine (rnode_any _ _).mono ?_; rintro e w' ⟨rfl,rfl⟩)
  all_goals go_ret
  all_goals refine ⟨ret_bool ?_,rfl⟩
  all_goals first
    | (simp [pairB,wayB,spanB, *]; done)
    | (simp [pairB,wayB,spanB, *]; omega)
theorem pair_is {fr tn st en : Int} (b : Bool) (h : pairB fr tn st en = b) (w : World) :
    Calls Tryd.prog 83 #[.int .i64 fr, .int .i64 tn, .int .i64 st, .int .i64 en] w fun e w' => e = .returned (.bool b) ∧ w = w' := h ▸ pair_any fr tn st en w
theorem rcontact_any (id fr tn st en ra : Int) (w : World) :
    Calls Tryd.prog 77 #[.agg #[.int .i64 id, .int .i64 fr, .int .i64 tn, .int .i64 st, .int .i64 en, .int .i64 ra]] w fun e w' => e = .returned (.bool (contactB id fr tn st en ra)) ∧ Below w.heap.size w w' := by
  by_cases hp : pairB fr tn st en = true
  · have HP := Lib.hid hp
    have Hp := Lib.hid (pairB_spec.1 hp)
    clear hp
    go_enter Tryd.func77,Tryd.ntmps77
    go_wp2_with (go_at_call 83; refine (pair_is true HP.out _).mono ?_; rintro e w' ⟨rfl,rfl⟩)
    all_goals go_ret
    all_goals refine ⟨ret_bool ?_,(Below.refl _ _).alloc (Nat.le_refl _) _⟩
    all_goals
      have hp := Hp.out
      rw [Bool.eq_iff_iff,contactB_spec]
      simp only [decide_eq_true_eq,Bool.false_eq_true,iff_true,false_iff,true_iff]
      omega
  · have HP := Lib.hid (show pairB fr tn st en = false by simpa using hp)
    rw [pairB_spec] at hp
    have Hp := Lib.hid hp
    clear hp
    go_enter Tryd.func77,Tryd.ntmps77
    go_wp2_with (go_at_call 83; refine (pair_is false HP.out _).mono ?_; rintro e w' ⟨rfl,rfl⟩)
    go_ret
    have hp := Hp.out
    exact ⟨ret_bool (by symm; rw [Bool.eq_false_iff,ne_eq,contactB_spec]; omega),(Below.refl _ _).alloc (Nat.le_refl _) _⟩
theorem rcontact_is {id fr tn st en ra : Int} (b : Bool) (h : contactB id fr tn st en ra = b) (w : World) :
    Calls Tryd.prog 77 #[.agg #[.int .i64 id, .int .i64 fr, .int .i64 tn, .int .i64 st, .int .i64 en, .int .i64 ra]] w fun e w' => e = .returned (.bool b) ∧ Below w.heap.size w w' := h ▸ rcontact_any id fr tn st en ra w
theorem rrange_any (fr tn st en ow : Int) (w : World) :
    Calls Tryd.prog 80 #[.agg #[.int .i64 fr, .int .i64 tn, .int .i64 st, .int .i64 en, .int .i64 ow]] w fun e w' => e = .returned (.bool (rangeB fr tn st en ow)) ∧ Below w.heap.size w w' := by
  by_cases hp : pairB fr tn st en = true
  · have HP := Lib.hid hp
    have Hp := Lib.hid (pairB_spec.1 hp)
    clear hp
    go_enter Tryd.func80,Tryd.ntmps80
    go_wp2_with (go_at_call 83; refine (pair_is true HP.out _).mono ?_; rintro e w' ⟨rfl,rfl⟩)
    all_goals go_ret
    all_goals refine ⟨ret_bool ?_,(Below.refl _ _).alloc (Nat.le_refl _) _⟩
    all_goals
      have hp := Hp.out
      rw [Bool.eq_iff_iff,rangeB_spec]
      simp only [decide_eq_true_eq,Bool.false_eq_true,iff_true,false_iff,true_iff]
      omega
  · have HP := Lib.hid (show pairB fr tn st en = false by simpa using hp)
    rw [pairB_spec] at hp
    have Hp := Lib.hid hp
    clear hp
    go_enter Tryd.func80,Tryd.ntmps80
    go_wp2_with (go_at_call 83; refine (pair_is false HP.out _).mono ?_; rintro e w' ⟨rfl,rfl⟩)
    go_ret
    have hp := Hp.out
    exact ⟨ret_bool (by symm; rw [Bool.eq_false_iff,ne_eq,rangeB_spec]; omega),(Below.refl _ _).alloc (Nat.le_refl _) _⟩
end Go.Proofs.YtggdomeeienjbaaDoor

/- Contracts of the document's answers for numbers' texts: at all numbers, at all texts. No condition. -/
namespace Go.Proofs.YtggdomeeienjbaaDoor
open Go.ChangeShapes Go.WideShapes Go.ChangeAt Go.RowKit Go.Sort
set_option linter.unusedSimpArgs false
set_option linter.unusedVariables false

theorem itoa_digit {n : Int} (h0 : 0 ≤ n) (h1 : n ≤ 9) : Lib.itoa n = [UInt8.ofNat (48 + n.toNat)] := by
  unfold Lib.itoa
  rw [if_neg (by omega),Lib.decDigits_one (by omega)]
theorem itoa_more {n : Int} (h0 : 10 ≤ n) : Lib.itoa n = Lib.itoa (n / 10) ++ [UInt8.ofNat (48 + (n % 10).toNat)] := by
  unfold Lib.itoa
  rw [if_neg (by omega),if_neg (by omega),Lib.decDigits,dif_neg (by omega)]
  rw [show n.toNat / 10 = (n / 10).toNat by omega,show n.toNat % 10 = (n % 10).toNat by omega]
theorem itoa_neg {n : Int} (h0 : n < 0) : Lib.itoa n = 45 :: Lib.itoa (-n) := by
  unfold Lib.itoa
  rw [if_pos h0,if_neg (by omega),show n.natAbs = (-n).toNat by omega]
theorem itoa_negmore {n : Int} (h0 : n ≤ -10) : Lib.itoa n = Lib.itoa (-((-n) / 10)) ++ Lib.itoa ((-n) % 10) := by
  rw [itoa_neg (by omega),itoa_more (by omega),itoa_neg (n := -((-n) / 10)) (by omega),itoa_digit (n := (-n) % 10) (by omega) (by omega),Int.neg_neg]
  rfl

theorem conv_one (W : World) (c : Int) :
    (convert 22 9 (.slice (some ⟨W.heap.size,0,none⟩) 1 1)).run Tryd.prog (W.alloc (.cells #[.int .u8 c] 5)) = .ok (.string (bs [UInt8.ofNat c.toNat])) (W.alloc (.cells #[.int .u8 c] 5)) := by
  rw [run_convert_bytes_string (P := Tryd.prog) (W.alloc (.cells #[.int .u8 c] 5)) 22 9 5 _ _ _ Tryd.underlying22 Tryd.underlying5 Tryd.underlying9]
  rw [run_bytesToString (W.alloc (.cells #[.int .u8 c] 5)) ⟨W.heap.size,0,none⟩ 1 1 [c] (by simp [loadCells,go_sem])]
  rfl

theorem rtext_digit {n : Int} (h0 : 0 ≤ n) (h1 : n ≤ 9) (w : World) :
    Calls Tryd.prog 70 #[.int .i64 n] w fun e w' => e = .returned (.string (bs (Lib.itoa n))) ∧ Below w.heap.size w w' := by
  have hc := conv_one w (48 + n % 10)
  have h2 : ¬ n < 0 := by omega
  have h3 : n < 10 := by omega
  have E := Lib.hid (show bs [UInt8.ofNat (48 + n % 10).toNat] = bs (Lib.itoa n) by
    rw [itoa_digit h0 h1,show (48 + n % 10).toNat = 48 + n.toNat by omega])
  go_enter Tryd.func70,Tryd.ntmps70
  go_wp2
  go_ret
  exact ⟨by rw [← E.out]; rfl,(Below.refl _ _).alloc (Nat.le_refl _) _⟩

theorem bs_len_le {l : List UInt8} {k : Nat} (h : l.length ≤ k) : (bs l).size ≤ k := by rw [bs_size]; exact h

set_option maxHeartbeats 1000000 in
theorem rtext_ind (k : Nat) : ∀ (n : Int) (w : World),2 * n.natAbs + (if n < 0 then 1 else 0) ≤ k → -9223372036854775808 ≤ n → n ≤ 9223372036854775807 →
    Calls Tryd.prog 70 #[.int .i64 n] w fun e w' => e = .returned (.string (bs (Lib.itoa n))) ∧ Below w.heap.size w w' := by
  induction k with
  | zero =>
    intro n w hk _ _
    exact rtext_digit (by omega) (by omega) w
  | succ k ih =>
    intro n w hk hlo hhi
    by_cases h1 : n < 0
    · by_cases h2 : -10 < n
      · have ih1 := Lib.hid (ih (-n) w (by split at hk <;> split <;> omega) (by omega) (by omega))
        have hs : (bs (Lib.itoa (-n))).size ≤ 20 := bs_len_le (itoa_len (by omega) (by omega)).2
        have E := Lib.hid (show bs (Lib.itoa n) = (⟨#[45]⟩ : ByteArray) ++ bs (Lib.itoa (-n)) by rw [itoa_neg h1,show (⟨#[45]⟩ : ByteArray) = bs [45] from rfl,bs_append]; rfl)
        obtain ⟨s,hsn⟩ : ∃ s,bs (Lib.itoa (-n)) = s := ⟨_,rfl⟩
        rw [hsn] at ih1 hs E
        clear ih hk hsn
        go_enter Tryd.func70,Tryd.ntmps70
        go_wp2_with fail
        (with_reducible refine Calls.mono ih1.out ?_)
        rintro e w1 ⟨rfl,hB⟩
        go_wp2
        go_ret
        exact ⟨by rw [E.out]; rfl,hB⟩
      · obtain ⟨q,hq⟩ : ∃ q,n.tdiv 10 = q := ⟨_,rfl⟩
        obtain ⟨r,hr⟩ : ∃ r,n.tmod 10 = r := ⟨_,rfl⟩
        have q1 : q = -((-n) / 10) := by
          rw [← hq,show n = -(-n) by omega,Int.neg_tdiv,Int.tdiv_eq_ediv_of_nonneg (by omega),Int.neg_neg]
        have r1 : r = -((-n) % 10) := by
          rw [← hr,show n = -(-n) by omega,Int.neg_tmod,Int.tmod_eq_emod_of_nonneg (by omega),Int.neg_neg]
        have ih1 := Lib.hid (ih q w (by split at hk <;> split <;> omega) (by omega) (by omega))
        have ih2 := Lib.hid (fun w' => rtext_digit (n := -r) (by omega) (by omega) w')
        have hs1 : (bs (Lib.itoa q)).size ≤ 20 := bs_len_le (itoa_len (by omega) (by omega)).2
        have hs2 : (bs (Lib.itoa (-r))).size ≤ 20 := bs_len_le (itoa_len (by omega) (by omega)).2
        have E := Lib.hid (show bs (Lib.itoa n) = bs (Lib.itoa q) ++ bs (Lib.itoa (-r)) by rw [itoa_negmore (by omega),bs_append,q1,r1,Int.neg_neg])
        obtain ⟨s,hsn⟩ : ∃ s,bs (Lib.itoa q) = s := ⟨_,rfl⟩
        obtain ⟨s2,hsn2⟩ : ∃ s,bs (Lib.itoa (-r)) = s := ⟨_,rfl⟩
        rw [hsn] at ih1 hs1 E
        rw [hsn2] at hs2 E
        simp only [hsn2] at ih2
        have q2 : -922337203685477580 ≤ q := by omega
        have q3 : q ≤ -1 := by omega
        have r2 : -9 ≤ r := by omega
        have r3 : r ≤ 0 := by omega
        clear ih hk hsn hsn2 q1 r1
        go_enter Tryd.func70,Tryd.ntmps70
        go_wp2_with fail
        (with_reducible refine Calls.mono ih1.out ?_)
        rintro e w1 ⟨rfl,hB⟩
        go_wp2_with fail
        (with_reducible refine Calls.mono (ih2.out _) ?_)
        rintro e w2 ⟨rfl,hb⟩
        replace hB := hB.trans (hb.mono hB.size)
        go_wp2
        go_ret
        exact ⟨by rw [E.out]; rfl,hB⟩
    · by_cases h2 : n < 10
      · exact rtext_digit (by omega) (by omega) w
      · have ih1 := Lib.hid (fun w' => ih (n / 10) w' (by split at hk <;> split <;> omega) (by omega) (by omega))
        have hc := conv_one w (48 + n % 10)
        have hs1 : (bs (Lib.itoa (n / 10))).size ≤ 20 := bs_len_le (itoa_len (by omega) (by omega)).2
        have hs2 : (bs [UInt8.ofNat (48 + n % 10).toNat]).size ≤ 1 := bs_len_le (by simp)
        have E := Lib.hid (show bs (Lib.itoa n) = bs (Lib.itoa (n / 10)) ++ bs [UInt8.ofNat (48 + n % 10).toNat] by
          rw [itoa_more (by omega),bs_append,show (48 + n % 10).toNat = 48 + (n % 10).toNat by omega])
        obtain ⟨s,hsn⟩ : ∃ s,bs (Lib.itoa (n / 10)) = s := ⟨_,rfl⟩
        obtain ⟨s2,hsn2⟩ : ∃ s,bs [UInt8.ofNat (48 + n % 10).toNat] = s := ⟨_,rfl⟩
        rw [hsn] at hs1 E
        rw [hsn2] at hs2 E hc
        simp only [hsn] at ih1
        clear ih hk hsn hsn2
        go_enter Tryd.func70,Tryd.ntmps70
        go_wp2_with fail
        (with_reducible refine Calls.mono (ih1.out _) ?_)
        rintro e w1 ⟨rfl,hB⟩
        go_wp2
        go_ret
        exact ⟨by rw [E.out]; rfl,by (repeat (first | exact Below.refl _ _ | exact hB | refine Below.alloc ?_ (by first | omega | (simp; done) | (simp; omega)) _ | refine Below.setCell ?_ (by first | omega | (simp; done) | (simp; omega)) _ | refine Below.drew ?_ | refine Below.trans ?_ (hB.mono (by first | omega | (simp; done) | (simp; omega)))))⟩
theorem rtext_any {n : Int} (h0 : -9223372036854775808 ≤ n) (h1 : n ≤ 9223372036854775807) (w : World) :
    Calls Tryd.prog 70 #[.int .i64 n] w fun e w' => e = .returned (.string (bs (Lib.itoa n))) ∧ Below w.heap.size w w' := rtext_ind _ n w (Nat.le_refl _) h0 h1

theorem parseF_none_of {l : List UInt8} {high : Int} (h : dfold 0 l = none) : parseF l high = none := by
  cases hp : parseF l high with
  | none => rfl
  | some k => have := (parseF_some.1 hp).2.1; rw [h] at this; cases this
theorem parseF_high {l : List UInt8} {high n : Int} (h : dfold 0 l = some n) (hn : high < n) : parseF l high = none := by
  cases hp : parseF l high with
  | none => rfl
  | some k =>
    obtain ⟨_,h2,h3⟩ := parseF_some.1 hp
    rw [h] at h2
    simp only [Option.some.injEq] at h2
    omega
theorem parseF_text {l : List UInt8} {high n : Int} (h : dfold 0 l = some n) (hn : n ≤ high) : (Lib.itoa n = l ∧ parseF l high = some n) ∨ (Lib.itoa n ≠ l ∧ parseF l high = none) := by
  obtain ⟨k1,k2,k3⟩ := (dfold0 _ _).1 h
  by_cases hl : lead l = true
  · refine .inr ⟨?_,?_⟩
    · intro e
      have h2 := (decDigits_val n.toNat).2.2.2
      have e2 : Lib.itoa n = Lib.decDigits n.toNat := by unfold Lib.itoa; rw [if_neg (by omega)]
      rw [← e2,e,hl] at h2
      cases h2
    · unfold parseF
      rw [if_pos hl]
  · have hl' : lead l = false := by simpa using hl
    have hp : parseF l high = some n := parseF_some.2 ⟨hl',h,hn⟩
    exact .inl ⟨(itoa_parse hp).1,hp⟩

end Go.Proofs.YtggdomeeienjbaaDoor

/- The document's own answer for layer 4: which directives are right: the same as the program's. No condition. -/
namespace Go.Proofs.YtggdomeeienjbaaDoor
open Go.ChangeShapes Go.WideShapes Go.ChangeAt Go.RowKit Go.Sort
set_option linter.unusedSimpArgs false
set_option linter.unusedVariables false
set_option maxHeartbeats 4000000 in
set_option maxRecDepth 100000 in
theorem nocon_any (c : Co) (w : World) (b : Bool) (hb : decide (c = ⟨0,0,0,0,0,0⟩) = b) : Calls Tryd.prog 79 #[.agg #[.int .i64 c.id, .int .i64 c.fr, .int .i64 c.tn, .int .i64 c.st, .int .i64 c.en, .int .i64 c.rt]] w fun e w' => e = .returned (.bool b) ∧ Below w.heap.size w w' := by
  have hEQ : ∀ w0 : World,(binOp .eql 27 (.agg #[.int .i64 c.id, .int .i64 c.fr, .int .i64 c.tn, .int .i64 c.st, .int .i64 c.en, .int .i64 c.rt]) (.agg #[.int .i64 0, .int .i64 0, .int .i64 0, .int .i64 0, .int .i64 0, .int .i64 0])).run Tryd.prog w0 = .ok (.bool b) w0 := fun w0 => by have h := eqlCo c ⟨0,0,0,0,0,0⟩ w0; rw [hb] at h; exact h
  clear hb
  go_enter Tryd.func79,Tryd.ntmps79
  go_wp2_with fail
  go_ret
  exact ⟨rfl,by (repeat (first | exact Below.refl _ _ | refine Below.alloc ?_ (by first | omega | (simp; done) | (simp; omega)) _ | refine Below.setCell ?_ (by first | omega | (simp; done) | (simp; omega)) _ | refine Below.drew ?_))⟩
set_option maxHeartbeats 4000000 in
set_option maxRecDepth 100000 in
theorem norng_any (c : Rg) (w : World) (b : Bool) (hb : decide (c = ⟨0,0,0,0,0⟩) = b) : Calls Tryd.prog 76 #[.agg #[.int .i64 c.fr, .int .i64 c.tn, .int .i64 c.st, .int .i64 c.en, .int .i64 c.ow]] w fun e w' => e = .returned (.bool b) ∧ Below w.heap.size w w' := by
  have hEQ : ∀ w0 : World,(binOp .eql 29 (.agg #[.int .i64 c.fr, .int .i64 c.tn, .int .i64 c.st, .int .i64 c.en, .int .i64 c.ow]) (.agg #[.int .i64 0, .int .i64 0, .int .i64 0, .int .i64 0, .int .i64 0])).run Tryd.prog w0 = .ok (.bool b) w0 := fun w0 => by have h := eqlRg c ⟨0,0,0,0,0⟩ w0; rw [hb] at h; exact h
  clear hb
  go_enter Tryd.func76,Tryd.ntmps76
  go_wp2_with fail
  go_ret
  exact ⟨rfl,by (repeat (first | exact Below.refl _ _ | refine Below.alloc ?_ (by first | omega | (simp; done) | (simp; omega)) _ | refine Below.setCell ?_ (by first | omega | (simp; done) | (simp; omega)) _ | refine Below.drew ?_))⟩
set_option maxHeartbeats 4000000 in
set_option maxRecDepth 100000 in
theorem whole_any (id rt : Int) (w : World) : Calls Tryd.prog 78 #[.int .i64 id, .int .i64 rt] w fun e w' => e = .returned (.agg #[.int .i64 id, .int .i64 1, .int .i64 2, .int .i64 0, .int .i64 1, .int .i64 rt]) ∧ Below w.heap.size w w' := by
  go_enter Tryd.func78,Tryd.ntmps78
  go_wp2_with fail
  have hX := Blok.new w 27 #[.int .i64 0, .int .i64 0, .int .i64 0, .int .i64 0, .int .i64 0, .int .i64 0]
  have hF : Blok (((((((w.alloc (.cells #[.int .i64 0, .int .i64 0, .int .i64 0, .int .i64 0, .int .i64 0, .int .i64 0] 27)).setCell ⟨w.heap.size,0,none⟩ (.int .i64 id)).setCell ⟨w.heap.size,1,none⟩ (.int .i64 1)).setCell ⟨w.heap.size,2,none⟩ (.int .i64 2)).setCell ⟨w.heap.size,3,none⟩ (.int .i64 0)).setCell ⟨w.heap.size,4,none⟩ (.int .i64 1)).setCell ⟨w.heap.size,5,none⟩ (.int .i64 rt)) w.heap.size 27 #[.int .i64 id, .int .i64 1, .int .i64 2, .int .i64 0, .int .i64 1, .int .i64 rt] := by have h := ((((((hX.set_ 0 (.int .i64 id)).set_ 1 (.int .i64 1)).set_ 2 (.int .i64 2)).set_ 3 (.int .i64 0)).set_ 4 (.int .i64 1)).set_ 5 (.int .i64 rt)); simpa using h
  have hle0 : w.heap.size ≤ w.heap.size := by first | exact Nat.le_refl _ | omega
  have hWf : Below w.heap.size w (((((((w.alloc (.cells #[.int .i64 0, .int .i64 0, .int .i64 0, .int .i64 0, .int .i64 0, .int .i64 0] 27)).setCell ⟨w.heap.size,0,none⟩ (.int .i64 id)).setCell ⟨w.heap.size,1,none⟩ (.int .i64 1)).setCell ⟨w.heap.size,2,none⟩ (.int .i64 2)).setCell ⟨w.heap.size,3,none⟩ (.int .i64 0)).setCell ⟨w.heap.size,4,none⟩ (.int .i64 1)).setCell ⟨w.heap.size,5,none⟩ (.int .i64 rt)) := ((((((((Below.refl w.heap.size w).alloc (Nat.le_refl _) _).setCell (p := ⟨w.heap.size,0,none⟩) hle0 (.int .i64 id)).setCell (p := ⟨w.heap.size,1,none⟩) hle0 (.int .i64 1)).setCell (p := ⟨w.heap.size,2,none⟩) hle0 (.int .i64 2)).setCell (p := ⟨w.heap.size,3,none⟩) hle0 (.int .i64 0)).setCell (p := ⟨w.heap.size,4,none⟩) hle0 (.int .i64 1)).setCell (p := ⟨w.heap.size,5,none⟩) hle0 (.int .i64 rt))
  have hlF := hF.lt
  generalize (((((((w.alloc (.cells #[.int .i64 0, .int .i64 0, .int .i64 0, .int .i64 0, .int .i64 0, .int .i64 0] 27)).setCell ⟨w.heap.size,0,none⟩ (.int .i64 id)).setCell ⟨w.heap.size,1,none⟩ (.int .i64 1)).setCell ⟨w.heap.size,2,none⟩ (.int .i64 2)).setCell ⟨w.heap.size,3,none⟩ (.int .i64 0)).setCell ⟨w.heap.size,4,none⟩ (.int .i64 1)).setCell ⟨w.heap.size,5,none⟩ (.int .i64 rt)) = wf at *
  have r0 : wf.cell? ⟨w.heap.size,0,none⟩ = some (.int .i64 id) := hF.cell 0
  have r1 : wf.cell? ⟨w.heap.size,1,none⟩ = some (.int .i64 1) := hF.cell 1
  have r2 : wf.cell? ⟨w.heap.size,2,none⟩ = some (.int .i64 2) := hF.cell 2
  have r3 : wf.cell? ⟨w.heap.size,3,none⟩ = some (.int .i64 0) := hF.cell 3
  have r4 : wf.cell? ⟨w.heap.size,4,none⟩ = some (.int .i64 1) := hF.cell 4
  have r5 : wf.cell? ⟨w.heap.size,5,none⟩ = some (.int .i64 rt) := hF.cell 5
  refine bodyPost_ret (v := .agg #[.int .i64 id, .int .i64 1, .int .i64 2, .int .i64 0, .int .i64 1, .int .i64 rt]) (by simp [results,Tryd.results78,go_sem,r0,r1,r2,r3,r4,r5,hlF]) rfl ?_
  exact ⟨rfl,by (repeat (first | exact Below.refl _ _ | refine Below.alloc ?_ (by first | omega | (simp; done) | (simp; omega)) _ | refine Below.setCell ?_ (by first | omega | (simp; done) | (simp; omega)) _ | refine Below.drew ?_))⟩
theorem right_1 {op id fr tn st en rt rf rn rs re ro : Int} (b : Bool) (h : rightD ⟨op,1,id,fr,tn,st,en,rt,rf,rn,rs,re,ro⟩ = b) :
    (¬ ((⟨rf,rn,rs,re,ro⟩ : Rg) = ⟨0,0,0,0,0⟩) → b = false) ∧ ((⟨rf,rn,rs,re,ro⟩ : Rg) = ⟨0,0,0,0,0⟩ →
      (op = 1 → contactB id fr tn st en rt = b) ∧
      (op = 2 → if (⟨id,fr,tn,st,en,rt⟩ : Co) = ⟨id,0,0,0,0,0⟩ then contactB id 1 2 0 1 1 = b else b = false) ∧
      (op = 3 → if (⟨id,fr,tn,st,en,rt⟩ : Co) = ⟨id,0,0,0,0,rt⟩ then contactB id 1 2 0 1 rt = b else b = false) ∧
      (op ≠ 1 → op ≠ 2 → op ≠ 3 → b = false)) := by
  subst h
  by_cases h1 : op = 1
  · subst h1
    have e : rightD ⟨1,1,id,fr,tn,st,en,rt,rf,rn,rs,re,ro⟩ = (contactB id fr tn st en rt && decide ((⟨rf,rn,rs,re,ro⟩ : Rg) = ⟨0,0,0,0,0⟩)) := by
      show (true && (contactB id fr tn st en rt && decide ((⟨1,1,id,fr,tn,st,en,rt,rf,rn,rs,re,ro⟩ : Dr) = ⟨1,1,id,fr,tn,st,en,rt,0,0,0,0,0⟩))) = _
      rw [Bool.true_and]
      congr 1
      rw [Bool.eq_iff_iff,decide_eq_true_eq,decide_eq_true_eq]
      simp only [Dr.mk.injEq,Rg.mk.injEq,true_and]
    rw [e]
    refine ⟨fun h => by simp [h],fun h => ⟨fun _ => by simp [h],fun h => by omega,fun h => by omega,fun h => by omega⟩⟩
  by_cases h2 : op = 2
  · subst h2
    have e : rightD ⟨2,1,id,fr,tn,st,en,rt,rf,rn,rs,re,ro⟩ = (inB id 1 1048576 && decide ((⟨id,fr,tn,st,en,rt⟩ : Co) = ⟨id,0,0,0,0,0⟩ ∧ (⟨rf,rn,rs,re,ro⟩ : Rg) = ⟨0,0,0,0,0⟩)) := by
      show (true && (inB id 1 1048576 && decide ((⟨2,1,id,fr,tn,st,en,rt,rf,rn,rs,re,ro⟩ : Dr) = ⟨2,1,id,0,0,0,0,0,0,0,0,0,0⟩))) = _
      rw [Bool.true_and]
      congr 1
      rw [Bool.eq_iff_iff,decide_eq_true_eq,decide_eq_true_eq]
      simp only [Dr.mk.injEq,Rg.mk.injEq,Co.mk.injEq,true_and,and_assoc]
    have ec : contactB id 1 2 0 1 1 = inB id 1 1048576 := by rw [Bool.eq_iff_iff,contactB_spec,inB_spec]; omega
    rw [e]
    refine ⟨fun h => by simp [h],fun h => ⟨fun h => by omega,fun _ => ?_,fun h => by omega,fun _ h => by omega⟩⟩
    split
    · rename_i hc; rw [ec]; simp [hc,h]
    · rename_i hc; simp [hc]
  by_cases h3 : op = 3
  · subst h3
    have e : rightD ⟨3,1,id,fr,tn,st,en,rt,rf,rn,rs,re,ro⟩ = ((inB id 1 1048576 && inB rt 1 2147483647) && decide ((⟨id,fr,tn,st,en,rt⟩ : Co) = ⟨id,0,0,0,0,rt⟩ ∧ (⟨rf,rn,rs,re,ro⟩ : Rg) = ⟨0,0,0,0,0⟩)) := by
      show (true && ((inB id 1 1048576 && inB rt 1 2147483647) && decide ((⟨3,1,id,fr,tn,st,en,rt,rf,rn,rs,re,ro⟩ : Dr) = ⟨3,1,id,0,0,0,0,rt,0,0,0,0,0⟩))) = _
      rw [Bool.true_and]
      congr 1
      rw [Bool.eq_iff_iff,decide_eq_true_eq,decide_eq_true_eq]
      simp only [Dr.mk.injEq,Rg.mk.injEq,Co.mk.injEq,true_and,and_assoc]
    have ec : contactB id 1 2 0 1 rt = (inB id 1 1048576 && inB rt 1 2147483647) := by rw [Bool.eq_iff_iff,contactB_spec,Bool.and_eq_true,inB_spec,inB_spec]; omega
    rw [e]
    refine ⟨fun h => by simp [h],fun h => ⟨fun h => by omega,fun h => by omega,fun _ => ?_,fun _ _ h => by omega⟩⟩
    split
    · rename_i hc; rw [ec]; simp [hc,h]
    · rename_i hc; simp [hc]
  have e : rightD ⟨op,1,id,fr,tn,st,en,rt,rf,rn,rs,re,ro⟩ = false := by
    unfold rightD knownD formV
    simp [h1,h2,h3]
  rw [e]
  refine ⟨fun _ => rfl,fun _ => ⟨fun h => by omega,fun h => by omega,fun h => by omega,fun _ _ _ => rfl⟩⟩
theorem right_2 {op id fr tn st en rt rf rn rs re ro : Int} (b : Bool) (h : rightD ⟨op,2,id,fr,tn,st,en,rt,rf,rn,rs,re,ro⟩ = b) :
    (¬ ((⟨id,fr,tn,st,en,rt⟩ : Co) = ⟨0,0,0,0,0,0⟩) → b = false) ∧ ((⟨id,fr,tn,st,en,rt⟩ : Co) = ⟨0,0,0,0,0,0⟩ →
      (op = 1 → rangeB rf rn rs re ro = b) ∧
      (op = 2 → if (⟨rf,rn,rs,re,ro⟩ : Rg) = ⟨rf,rn,rs,0,0⟩ then rangeB rf rn rs 2147483647 ro = b else b = false) ∧
      (op = 3 → if re = 0 then rangeB rf rn rs 2147483647 ro = b else b = false) ∧
      (op ≠ 1 → op ≠ 2 → op ≠ 3 → b = false)) := by
  subst h
  by_cases h1 : op = 1
  · subst h1
    have e : rightD ⟨1,2,id,fr,tn,st,en,rt,rf,rn,rs,re,ro⟩ = (rangeB rf rn rs re ro && decide ((⟨id,fr,tn,st,en,rt⟩ : Co) = ⟨0,0,0,0,0,0⟩)) := by
      show (true && (rangeB rf rn rs re ro && decide ((⟨1,2,id,fr,tn,st,en,rt,rf,rn,rs,re,ro⟩ : Dr) = ⟨1,2,0,0,0,0,0,0,rf,rn,rs,re,ro⟩))) = _
      rw [Bool.true_and]
      congr 1
      rw [Bool.eq_iff_iff,decide_eq_true_eq,decide_eq_true_eq]
      simp only [Dr.mk.injEq,Co.mk.injEq,true_and,and_true]
    rw [e]
    refine ⟨fun h => by simp [h],fun h => ⟨fun _ => by simp [h],fun h => by omega,fun h => by omega,fun h => by omega⟩⟩
  by_cases h2 : op = 2
  · subst h2
    have e : rightD ⟨2,2,id,fr,tn,st,en,rt,rf,rn,rs,re,ro⟩ = (beginB rf rn rs && decide ((⟨id,fr,tn,st,en,rt⟩ : Co) = ⟨0,0,0,0,0,0⟩ ∧ (⟨rf,rn,rs,re,ro⟩ : Rg) = ⟨rf,rn,rs,0,0⟩)) := by
      show (true && (beginB rf rn rs && decide ((⟨2,2,id,fr,tn,st,en,rt,rf,rn,rs,re,ro⟩ : Dr) = ⟨2,2,0,0,0,0,0,0,rf,rn,rs,0,0⟩))) = _
      rw [Bool.true_and]
      congr 1
      rw [Bool.eq_iff_iff,decide_eq_true_eq,decide_eq_true_eq]
      simp only [Dr.mk.injEq,Rg.mk.injEq,Co.mk.injEq,true_and,and_true,and_assoc]
    rw [e]
    refine ⟨fun h => by simp [h],fun h => ⟨fun h => by omega,fun _ => ?_,fun h => by omega,fun _ h => by omega⟩⟩
    split
    · rename_i hc
      have ho : ro = 0 := by injection hc
      have ec : rangeB rf rn rs 2147483647 ro = beginB rf rn rs := by
        subst ho
        rw [Bool.eq_iff_iff,rangeB_spec]; unfold beginB; simp only [Bool.and_eq_true,nodeB_spec,inB_spec,bne_iff_ne]; omega
      rw [ec]; simp [hc,h]
    · rename_i hc; simp [hc]
  by_cases h3 : op = 3
  · subst h3
    have e : rightD ⟨3,2,id,fr,tn,st,en,rt,rf,rn,rs,re,ro⟩ = ((beginB rf rn rs && inB ro 0 2147483647) && decide ((⟨id,fr,tn,st,en,rt⟩ : Co) = ⟨0,0,0,0,0,0⟩ ∧ re = 0)) := by
      show (true && ((beginB rf rn rs && inB ro 0 2147483647) && decide ((⟨3,2,id,fr,tn,st,en,rt,rf,rn,rs,re,ro⟩ : Dr) = ⟨3,2,0,0,0,0,0,0,rf,rn,rs,0,ro⟩))) = _
      rw [Bool.true_and]
      congr 1
      rw [Bool.eq_iff_iff,decide_eq_true_eq,decide_eq_true_eq]
      simp only [Dr.mk.injEq,Co.mk.injEq,true_and,and_true,and_assoc]
    have ec : rangeB rf rn rs 2147483647 ro = (beginB rf rn rs && inB ro 0 2147483647) := by
      rw [Bool.eq_iff_iff,rangeB_spec]; unfold beginB; simp only [Bool.and_eq_true,nodeB_spec,inB_spec,bne_iff_ne]; omega
    rw [e]
    refine ⟨fun h => by simp [h],fun h => ⟨fun h => by omega,fun h => by omega,fun _ => ?_,fun _ _ h => by omega⟩⟩
    split
    · rename_i hc; rw [ec]; simp [hc,h]
    · rename_i hc; simp [hc]
  have e : rightD ⟨op,2,id,fr,tn,st,en,rt,rf,rn,rs,re,ro⟩ = false := by
    unfold rightD knownD formV
    simp [h1,h2,h3]
  rw [e]
  refine ⟨fun _ => rfl,fun _ => ⟨fun h => by omega,fun h => by omega,fun h => by omega,fun _ _ _ => rfl⟩⟩
theorem right_0 {op kd id fr tn st en rt rf rn rs re ro : Int} (h1 : kd ≠ 1) (h2 : kd ≠ 2) (b : Bool) (h : rightD ⟨op,kd,id,fr,tn,st,en,rt,rf,rn,rs,re,ro⟩ = b) : b = false := by
  subst h
  unfold rightD knownD formV
  simp [h1,h2]
theorem rrange_is {fr tn st en ow : Int} (b : Bool) (h : rangeB fr tn st en ow = b) (w : World) :
    Calls Tryd.prog 80 #[.agg #[.int .i64 fr, .int .i64 tn, .int .i64 st, .int .i64 en, .int .i64 ow]] w fun e w' => e = .returned (.bool b) ∧ Below w.heap.size w w' := h ▸ rrange_any fr tn st en ow w
set_option maxHeartbeats 8000000 in
set_option maxRecDepth 100000 in
theorem rr04_1 (op id fr tn st en rt rf rn rs re ro : Int) (b : Bool) (hb : rightD ⟨op,1,id,fr,tn,st,en,rt,rf,rn,rs,re,ro⟩ = b) (w : World) : Calls Tryd.prog 67 #[.agg #[.int .i64 op, .int .i64 1, .int .i64 id, .int .i64 fr, .int .i64 tn, .int .i64 st, .int .i64 en, .int .i64 rt, .int .i64 rf, .int .i64 rn, .int .i64 rs, .int .i64 re, .int .i64 ro]] w fun e w' => e = .returned (.bool b) ∧ Below w.heap.size w w' := by
  obtain ⟨hN,hY⟩ := right_1 b hb
  clear hb
  go_enter Tryd.func67,Tryd.ntmps67
  go_upto_region 1 with fail
  have hX := Blok.new w 31 #[.int .i64 op, .int .i64 1, .int .i64 id, .int .i64 fr, .int .i64 tn, .int .i64 st, .int .i64 en, .int .i64 rt, .int .i64 rf, .int .i64 rn, .int .i64 rs, .int .i64 re, .int .i64 ro]
  have hB : Below w.heap.size w (w.alloc (.cells #[.int .i64 op, .int .i64 1, .int .i64 id, .int .i64 fr, .int .i64 tn, .int .i64 st, .int .i64 en, .int .i64 rt, .int .i64 rf, .int .i64 rn, .int .i64 rs, .int .i64 re, .int .i64 ro] 31)) := by (repeat (first | exact Below.refl _ _ | refine Below.alloc ?_ (by first | omega | (simp; done) | (simp; omega)) _ | refine Below.setCell ?_ (by first | omega | (simp; done) | (simp; omega)) _ | refine Below.drew ?_))
  have hs := hB.size
  generalize w.alloc (.cells #[.int .i64 op, .int .i64 1, .int .i64 id, .int .i64 fr, .int .i64 tn, .int .i64 st, .int .i64 en, .int .i64 rt, .int .i64 rf, .int .i64 rn, .int .i64 rs, .int .i64 re, .int .i64 ro] 31) = w0 at *
  have y0 : w0.cell? ⟨w.heap.size,0,none⟩ = some (.int .i64 op) := hX.cell 0
  have y1 : w0.cell? ⟨w.heap.size,1,none⟩ = some (.int .i64 1) := hX.cell 1
  have y2 : w0.cell? ⟨w.heap.size,2,none⟩ = some (.int .i64 id) := hX.cell 2
  have y3 : w0.cell? ⟨w.heap.size,3,none⟩ = some (.int .i64 fr) := hX.cell 3
  have y4 : w0.cell? ⟨w.heap.size,4,none⟩ = some (.int .i64 tn) := hX.cell 4
  have y5 : w0.cell? ⟨w.heap.size,5,none⟩ = some (.int .i64 st) := hX.cell 5
  have y6 : w0.cell? ⟨w.heap.size,6,none⟩ = some (.int .i64 en) := hX.cell 6
  have y7 : w0.cell? ⟨w.heap.size,7,none⟩ = some (.int .i64 rt) := hX.cell 7
  have y8 : w0.cell? ⟨w.heap.size,8,none⟩ = some (.int .i64 rf) := hX.cell 8
  have y9 : w0.cell? ⟨w.heap.size,9,none⟩ = some (.int .i64 rn) := hX.cell 9
  have y10 : w0.cell? ⟨w.heap.size,10,none⟩ = some (.int .i64 rs) := hX.cell 10
  have y11 : w0.cell? ⟨w.heap.size,11,none⟩ = some (.int .i64 re) := hX.cell 11
  have y12 : w0.cell? ⟨w.heap.size,12,none⟩ = some (.int .i64 ro) := hX.cell 12
  have lt_y := hX.lt
  go_wp2_with fail
  clear y0 y1 y2 y3 y4 y5 y6 y7 y8 y9 y10 y11 y12 lt_y
  by_cases hr : (⟨rf,rn,rs,re,ro⟩ : Rg) = ⟨0,0,0,0,0⟩
  · obtain ⟨k1,k2,k3,k4⟩ := hY hr
    have HR := Lib.hid (decide_eq_true hr)
    injection hr with r0 r1 r2 r3 r4
    subst r0 r1 r2 r3 r4
    clear hN hY
    refine (norng_any ⟨0,0,0,0,0⟩ w0 true HR.out).mono ?_
    rintro e w1 ⟨rfl,hb⟩
    replace hX := hX.below hb hX.lt
    replace hB := hB.trans (hb.mono hs)
    replace hs := hB.size
    clear hb
    by_cases h1 : op = 1
    · subst h1
      have HC := Lib.hid (k1 rfl)
      clear k1 k2 k3 k4 HR
      have y0 : w1.cell? ⟨w.heap.size,0,none⟩ = some (.int .i64 1) := hX.cell 0
      have y1 : w1.cell? ⟨w.heap.size,1,none⟩ = some (.int .i64 1) := hX.cell 1
      have y2 : w1.cell? ⟨w.heap.size,2,none⟩ = some (.int .i64 id) := hX.cell 2
      have y3 : w1.cell? ⟨w.heap.size,3,none⟩ = some (.int .i64 fr) := hX.cell 3
      have y4 : w1.cell? ⟨w.heap.size,4,none⟩ = some (.int .i64 tn) := hX.cell 4
      have y5 : w1.cell? ⟨w.heap.size,5,none⟩ = some (.int .i64 st) := hX.cell 5
      have y6 : w1.cell? ⟨w.heap.size,6,none⟩ = some (.int .i64 en) := hX.cell 6
      have y7 : w1.cell? ⟨w.heap.size,7,none⟩ = some (.int .i64 rt) := hX.cell 7
      have y8 : w1.cell? ⟨w.heap.size,8,none⟩ = some (.int .i64 0) := hX.cell 8
      have y9 : w1.cell? ⟨w.heap.size,9,none⟩ = some (.int .i64 0) := hX.cell 9
      have y10 : w1.cell? ⟨w.heap.size,10,none⟩ = some (.int .i64 0) := hX.cell 10
      have y11 : w1.cell? ⟨w.heap.size,11,none⟩ = some (.int .i64 0) := hX.cell 11
      have y12 : w1.cell? ⟨w.heap.size,12,none⟩ = some (.int .i64 0) := hX.cell 12
      have lt_y := hX.lt
      go_wp2_with fail
      clear y0 y1 y2 y3 y4 y5 y6 y7 y8 y9 y10 y11 y12 lt_y
      refine (rcontact_is b HC.out w1).mono ?_
      rintro e w2 ⟨rfl,hb⟩
      replace hB := hB.trans (hb.mono hs)
      replace hs := hB.size
      clear hb
      clear hX HC
      go_wp2_with fail
      go_ret
      exact ⟨rfl,by (repeat (first | exact Below.refl _ _ | exact hB | refine Below.alloc ?_ (by first | omega | (simp; done) | (simp; omega)) _ | refine Below.setCell ?_ (by first | omega | (simp; done) | (simp; omega)) _ | refine Below.drew ?_ | refine Below.trans ?_ (hB.mono (by first | omega | (simp; done) | (simp; omega)))))⟩
    by_cases h2 : op = 2
    · subst h2
      have hk := k2 rfl
      clear k1 k2 k3 k4 HR h1
      by_cases hc : (⟨id,fr,tn,st,en,rt⟩ : Co) = ⟨id,0,0,0,0,0⟩
      · rw [if_pos hc] at hk
        have HC := Lib.hid hk
        have hEQ : ∀ w0 : World,(binOp .eql 27 (.agg #[.int .i64 id, .int .i64 fr, .int .i64 tn, .int .i64 st, .int .i64 en, .int .i64 rt]) (.agg #[.int .i64 id, .int .i64 0, .int .i64 0, .int .i64 0, .int .i64 0, .int .i64 0])).run Tryd.prog w0 = .ok (.bool true) w0 := fun w0 => by have h := eqlCo ⟨id,fr,tn,st,en,rt⟩ ⟨id,0,0,0,0,0⟩ w0; rw [decide_eq_true hc] at h; exact h
        clear hk hc
        have y0 : w1.cell? ⟨w.heap.size,0,none⟩ = some (.int .i64 2) := hX.cell 0
        have y1 : w1.cell? ⟨w.heap.size,1,none⟩ = some (.int .i64 1) := hX.cell 1
        have y2 : w1.cell? ⟨w.heap.size,2,none⟩ = some (.int .i64 id) := hX.cell 2
        have y3 : w1.cell? ⟨w.heap.size,3,none⟩ = some (.int .i64 fr) := hX.cell 3
        have y4 : w1.cell? ⟨w.heap.size,4,none⟩ = some (.int .i64 tn) := hX.cell 4
        have y5 : w1.cell? ⟨w.heap.size,5,none⟩ = some (.int .i64 st) := hX.cell 5
        have y6 : w1.cell? ⟨w.heap.size,6,none⟩ = some (.int .i64 en) := hX.cell 6
        have y7 : w1.cell? ⟨w.heap.size,7,none⟩ = some (.int .i64 rt) := hX.cell 7
        have y8 : w1.cell? ⟨w.heap.size,8,none⟩ = some (.int .i64 0) := hX.cell 8
        have y9 : w1.cell? ⟨w.heap.size,9,none⟩ = some (.int .i64 0) := hX.cell 9
        have y10 : w1.cell? ⟨w.heap.size,10,none⟩ = some (.int .i64 0) := hX.cell 10
        have y11 : w1.cell? ⟨w.heap.size,11,none⟩ = some (.int .i64 0) := hX.cell 11
        have y12 : w1.cell? ⟨w.heap.size,12,none⟩ = some (.int .i64 0) := hX.cell 12
        have lt_y := hX.lt
        go_wp2_with fail
        clear y0 y1 y2 y3 y4 y5 y6 y7 y8 y9 y10 y11 y12 lt_y
        refine (whole_any id 1 w1).mono ?_
        rintro e w2 ⟨rfl,hb⟩
        replace hX := hX.below hb hX.lt
        replace hB := hB.trans (hb.mono hs)
        replace hs := hB.size
        clear hb
        clear hEQ
        go_wp2_with fail
        refine (rcontact_is b HC.out w2).mono ?_
        rintro e w3 ⟨rfl,hb⟩
        replace hB := hB.trans (hb.mono hs)
        replace hs := hB.size
        clear hb
        clear hX HC
        go_wp2_with fail
        go_ret
        exact ⟨rfl,by (repeat (first | exact Below.refl _ _ | exact hB | refine Below.alloc ?_ (by first | omega | (simp; done) | (simp; omega)) _ | refine Below.setCell ?_ (by first | omega | (simp; done) | (simp; omega)) _ | refine Below.drew ?_ | refine Below.trans ?_ (hB.mono (by first | omega | (simp; done) | (simp; omega)))))⟩
      · rw [if_neg hc] at hk
        subst hk
        have hEQ : ∀ w0 : World,(binOp .eql 27 (.agg #[.int .i64 id, .int .i64 fr, .int .i64 tn, .int .i64 st, .int .i64 en, .int .i64 rt]) (.agg #[.int .i64 id, .int .i64 0, .int .i64 0, .int .i64 0, .int .i64 0, .int .i64 0])).run Tryd.prog w0 = .ok (.bool false) w0 := fun w0 => by have h := eqlCo ⟨id,fr,tn,st,en,rt⟩ ⟨id,0,0,0,0,0⟩ w0; rw [decide_eq_false hc] at h; exact h
        clear hc
        have y0 : w1.cell? ⟨w.heap.size,0,none⟩ = some (.int .i64 2) := hX.cell 0
        have y1 : w1.cell? ⟨w.heap.size,1,none⟩ = some (.int .i64 1) := hX.cell 1
        have y2 : w1.cell? ⟨w.heap.size,2,none⟩ = some (.int .i64 id) := hX.cell 2
        have y3 : w1.cell? ⟨w.heap.size,3,none⟩ = some (.int .i64 fr) := hX.cell 3
        have y4 : w1.cell? ⟨w.heap.size,4,none⟩ = some (.int .i64 tn) := hX.cell 4
        have y5 : w1.cell? ⟨w.heap.size,5,none⟩ = some (.int .i64 st) := hX.cell 5
        have y6 : w1.cell? ⟨w.heap.size,6,none⟩ = some (.int .i64 en) := hX.cell 6
        have y7 : w1.cell? ⟨w.heap.size,7,none⟩ = some (.int .i64 rt) := hX.cell 7
        have y8 : w1.cell? ⟨w.heap.size,8,none⟩ = some (.int .i64 0) := hX.cell 8
        have y9 : w1.cell? ⟨w.heap.size,9,none⟩ = some (.int .i64 0) := hX.cell 9
        have y10 : w1.cell? ⟨w.heap.size,10,none⟩ = some (.int .i64 0) := hX.cell 10
        have y11 : w1.cell? ⟨w.heap.size,11,none⟩ = some (.int .i64 0) := hX.cell 11
        have y12 : w1.cell? ⟨w.heap.size,12,none⟩ = some (.int .i64 0) := hX.cell 12
        have lt_y := hX.lt
        clear hX
        go_wp2_with fail
        go_ret
        exact ⟨rfl,by (repeat (first | exact Below.refl _ _ | exact hB | refine Below.alloc ?_ (by first | omega | (simp; done) | (simp; omega)) _ | refine Below.setCell ?_ (by first | omega | (simp; done) | (simp; omega)) _ | refine Below.drew ?_ | refine Below.trans ?_ (hB.mono (by first | omega | (simp; done) | (simp; omega)))))⟩
    by_cases h3 : op = 3
    · subst h3
      have hk := k3 rfl
      clear k1 k2 k3 k4 HR h1
      by_cases hc : (⟨id,fr,tn,st,en,rt⟩ : Co) = ⟨id,0,0,0,0,rt⟩
      · rw [if_pos hc] at hk
        have HC := Lib.hid hk
        have hEQ : ∀ w0 : World,(binOp .eql 27 (.agg #[.int .i64 id, .int .i64 fr, .int .i64 tn, .int .i64 st, .int .i64 en, .int .i64 rt]) (.agg #[.int .i64 id, .int .i64 0, .int .i64 0, .int .i64 0, .int .i64 0, .int .i64 rt])).run Tryd.prog w0 = .ok (.bool true) w0 := fun w0 => by have h := eqlCo ⟨id,fr,tn,st,en,rt⟩ ⟨id,0,0,0,0,rt⟩ w0; rw [decide_eq_true hc] at h; exact h
        clear hk hc
        have y0 : w1.cell? ⟨w.heap.size,0,none⟩ = some (.int .i64 3) := hX.cell 0
        have y1 : w1.cell? ⟨w.heap.size,1,none⟩ = some (.int .i64 1) := hX.cell 1
        have y2 : w1.cell? ⟨w.heap.size,2,none⟩ = some (.int .i64 id) := hX.cell 2
        have y3 : w1.cell? ⟨w.heap.size,3,none⟩ = some (.int .i64 fr) := hX.cell 3
        have y4 : w1.cell? ⟨w.heap.size,4,none⟩ = some (.int .i64 tn) := hX.cell 4
        have y5 : w1.cell? ⟨w.heap.size,5,none⟩ = some (.int .i64 st) := hX.cell 5
        have y6 : w1.cell? ⟨w.heap.size,6,none⟩ = some (.int .i64 en) := hX.cell 6
        have y7 : w1.cell? ⟨w.heap.size,7,none⟩ = some (.int .i64 rt) := hX.cell 7
        have y8 : w1.cell? ⟨w.heap.size,8,none⟩ = some (.int .i64 0) := hX.cell 8
        have y9 : w1.cell? ⟨w.heap.size,9,none⟩ = some (.int .i64 0) := hX.cell 9
        have y10 : w1.cell? ⟨w.heap.size,10,none⟩ = some (.int .i64 0) := hX.cell 10
        have y11 : w1.cell? ⟨w.heap.size,11,none⟩ = some (.int .i64 0) := hX.cell 11
        have y12 : w1.cell? ⟨w.heap.size,12,none⟩ = some (.int .i64 0) := hX.cell 12
        have lt_y := hX.lt
        go_wp2_with fail
        clear y0 y1 y2 y3 y4 y5 y6 y7 y8 y9 y10 y11 y12 lt_y
        refine (whole_any id rt w1).mono ?_
        rintro e w2 ⟨rfl,hb⟩
        replace hX := hX.below hb hX.lt
        replace hB := hB.trans (hb.mono hs)
        replace hs := hB.size
        clear hb
        clear hEQ
        go_wp2_with fail
        refine (rcontact_is b HC.out w2).mono ?_
        rintro e w3 ⟨rfl,hb⟩
        replace hB := hB.trans (hb.mono hs)
        replace hs := hB.size
        clear hb
        clear hX HC
        go_wp2_with fail
        go_ret
        exact ⟨rfl,by (repeat (first | exact Below.refl _ _ | exact hB | refine Below.alloc ?_ (by first | omega | (simp; done) | (simp; omega)) _ | refine Below.setCell ?_ (by first | omega | (simp; done) | (simp; omega)) _ | refine Below.drew ?_ | refine Below.trans ?_ (hB.mono (by first | omega | (simp; done) | (simp; omega)))))⟩
      · rw [if_neg hc] at hk
        subst hk
        have hEQ : ∀ w0 : World,(binOp .eql 27 (.agg #[.int .i64 id, .int .i64 fr, .int .i64 tn, .int .i64 st, .int .i64 en, .int .i64 rt]) (.agg #[.int .i64 id, .int .i64 0, .int .i64 0, .int .i64 0, .int .i64 0, .int .i64 rt])).run Tryd.prog w0 = .ok (.bool false) w0 := fun w0 => by have h := eqlCo ⟨id,fr,tn,st,en,rt⟩ ⟨id,0,0,0,0,rt⟩ w0; rw [decide_eq_false hc] at h; exact h
        clear hc
        have y0 : w1.cell? ⟨w.heap.size,0,none⟩ = some (.int .i64 3) := hX.cell 0
        have y1 : w1.cell? ⟨w.heap.size,1,none⟩ = some (.int .i64 1) := hX.cell 1
        have y2 : w1.cell? ⟨w.heap.size,2,none⟩ = some (.int .i64 id) := hX.cell 2
        have y3 : w1.cell? ⟨w.heap.size,3,none⟩ = some (.int .i64 fr) := hX.cell 3
        have y4 : w1.cell? ⟨w.heap.size,4,none⟩ = some (.int .i64 tn) := hX.cell 4
        have y5 : w1.cell? ⟨w.heap.size,5,none⟩ = some (.int .i64 st) := hX.cell 5
        have y6 : w1.cell? ⟨w.heap.size,6,none⟩ = some (.int .i64 en) := hX.cell 6
        have y7 : w1.cell? ⟨w.heap.size,7,none⟩ = some (.int .i64 rt) := hX.cell 7
        have y8 : w1.cell? ⟨w.heap.size,8,none⟩ = some (.int .i64 0) := hX.cell 8
        have y9 : w1.cell? ⟨w.heap.size,9,none⟩ = some (.int .i64 0) := hX.cell 9
        have y10 : w1.cell? ⟨w.heap.size,10,none⟩ = some (.int .i64 0) := hX.cell 10
        have y11 : w1.cell? ⟨w.heap.size,11,none⟩ = some (.int .i64 0) := hX.cell 11
        have y12 : w1.cell? ⟨w.heap.size,12,none⟩ = some (.int .i64 0) := hX.cell 12
        have lt_y := hX.lt
        clear hX
        go_wp2_with fail
        go_ret
        exact ⟨rfl,by (repeat (first | exact Below.refl _ _ | exact hB | refine Below.alloc ?_ (by first | omega | (simp; done) | (simp; omega)) _ | refine Below.setCell ?_ (by first | omega | (simp; done) | (simp; omega)) _ | refine Below.drew ?_ | refine Below.trans ?_ (hB.mono (by first | omega | (simp; done) | (simp; omega)))))⟩
    have hf := k4 h1 h2 h3
    subst hf
    clear k1 k2 k3 k4 HR
    have g1 : (op == 1) = false := by simpa using h1
    have g2 : (op == 2) = false := by simpa using h2
    have g3 : (op == 3) = false := by simpa using h3
    have y0 : w1.cell? ⟨w.heap.size,0,none⟩ = some (.int .i64 op) := hX.cell 0
    have y1 : w1.cell? ⟨w.heap.size,1,none⟩ = some (.int .i64 1) := hX.cell 1
    have y2 : w1.cell? ⟨w.heap.size,2,none⟩ = some (.int .i64 id) := hX.cell 2
    have y3 : w1.cell? ⟨w.heap.size,3,none⟩ = some (.int .i64 fr) := hX.cell 3
    have y4 : w1.cell? ⟨w.heap.size,4,none⟩ = some (.int .i64 tn) := hX.cell 4
    have y5 : w1.cell? ⟨w.heap.size,5,none⟩ = some (.int .i64 st) := hX.cell 5
    have y6 : w1.cell? ⟨w.heap.size,6,none⟩ = some (.int .i64 en) := hX.cell 6
    have y7 : w1.cell? ⟨w.heap.size,7,none⟩ = some (.int .i64 rt) := hX.cell 7
    have y8 : w1.cell? ⟨w.heap.size,8,none⟩ = some (.int .i64 0) := hX.cell 8
    have y9 : w1.cell? ⟨w.heap.size,9,none⟩ = some (.int .i64 0) := hX.cell 9
    have y10 : w1.cell? ⟨w.heap.size,10,none⟩ = some (.int .i64 0) := hX.cell 10
    have y11 : w1.cell? ⟨w.heap.size,11,none⟩ = some (.int .i64 0) := hX.cell 11
    have y12 : w1.cell? ⟨w.heap.size,12,none⟩ = some (.int .i64 0) := hX.cell 12
    have lt_y := hX.lt
    clear hX
    go_wp2_with fail
    go_ret
    exact ⟨rfl,by (repeat (first | exact Below.refl _ _ | exact hB | refine Below.alloc ?_ (by first | omega | (simp; done) | (simp; omega)) _ | refine Below.setCell ?_ (by first | omega | (simp; done) | (simp; omega)) _ | refine Below.drew ?_ | refine Below.trans ?_ (hB.mono (by first | omega | (simp; done) | (simp; omega)))))⟩
  · have hf := hN hr
    subst hf
    have HR := Lib.hid (decide_eq_false hr)
    clear hN hY hr
    refine (norng_any ⟨rf,rn,rs,re,ro⟩ w0 false HR.out).mono ?_
    rintro e w1 ⟨rfl,hb⟩
    replace hX := hX.below hb hX.lt
    replace hB := hB.trans (hb.mono hs)
    replace hs := hB.size
    clear hb
    have y0 : w1.cell? ⟨w.heap.size,0,none⟩ = some (.int .i64 op) := hX.cell 0
    have y1 : w1.cell? ⟨w.heap.size,1,none⟩ = some (.int .i64 1) := hX.cell 1
    have y2 : w1.cell? ⟨w.heap.size,2,none⟩ = some (.int .i64 id) := hX.cell 2
    have y3 : w1.cell? ⟨w.heap.size,3,none⟩ = some (.int .i64 fr) := hX.cell 3
    have y4 : w1.cell? ⟨w.heap.size,4,none⟩ = some (.int .i64 tn) := hX.cell 4
    have y5 : w1.cell? ⟨w.heap.size,5,none⟩ = some (.int .i64 st) := hX.cell 5
    have y6 : w1.cell? ⟨w.heap.size,6,none⟩ = some (.int .i64 en) := hX.cell 6
    have y7 : w1.cell? ⟨w.heap.size,7,none⟩ = some (.int .i64 rt) := hX.cell 7
    have y8 : w1.cell? ⟨w.heap.size,8,none⟩ = some (.int .i64 rf) := hX.cell 8
    have y9 : w1.cell? ⟨w.heap.size,9,none⟩ = some (.int .i64 rn) := hX.cell 9
    have y10 : w1.cell? ⟨w.heap.size,10,none⟩ = some (.int .i64 rs) := hX.cell 10
    have y11 : w1.cell? ⟨w.heap.size,11,none⟩ = some (.int .i64 re) := hX.cell 11
    have y12 : w1.cell? ⟨w.heap.size,12,none⟩ = some (.int .i64 ro) := hX.cell 12
    have lt_y := hX.lt
    clear hX HR
    go_wp2_with fail
    go_ret
    exact ⟨rfl,by (repeat (first | exact Below.refl _ _ | exact hB | refine Below.alloc ?_ (by first | omega | (simp; done) | (simp; omega)) _ | refine Below.setCell ?_ (by first | omega | (simp; done) | (simp; omega)) _ | refine Below.drew ?_ | refine Below.trans ?_ (hB.mono (by first | omega | (simp; done) | (simp; omega)))))⟩
set_option maxHeartbeats 8000000 in
set_option maxRecDepth 100000 in
theorem rr04_2 (op id fr tn st en rt rf rn rs re ro : Int) (b : Bool) (hb : rightD ⟨op,2,id,fr,tn,st,en,rt,rf,rn,rs,re,ro⟩ = b) (w : World) : Calls Tryd.prog 67 #[.agg #[.int .i64 op, .int .i64 2, .int .i64 id, .int .i64 fr, .int .i64 tn, .int .i64 st, .int .i64 en, .int .i64 rt, .int .i64 rf, .int .i64 rn, .int .i64 rs, .int .i64 re, .int .i64 ro]] w fun e w' => e = .returned (.bool b) ∧ Below w.heap.size w w' := by
  obtain ⟨hN,hY⟩ := right_2 b hb
  clear hb
  go_enter Tryd.func67,Tryd.ntmps67
  go_upto_region 1 with fail
  have hX := Blok.new w 31 #[.int .i64 op, .int .i64 2, .int .i64 id, .int .i64 fr, .int .i64 tn, .int .i64 st, .int .i64 en, .int .i64 rt, .int .i64 rf, .int .i64 rn, .int .i64 rs, .int .i64 re, .int .i64 ro]
  have hB : Below w.heap.size w (w.alloc (.cells #[.int .i64 op, .int .i64 2, .int .i64 id, .int .i64 fr, .int .i64 tn, .int .i64 st, .int .i64 en, .int .i64 rt, .int .i64 rf, .int .i64 rn, .int .i64 rs, .int .i64 re, .int .i64 ro] 31)) := by (repeat (first | exact Below.refl _ _ | refine Below.alloc ?_ (by first | omega | (simp; done) | (simp; omega)) _ | refine Below.setCell ?_ (by first | omega | (simp; done) | (simp; omega)) _ | refine Below.drew ?_))
  have hs := hB.size
  generalize w.alloc (.cells #[.int .i64 op, .int .i64 2, .int .i64 id, .int .i64 fr, .int .i64 tn, .int .i64 st, .int .i64 en, .int .i64 rt, .int .i64 rf, .int .i64 rn, .int .i64 rs, .int .i64 re, .int .i64 ro] 31) = w0 at *
  have y0 : w0.cell? ⟨w.heap.size,0,none⟩ = some (.int .i64 op) := hX.cell 0
  have y1 : w0.cell? ⟨w.heap.size,1,none⟩ = some (.int .i64 2) := hX.cell 1
  have y2 : w0.cell? ⟨w.heap.size,2,none⟩ = some (.int .i64 id) := hX.cell 2
  have y3 : w0.cell? ⟨w.heap.size,3,none⟩ = some (.int .i64 fr) := hX.cell 3
  have y4 : w0.cell? ⟨w.heap.size,4,none⟩ = some (.int .i64 tn) := hX.cell 4
  have y5 : w0.cell? ⟨w.heap.size,5,none⟩ = some (.int .i64 st) := hX.cell 5
  have y6 : w0.cell? ⟨w.heap.size,6,none⟩ = some (.int .i64 en) := hX.cell 6
  have y7 : w0.cell? ⟨w.heap.size,7,none⟩ = some (.int .i64 rt) := hX.cell 7
  have y8 : w0.cell? ⟨w.heap.size,8,none⟩ = some (.int .i64 rf) := hX.cell 8
  have y9 : w0.cell? ⟨w.heap.size,9,none⟩ = some (.int .i64 rn) := hX.cell 9
  have y10 : w0.cell? ⟨w.heap.size,10,none⟩ = some (.int .i64 rs) := hX.cell 10
  have y11 : w0.cell? ⟨w.heap.size,11,none⟩ = some (.int .i64 re) := hX.cell 11
  have y12 : w0.cell? ⟨w.heap.size,12,none⟩ = some (.int .i64 ro) := hX.cell 12
  have lt_y := hX.lt
  go_wp2_with fail
  clear y0 y1 y2 y3 y4 y5 y6 y7 y8 y9 y10 y11 y12 lt_y
  by_cases hr : (⟨id,fr,tn,st,en,rt⟩ : Co) = ⟨0,0,0,0,0,0⟩
  · obtain ⟨k1,k2,k3,k4⟩ := hY hr
    have HR := Lib.hid (decide_eq_true hr)
    injection hr with r0 r1 r2 r3 r4 r5
    subst r0 r1 r2 r3 r4 r5
    clear hN hY
    refine (nocon_any ⟨0,0,0,0,0,0⟩ w0 true HR.out).mono ?_
    rintro e w1 ⟨rfl,hb⟩
    replace hX := hX.below hb hX.lt
    replace hB := hB.trans (hb.mono hs)
    replace hs := hB.size
    clear hb
    by_cases h1 : op = 1
    · subst h1
      have HC := Lib.hid (k1 rfl)
      clear k1 k2 k3 k4 HR
      have y0 : w1.cell? ⟨w.heap.size,0,none⟩ = some (.int .i64 1) := hX.cell 0
      have y1 : w1.cell? ⟨w.heap.size,1,none⟩ = some (.int .i64 2) := hX.cell 1
      have y2 : w1.cell? ⟨w.heap.size,2,none⟩ = some (.int .i64 0) := hX.cell 2
      have y3 : w1.cell? ⟨w.heap.size,3,none⟩ = some (.int .i64 0) := hX.cell 3
      have y4 : w1.cell? ⟨w.heap.size,4,none⟩ = some (.int .i64 0) := hX.cell 4
      have y5 : w1.cell? ⟨w.heap.size,5,none⟩ = some (.int .i64 0) := hX.cell 5
      have y6 : w1.cell? ⟨w.heap.size,6,none⟩ = some (.int .i64 0) := hX.cell 6
      have y7 : w1.cell? ⟨w.heap.size,7,none⟩ = some (.int .i64 0) := hX.cell 7
      have y8 : w1.cell? ⟨w.heap.size,8,none⟩ = some (.int .i64 rf) := hX.cell 8
      have y9 : w1.cell? ⟨w.heap.size,9,none⟩ = some (.int .i64 rn) := hX.cell 9
      have y10 : w1.cell? ⟨w.heap.size,10,none⟩ = some (.int .i64 rs) := hX.cell 10
      have y11 : w1.cell? ⟨w.heap.size,11,none⟩ = some (.int .i64 re) := hX.cell 11
      have y12 : w1.cell? ⟨w.heap.size,12,none⟩ = some (.int .i64 ro) := hX.cell 12
      have lt_y := hX.lt
      go_wp2_with fail
      refine (rrange_is b HC.out _).mono ?_
      rintro e w2 ⟨rfl,hb⟩
      clear hX HC
      clear y0 y1 y2 y3 y4 y5 y6 y7 y8 y9 y10 y11 y12 lt_y
      go_wp2_with fail
      go_ret
      exact ⟨rfl,by (repeat (first | exact Below.refl _ _ | exact hb | exact hB | refine Below.alloc ?_ (by first | omega | (simp; done) | (simp; omega)) _ | refine Below.setCell ?_ (by first | omega | (simp; done) | (simp; omega)) _ | refine Below.drew ?_ | refine Below.trans ?_ (hb.mono (by first | omega | (simp; done) | (simp; omega))) | refine Below.trans ?_ (hB.mono (by first | omega | (simp; done) | (simp; omega)))))⟩
    by_cases h2 : op = 2
    · subst h2
      have hk := k2 rfl
      clear k1 k2 k3 k4 HR h1
      by_cases hc : (⟨rf,rn,rs,re,ro⟩ : Rg) = ⟨rf,rn,rs,0,0⟩
      · rw [if_pos hc] at hk
        have HC := Lib.hid hk
        have hEQ : ∀ w0 : World,(binOp .eql 29 (.agg #[.int .i64 rf, .int .i64 rn, .int .i64 rs, .int .i64 re, .int .i64 ro]) (.agg #[.int .i64 rf, .int .i64 rn, .int .i64 rs, .int .i64 0, .int .i64 0])).run Tryd.prog w0 = .ok (.bool true) w0 := fun w0 => by have h := eqlRg ⟨rf,rn,rs,re,ro⟩ ⟨rf,rn,rs,0,0⟩ w0; rw [decide_eq_true hc] at h; exact h
        clear hk hc
        have y0 : w1.cell? ⟨w.heap.size,0,none⟩ = some (.int .i64 2) := hX.cell 0
        have y1 : w1.cell? ⟨w.heap.size,1,none⟩ = some (.int .i64 2) := hX.cell 1
        have y2 : w1.cell? ⟨w.heap.size,2,none⟩ = some (.int .i64 0) := hX.cell 2
        have y3 : w1.cell? ⟨w.heap.size,3,none⟩ = some (.int .i64 0) := hX.cell 3
        have y4 : w1.cell? ⟨w.heap.size,4,none⟩ = some (.int .i64 0) := hX.cell 4
        have y5 : w1.cell? ⟨w.heap.size,5,none⟩ = some (.int .i64 0) := hX.cell 5
        have y6 : w1.cell? ⟨w.heap.size,6,none⟩ = some (.int .i64 0) := hX.cell 6
        have y7 : w1.cell? ⟨w.heap.size,7,none⟩ = some (.int .i64 0) := hX.cell 7
        have y8 : w1.cell? ⟨w.heap.size,8,none⟩ = some (.int .i64 rf) := hX.cell 8
        have y9 : w1.cell? ⟨w.heap.size,9,none⟩ = some (.int .i64 rn) := hX.cell 9
        have y10 : w1.cell? ⟨w.heap.size,10,none⟩ = some (.int .i64 rs) := hX.cell 10
        have y11 : w1.cell? ⟨w.heap.size,11,none⟩ = some (.int .i64 re) := hX.cell 11
        have y12 : w1.cell? ⟨w.heap.size,12,none⟩ = some (.int .i64 ro) := hX.cell 12
        have lt_y := hX.lt
        go_wp2_with fail
        refine (rrange_is b HC.out _).mono ?_
        rintro e w2 ⟨rfl,hb⟩
        clear hX HC hEQ
        clear y0 y1 y2 y3 y4 y5 y6 y7 y8 y9 y10 y11 y12 lt_y
        go_wp2_with fail
        go_ret
        exact ⟨rfl,by (repeat (first | exact Below.refl _ _ | exact hb | exact hB | refine Below.alloc ?_ (by first | omega | (simp; done) | (simp; omega)) _ | refine Below.setCell ?_ (by first | omega | (simp; done) | (simp; omega)) _ | refine Below.drew ?_ | refine Below.trans ?_ (hb.mono (by first | omega | (simp; done) | (simp; omega))) | refine Below.trans ?_ (hB.mono (by first | omega | (simp; done) | (simp; omega)))))⟩
      · rw [if_neg hc] at hk
        subst hk
        have hEQ : ∀ w0 : World,(binOp .eql 29 (.agg #[.int .i64 rf, .int .i64 rn, .int .i64 rs, .int .i64 re, .int .i64 ro]) (.agg #[.int .i64 rf, .int .i64 rn, .int .i64 rs, .int .i64 0, .int .i64 0])).run Tryd.prog w0 = .ok (.bool false) w0 := fun w0 => by have h := eqlRg ⟨rf,rn,rs,re,ro⟩ ⟨rf,rn,rs,0,0⟩ w0; rw [decide_eq_false hc] at h; exact h
        clear hc
        have y0 : w1.cell? ⟨w.heap.size,0,none⟩ = some (.int .i64 2) := hX.cell 0
        have y1 : w1.cell? ⟨w.heap.size,1,none⟩ = some (.int .i64 2) := hX.cell 1
        have y2 : w1.cell? ⟨w.heap.size,2,none⟩ = some (.int .i64 0) := hX.cell 2
        have y3 : w1.cell? ⟨w.heap.size,3,none⟩ = some (.int .i64 0) := hX.cell 3
        have y4 : w1.cell? ⟨w.heap.size,4,none⟩ = some (.int .i64 0) := hX.cell 4
        have y5 : w1.cell? ⟨w.heap.size,5,none⟩ = some (.int .i64 0) := hX.cell 5
        have y6 : w1.cell? ⟨w.heap.size,6,none⟩ = some (.int .i64 0) := hX.cell 6
        have y7 : w1.cell? ⟨w.heap.size,7,none⟩ = some (.int .i64 0) := hX.cell 7
        have y8 : w1.cell? ⟨w.heap.size,8,none⟩ = some (.int .i64 rf) := hX.cell 8
        have y9 : w1.cell? ⟨w.heap.size,9,none⟩ = some (.int .i64 rn) := hX.cell 9
        have y10 : w1.cell? ⟨w.heap.size,10,none⟩ = some (.int .i64 rs) := hX.cell 10
        have y11 : w1.cell? ⟨w.heap.size,11,none⟩ = some (.int .i64 re) := hX.cell 11
        have y12 : w1.cell? ⟨w.heap.size,12,none⟩ = some (.int .i64 ro) := hX.cell 12
        have lt_y := hX.lt
        clear hX
        go_wp2_with fail
        go_ret
        exact ⟨rfl,by (repeat (first | exact Below.refl _ _ | exact hB | refine Below.alloc ?_ (by first | omega | (simp; done) | (simp; omega)) _ | refine Below.setCell ?_ (by first | omega | (simp; done) | (simp; omega)) _ | refine Below.drew ?_ | refine Below.trans ?_ (hB.mono (by first | omega | (simp; done) | (simp; omega)))))⟩
    by_cases h3 : op = 3
    · subst h3
      have hk := k3 rfl
      clear k1 k2 k3 k4 HR h1 h2
      by_cases hc : re = 0
      · rw [if_pos hc] at hk
        have HC := Lib.hid hk
        subst hc
        clear hk
        have y0 : w1.cell? ⟨w.heap.size,0,none⟩ = some (.int .i64 3) := hX.cell 0
        have y1 : w1.cell? ⟨w.heap.size,1,none⟩ = some (.int .i64 2) := hX.cell 1
        have y2 : w1.cell? ⟨w.heap.size,2,none⟩ = some (.int .i64 0) := hX.cell 2
        have y3 : w1.cell? ⟨w.heap.size,3,none⟩ = some (.int .i64 0) := hX.cell 3
        have y4 : w1.cell? ⟨w.heap.size,4,none⟩ = some (.int .i64 0) := hX.cell 4
        have y5 : w1.cell? ⟨w.heap.size,5,none⟩ = some (.int .i64 0) := hX.cell 5
        have y6 : w1.cell? ⟨w.heap.size,6,none⟩ = some (.int .i64 0) := hX.cell 6
        have y7 : w1.cell? ⟨w.heap.size,7,none⟩ = some (.int .i64 0) := hX.cell 7
        have y8 : w1.cell? ⟨w.heap.size,8,none⟩ = some (.int .i64 rf) := hX.cell 8
        have y9 : w1.cell? ⟨w.heap.size,9,none⟩ = some (.int .i64 rn) := hX.cell 9
        have y10 : w1.cell? ⟨w.heap.size,10,none⟩ = some (.int .i64 rs) := hX.cell 10
        have y11 : w1.cell? ⟨w.heap.size,11,none⟩ = some (.int .i64 0) := hX.cell 11
        have y12 : w1.cell? ⟨w.heap.size,12,none⟩ = some (.int .i64 ro) := hX.cell 12
        have lt_y := hX.lt
        go_wp2_with fail
        refine (rrange_is b HC.out _).mono ?_
        rintro e w2 ⟨rfl,hb⟩
        clear hX HC
        clear y0 y1 y2 y3 y4 y5 y6 y7 y8 y9 y10 y11 y12 lt_y
        go_wp2_with fail
        go_ret
        exact ⟨rfl,by (repeat (first | exact Below.refl _ _ | exact hb | exact hB | refine Below.alloc ?_ (by first | omega | (simp; done) | (simp; omega)) _ | refine Below.setCell ?_ (by first | omega | (simp; done) | (simp; omega)) _ | refine Below.drew ?_ | refine Below.trans ?_ (hb.mono (by first | omega | (simp; done) | (simp; omega))) | refine Below.trans ?_ (hB.mono (by first | omega | (simp; done) | (simp; omega)))))⟩
      · rw [if_neg hc] at hk
        subst hk
        have g0 : (re == 0) = false := by simpa using hc
        have y0 : w1.cell? ⟨w.heap.size,0,none⟩ = some (.int .i64 3) := hX.cell 0
        have y1 : w1.cell? ⟨w.heap.size,1,none⟩ = some (.int .i64 2) := hX.cell 1
        have y2 : w1.cell? ⟨w.heap.size,2,none⟩ = some (.int .i64 0) := hX.cell 2
        have y3 : w1.cell? ⟨w.heap.size,3,none⟩ = some (.int .i64 0) := hX.cell 3
        have y4 : w1.cell? ⟨w.heap.size,4,none⟩ = some (.int .i64 0) := hX.cell 4
        have y5 : w1.cell? ⟨w.heap.size,5,none⟩ = some (.int .i64 0) := hX.cell 5
        have y6 : w1.cell? ⟨w.heap.size,6,none⟩ = some (.int .i64 0) := hX.cell 6
        have y7 : w1.cell? ⟨w.heap.size,7,none⟩ = some (.int .i64 0) := hX.cell 7
        have y8 : w1.cell? ⟨w.heap.size,8,none⟩ = some (.int .i64 rf) := hX.cell 8
        have y9 : w1.cell? ⟨w.heap.size,9,none⟩ = some (.int .i64 rn) := hX.cell 9
        have y10 : w1.cell? ⟨w.heap.size,10,none⟩ = some (.int .i64 rs) := hX.cell 10
        have y11 : w1.cell? ⟨w.heap.size,11,none⟩ = some (.int .i64 re) := hX.cell 11
        have y12 : w1.cell? ⟨w.heap.size,12,none⟩ = some (.int .i64 ro) := hX.cell 12
        have lt_y := hX.lt
        clear hX
        go_wp2_with fail
        go_ret
        exact ⟨rfl,by (repeat (first | exact Below.refl _ _ | exact hB | refine Below.alloc ?_ (by first | omega | (simp; done) | (simp; omega)) _ | refine Below.setCell ?_ (by first | omega | (simp; done) | (simp; omega)) _ | refine Below.drew ?_ | refine Below.trans ?_ (hB.mono (by first | omega | (simp; done) | (simp; omega)))))⟩
    have hf := k4 h1 h2 h3
    subst hf
    clear k1 k2 k3 k4 HR
    have g1 : (op == 1) = false := by simpa using h1
    have g2 : (op == 2) = false := by simpa using h2
    have g3 : (op == 3) = false := by simpa using h3
    have y0 : w1.cell? ⟨w.heap.size,0,none⟩ = some (.int .i64 op) := hX.cell 0
    have y1 : w1.cell? ⟨w.heap.size,1,none⟩ = some (.int .i64 2) := hX.cell 1
    have y2 : w1.cell? ⟨w.heap.size,2,none⟩ = some (.int .i64 0) := hX.cell 2
    have y3 : w1.cell? ⟨w.heap.size,3,none⟩ = some (.int .i64 0) := hX.cell 3
    have y4 : w1.cell? ⟨w.heap.size,4,none⟩ = some (.int .i64 0) := hX.cell 4
    have y5 : w1.cell? ⟨w.heap.size,5,none⟩ = some (.int .i64 0) := hX.cell 5
    have y6 : w1.cell? ⟨w.heap.size,6,none⟩ = some (.int .i64 0) := hX.cell 6
    have y7 : w1.cell? ⟨w.heap.size,7,none⟩ = some (.int .i64 0) := hX.cell 7
    have y8 : w1.cell? ⟨w.heap.size,8,none⟩ = some (.int .i64 rf) := hX.cell 8
    have y9 : w1.cell? ⟨w.heap.size,9,none⟩ = some (.int .i64 rn) := hX.cell 9
    have y10 : w1.cell? ⟨w.heap.size,10,none⟩ = some (.int .i64 rs) := hX.cell 10
    have y11 : w1.cell? ⟨w.heap.size,11,none⟩ = some (.int .i64 re) := hX.cell 11
    have y12 : w1.cell? ⟨w.heap.size,12,none⟩ = some (.int .i64 ro) := hX.cell 12
    have lt_y := hX.lt
    clear hX
    go_wp2_with fail
    go_ret
    exact ⟨rfl,by (repeat (first | exact Below.refl _ _ | exact hB | refine Below.alloc ?_ (by first | omega | (simp; done) | (simp; omega)) _ | refine Below.setCell ?_ (by first | omega | (simp; done) | (simp; omega)) _ | refine Below.drew ?_ | refine Below.trans ?_ (hB.mono (by first | omega | (simp; done) | (simp; omega)))))⟩
  · have hf := hN hr
    subst hf
    have HR := Lib.hid (decide_eq_false hr)
    clear hN hY hr
    refine (nocon_any ⟨id,fr,tn,st,en,rt⟩ w0 false HR.out).mono ?_
    rintro e w1 ⟨rfl,hb⟩
    replace hX := hX.below hb hX.lt
    replace hB := hB.trans (hb.mono hs)
    replace hs := hB.size
    clear hb
    have y0 : w1.cell? ⟨w.heap.size,0,none⟩ = some (.int .i64 op) := hX.cell 0
    have y1 : w1.cell? ⟨w.heap.size,1,none⟩ = some (.int .i64 2) := hX.cell 1
    have y2 : w1.cell? ⟨w.heap.size,2,none⟩ = some (.int .i64 id) := hX.cell 2
    have y3 : w1.cell? ⟨w.heap.size,3,none⟩ = some (.int .i64 fr) := hX.cell 3
    have y4 : w1.cell? ⟨w.heap.size,4,none⟩ = some (.int .i64 tn) := hX.cell 4
    have y5 : w1.cell? ⟨w.heap.size,5,none⟩ = some (.int .i64 st) := hX.cell 5
    have y6 : w1.cell? ⟨w.heap.size,6,none⟩ = some (.int .i64 en) := hX.cell 6
    have y7 : w1.cell? ⟨w.heap.size,7,none⟩ = some (.int .i64 rt) := hX.cell 7
    have y8 : w1.cell? ⟨w.heap.size,8,none⟩ = some (.int .i64 rf) := hX.cell 8
    have y9 : w1.cell? ⟨w.heap.size,9,none⟩ = some (.int .i64 rn) := hX.cell 9
    have y10 : w1.cell? ⟨w.heap.size,10,none⟩ = some (.int .i64 rs) := hX.cell 10
    have y11 : w1.cell? ⟨w.heap.size,11,none⟩ = some (.int .i64 re) := hX.cell 11
    have y12 : w1.cell? ⟨w.heap.size,12,none⟩ = some (.int .i64 ro) := hX.cell 12
    have lt_y := hX.lt
    clear hX HR
    go_wp2_with fail
    go_ret
    exact ⟨rfl,by (repeat (first | exact Below.refl _ _ | exact hB | refine Below.alloc ?_ (by first | omega | (simp; done) | (simp; omega)) _ | refine Below.setCell ?_ (by first | omega | (simp; done) | (simp; omega)) _ | refine Below.drew ?_ | refine Below.trans ?_ (hB.mono (by first | omega | (simp; done) | (simp; omega)))))⟩
set_option maxHeartbeats 8000000 in
set_option maxRecDepth 100000 in
theorem rr04_0 (op kd id fr tn st en rt rf rn rs re ro : Int) (h1 : kd ≠ 1) (h2 : kd ≠ 2) (b : Bool) (hb : rightD ⟨op,kd,id,fr,tn,st,en,rt,rf,rn,rs,re,ro⟩ = b) (w : World) : Calls Tryd.prog 67 #[.agg #[.int .i64 op, .int .i64 kd, .int .i64 id, .int .i64 fr, .int .i64 tn, .int .i64 st, .int .i64 en, .int .i64 rt, .int .i64 rf, .int .i64 rn, .int .i64 rs, .int .i64 re, .int .i64 ro]] w fun e w' => e = .returned (.bool b) ∧ Below w.heap.size w w' := by
  have hf := right_0 h1 h2 b hb
  subst hf
  clear hb
  have g1 : (kd == 1) = false := by simpa using h1
  have g2 : (kd == 2) = false := by simpa using h2
  go_enter Tryd.func67,Tryd.ntmps67
  go_upto_region 1 with fail
  have hX := Blok.new w 31 #[.int .i64 op, .int .i64 kd, .int .i64 id, .int .i64 fr, .int .i64 tn, .int .i64 st, .int .i64 en, .int .i64 rt, .int .i64 rf, .int .i64 rn, .int .i64 rs, .int .i64 re, .int .i64 ro]
  have hB : Below w.heap.size w (w.alloc (.cells #[.int .i64 op, .int .i64 kd, .int .i64 id, .int .i64 fr, .int .i64 tn, .int .i64 st, .int .i64 en, .int .i64 rt, .int .i64 rf, .int .i64 rn, .int .i64 rs, .int .i64 re, .int .i64 ro] 31)) := by (repeat (first | exact Below.refl _ _ | refine Below.alloc ?_ (by first | omega | (simp; done) | (simp; omega)) _ | refine Below.setCell ?_ (by first | omega | (simp; done) | (simp; omega)) _ | refine Below.drew ?_))
  have hs := hB.size
  generalize w.alloc (.cells #[.int .i64 op, .int .i64 kd, .int .i64 id, .int .i64 fr, .int .i64 tn, .int .i64 st, .int .i64 en, .int .i64 rt, .int .i64 rf, .int .i64 rn, .int .i64 rs, .int .i64 re, .int .i64 ro] 31) = w0 at *
  have y0 : w0.cell? ⟨w.heap.size,0,none⟩ = some (.int .i64 op) := hX.cell 0
  have y1 : w0.cell? ⟨w.heap.size,1,none⟩ = some (.int .i64 kd) := hX.cell 1
  have y2 : w0.cell? ⟨w.heap.size,2,none⟩ = some (.int .i64 id) := hX.cell 2
  have y3 : w0.cell? ⟨w.heap.size,3,none⟩ = some (.int .i64 fr) := hX.cell 3
  have y4 : w0.cell? ⟨w.heap.size,4,none⟩ = some (.int .i64 tn) := hX.cell 4
  have y5 : w0.cell? ⟨w.heap.size,5,none⟩ = some (.int .i64 st) := hX.cell 5
  have y6 : w0.cell? ⟨w.heap.size,6,none⟩ = some (.int .i64 en) := hX.cell 6
  have y7 : w0.cell? ⟨w.heap.size,7,none⟩ = some (.int .i64 rt) := hX.cell 7
  have y8 : w0.cell? ⟨w.heap.size,8,none⟩ = some (.int .i64 rf) := hX.cell 8
  have y9 : w0.cell? ⟨w.heap.size,9,none⟩ = some (.int .i64 rn) := hX.cell 9
  have y10 : w0.cell? ⟨w.heap.size,10,none⟩ = some (.int .i64 rs) := hX.cell 10
  have y11 : w0.cell? ⟨w.heap.size,11,none⟩ = some (.int .i64 re) := hX.cell 11
  have y12 : w0.cell? ⟨w.heap.size,12,none⟩ = some (.int .i64 ro) := hX.cell 12
  have lt_y := hX.lt
  clear hX
  go_wp2_with fail
  go_ret
  exact ⟨rfl,by (repeat (first | exact Below.refl _ _ | exact hB | refine Below.alloc ?_ (by first | omega | (simp; done) | (simp; omega)) _ | refine Below.setCell ?_ (by first | omega | (simp; done) | (simp; omega)) _ | refine Below.drew ?_ | refine Below.trans ?_ (hB.mono (by first | omega | (simp; done) | (simp; omega)))))⟩
theorem rr04_any (d : Dr) (w : World) (b : Bool) (hb : rightD d = b) : Calls Tryd.prog 67 #[.agg #[.int .i64 d.op, .int .i64 d.kd, .int .i64 d.id, .int .i64 d.fr, .int .i64 d.tn, .int .i64 d.st, .int .i64 d.en, .int .i64 d.rt, .int .i64 d.rf, .int .i64 d.rn, .int .i64 d.rs, .int .i64 d.re, .int .i64 d.ro]] w fun e w' => e = .returned (.bool b) ∧ Below w.heap.size w w' := by
  obtain ⟨op,kd,id,fr,tn,st,en,rt,rf,rn,rs,re,ro⟩ := d
  by_cases h1 : kd = 1
  · subst h1; exact rr04_1 op id fr tn st en rt rf rn rs re ro b hb w
  by_cases h2 : kd = 2
  · subst h2; exact rr04_2 op id fr tn st en rt rf rn rs re ro b hb w
  exact rr04_0 op kd id fr tn st en rt rf rn rs re ro h1 h2 b hb w
end Go.Proofs.YtggdomeeienjbaaDoor

/- The document's own answer for layer 4: a directive's words. No condition. -/
namespace Go.Proofs.YtggdomeeienjbaaDoor
open Go.ChangeShapes Go.WideShapes Go.ChangeAt Go.RowKit Go.Sort
set_option linter.unusedSimpArgs false
set_option linter.unusedVariables false
set_option maxHeartbeats 8000000 in
set_option maxRecDepth 100000 in
theorem first_11 (id fr tn st en rt rf rn rs re ro : Int) (w : World) : Calls Tryd.prog 68 #[.agg #[.int .i64 1, .int .i64 1, .int .i64 id, .int .i64 fr, .int .i64 tn, .int .i64 st, .int .i64 en, .int .i64 rt, .int .i64 rf, .int .i64 rn, .int .i64 rs, .int .i64 re, .int .i64 ro]] w fun e w' => ∃ g,e = .returned (.slice (some ⟨g,0,none⟩) 2 2) ∧ w'.ownsRow w.heap.size 9 1 (.slice (some ⟨g,0,none⟩) 2 2) 2 (vs [gS opW 1,gS kdW 1]) ∧ Below w.heap.size w w' := by
  go_enter Tryd.func68,Tryd.ntmps68
  go_upto_region 1 with fail
  have hX := Blok.new w 31 #[.int .i64 1, .int .i64 1, .int .i64 id, .int .i64 fr, .int .i64 tn, .int .i64 st, .int .i64 en, .int .i64 rt, .int .i64 rf, .int .i64 rn, .int .i64 rs, .int .i64 re, .int .i64 ro]
  have hB : Below w.heap.size w (w.alloc (.cells #[.int .i64 1, .int .i64 1, .int .i64 id, .int .i64 fr, .int .i64 tn, .int .i64 st, .int .i64 en, .int .i64 rt, .int .i64 rf, .int .i64 rn, .int .i64 rs, .int .i64 re, .int .i64 ro] 31)) := by (repeat (first | exact Below.refl _ _ | refine Below.alloc ?_ (by first | omega | (simp; done) | (simp; omega)) _ | refine Below.setCell ?_ (by first | omega | (simp; done) | (simp; omega)) _ | refine Below.drew ?_))
  have hs := hB.size
  generalize w.alloc (.cells #[.int .i64 1, .int .i64 1, .int .i64 id, .int .i64 fr, .int .i64 tn, .int .i64 st, .int .i64 en, .int .i64 rt, .int .i64 rf, .int .i64 rn, .int .i64 rs, .int .i64 re, .int .i64 ro] 31) = w0 at *
  go_upto_region 2 with fail
  have hL := Blok.new w0 9 #[.string ⟨#[97]⟩, .string ⟨#[100]⟩, .string ⟨#[99]⟩]
  have hb : Below w0.heap.size w0 (w0.alloc (.cells #[.string ⟨#[97]⟩, .string ⟨#[100]⟩, .string ⟨#[99]⟩] 9)) := by (repeat (first | exact Below.refl _ _ | refine Below.alloc ?_ (by first | omega | (simp; done) | (simp; omega)) _ | refine Below.setCell ?_ (by first | omega | (simp; done) | (simp; omega)) _ | refine Below.drew ?_))
  replace hX := hX.below hb hX.lt
  replace hB := hB.trans (hb.mono hs)
  replace hs := hB.size
  clear hb
  generalize w0.alloc (.cells #[.string ⟨#[97]⟩, .string ⟨#[100]⟩, .string ⟨#[99]⟩] 9) = w1 at *
  generalize hzz : w0.heap.size = b1 at *
  clear hzz
  go_upto_region 3 with fail
  have hK := Blok.new w1 9 #[.string ⟨#[99,111,110,116,97,99,116]⟩, .string ⟨#[114,97,110,103,101]⟩]
  have hb : Below w1.heap.size w1 (w1.alloc (.cells #[.string ⟨#[99,111,110,116,97,99,116]⟩, .string ⟨#[114,97,110,103,101]⟩] 9)) := by (repeat (first | exact Below.refl _ _ | refine Below.alloc ?_ (by first | omega | (simp; done) | (simp; omega)) _ | refine Below.setCell ?_ (by first | omega | (simp; done) | (simp; omega)) _ | refine Below.drew ?_))
  replace hX := hX.below hb hX.lt
  replace hL := hL.below hb hL.lt
  replace hB := hB.trans (hb.mono hs)
  replace hs := hB.size
  clear hb
  generalize w1.alloc (.cells #[.string ⟨#[99,111,110,116,97,99,116]⟩, .string ⟨#[114,97,110,103,101]⟩] 9) = w2 at *
  generalize hzz : w1.heap.size = b2 at *
  clear hzz
  have y0 : w2.cell? ⟨w.heap.size,0,none⟩ = some (.int .i64 1) := hX.cell 0
  have y1 : w2.cell? ⟨w.heap.size,1,none⟩ = some (.int .i64 1) := hX.cell 1
  have lt_y := hX.lt
  have l0 : w2.cell? ⟨b1,0,none⟩ = some (.string ⟨#[97]⟩) := hL.cell 0
  have k0 : w2.cell? ⟨b2,0,none⟩ = some (.string ⟨#[99,111,110,116,97,99,116]⟩) := hK.cell 0
  have lt_l := hL.lt
  have lt_k := hK.lt
  have q_y0 := fun d os => cell_regrown y0 d os
  have q_y1 := fun d os => cell_regrown y1 d os
  have q_l0 := fun d os => cell_regrown l0 d os
  have q_k0 := fun d os => cell_regrown k0 d os
  try simp only [List.append]
  refine wp_region_grown_tail 12 (by kernel_rfl) (by kernel_rfl) ?_
  simp only [Nat.reduceAdd,List.take_succ_cons,List.take_zero]
  repeat (go_big_quiet_step (fail))
  refine wpQuiet_nil ?_
  intro w3 hqw
  obtain ⟨pq,rfl⟩ := hqw
  clear q_y0 q_y1 q_l0 q_k0
  have hb := below_regrown w2 pq.d pq.os
  replace hB := hB.trans (hb.mono hs)
  replace hs := hB.size
  clear hb
  clear y0 y1 l0 k0 lt_y lt_l lt_k hX hL hK
  generalize grow (redrawn w2 pq.d) pq.os = w3 at *
  go_wp2_with fail
  have ho := own_lit w3 w.heap.size 9 1 2 #[.string ⟨#[97]⟩, .string ⟨#[99,111,110,116,97,99,116]⟩] hs rfl (by simp [maxLen])
  go_ret
  exact ⟨w3.heap.size,rfl,ho,hB.alloc hs _⟩
set_option maxHeartbeats 8000000 in
set_option maxRecDepth 100000 in
theorem first_12 (id fr tn st en rt rf rn rs re ro : Int) (w : World) : Calls Tryd.prog 68 #[.agg #[.int .i64 1, .int .i64 2, .int .i64 id, .int .i64 fr, .int .i64 tn, .int .i64 st, .int .i64 en, .int .i64 rt, .int .i64 rf, .int .i64 rn, .int .i64 rs, .int .i64 re, .int .i64 ro]] w fun e w' => ∃ g,e = .returned (.slice (some ⟨g,0,none⟩) 2 2) ∧ w'.ownsRow w.heap.size 9 1 (.slice (some ⟨g,0,none⟩) 2 2) 2 (vs [gS opW 1,gS kdW 2]) ∧ Below w.heap.size w w' := by
  go_enter Tryd.func68,Tryd.ntmps68
  go_upto_region 1 with fail
  have hX := Blok.new w 31 #[.int .i64 1, .int .i64 2, .int .i64 id, .int .i64 fr, .int .i64 tn, .int .i64 st, .int .i64 en, .int .i64 rt, .int .i64 rf, .int .i64 rn, .int .i64 rs, .int .i64 re, .int .i64 ro]
  have hB : Below w.heap.size w (w.alloc (.cells #[.int .i64 1, .int .i64 2, .int .i64 id, .int .i64 fr, .int .i64 tn, .int .i64 st, .int .i64 en, .int .i64 rt, .int .i64 rf, .int .i64 rn, .int .i64 rs, .int .i64 re, .int .i64 ro] 31)) := by (repeat (first | exact Below.refl _ _ | refine Below.alloc ?_ (by first | omega | (simp; done) | (simp; omega)) _ | refine Below.setCell ?_ (by first | omega | (simp; done) | (simp; omega)) _ | refine Below.drew ?_))
  have hs := hB.size
  generalize w.alloc (.cells #[.int .i64 1, .int .i64 2, .int .i64 id, .int .i64 fr, .int .i64 tn, .int .i64 st, .int .i64 en, .int .i64 rt, .int .i64 rf, .int .i64 rn, .int .i64 rs, .int .i64 re, .int .i64 ro] 31) = w0 at *
  go_upto_region 2 with fail
  have hL := Blok.new w0 9 #[.string ⟨#[97]⟩, .string ⟨#[100]⟩, .string ⟨#[99]⟩]
  have hb : Below w0.heap.size w0 (w0.alloc (.cells #[.string ⟨#[97]⟩, .string ⟨#[100]⟩, .string ⟨#[99]⟩] 9)) := by (repeat (first | exact Below.refl _ _ | refine Below.alloc ?_ (by first | omega | (simp; done) | (simp; omega)) _ | refine Below.setCell ?_ (by first | omega | (simp; done) | (simp; omega)) _ | refine Below.drew ?_))
  replace hX := hX.below hb hX.lt
  replace hB := hB.trans (hb.mono hs)
  replace hs := hB.size
  clear hb
  generalize w0.alloc (.cells #[.string ⟨#[97]⟩, .string ⟨#[100]⟩, .string ⟨#[99]⟩] 9) = w1 at *
  generalize hzz : w0.heap.size = b1 at *
  clear hzz
  go_upto_region 3 with fail
  have hK := Blok.new w1 9 #[.string ⟨#[99,111,110,116,97,99,116]⟩, .string ⟨#[114,97,110,103,101]⟩]
  have hb : Below w1.heap.size w1 (w1.alloc (.cells #[.string ⟨#[99,111,110,116,97,99,116]⟩, .string ⟨#[114,97,110,103,101]⟩] 9)) := by (repeat (first | exact Below.refl _ _ | refine Below.alloc ?_ (by first | omega | (simp; done) | (simp; omega)) _ | refine Below.setCell ?_ (by first | omega | (simp; done) | (simp; omega)) _ | refine Below.drew ?_))
  replace hX := hX.below hb hX.lt
  replace hL := hL.below hb hL.lt
  replace hB := hB.trans (hb.mono hs)
  replace hs := hB.size
  clear hb
  generalize w1.alloc (.cells #[.string ⟨#[99,111,110,116,97,99,116]⟩, .string ⟨#[114,97,110,103,101]⟩] 9) = w2 at *
  generalize hzz : w1.heap.size = b2 at *
  clear hzz
  have y0 : w2.cell? ⟨w.heap.size,0,none⟩ = some (.int .i64 1) := hX.cell 0
  have y1 : w2.cell? ⟨w.heap.size,1,none⟩ = some (.int .i64 2) := hX.cell 1
  have lt_y := hX.lt
  have l0 : w2.cell? ⟨b1,0,none⟩ = some (.string ⟨#[97]⟩) := hL.cell 0
  have k0 : w2.cell? ⟨b2,1,none⟩ = some (.string ⟨#[114,97,110,103,101]⟩) := hK.cell 1
  have lt_l := hL.lt
  have lt_k := hK.lt
  have q_y0 := fun d os => cell_regrown y0 d os
  have q_y1 := fun d os => cell_regrown y1 d os
  have q_l0 := fun d os => cell_regrown l0 d os
  have q_k0 := fun d os => cell_regrown k0 d os
  try simp only [List.append]
  refine wp_region_grown_tail 12 (by kernel_rfl) (by kernel_rfl) ?_
  simp only [Nat.reduceAdd,List.take_succ_cons,List.take_zero]
  repeat (go_big_quiet_step (fail))
  refine wpQuiet_nil ?_
  intro w3 hqw
  obtain ⟨pq,rfl⟩ := hqw
  clear q_y0 q_y1 q_l0 q_k0
  have hb := below_regrown w2 pq.d pq.os
  replace hB := hB.trans (hb.mono hs)
  replace hs := hB.size
  clear hb
  clear y0 y1 l0 k0 lt_y lt_l lt_k hX hL hK
  generalize grow (redrawn w2 pq.d) pq.os = w3 at *
  go_wp2_with fail
  have ho := own_lit w3 w.heap.size 9 1 2 #[.string ⟨#[97]⟩, .string ⟨#[114,97,110,103,101]⟩] hs rfl (by simp [maxLen])
  go_ret
  exact ⟨w3.heap.size,rfl,ho,hB.alloc hs _⟩
set_option maxHeartbeats 8000000 in
set_option maxRecDepth 100000 in
theorem first_21 (id fr tn st en rt rf rn rs re ro : Int) (w : World) : Calls Tryd.prog 68 #[.agg #[.int .i64 2, .int .i64 1, .int .i64 id, .int .i64 fr, .int .i64 tn, .int .i64 st, .int .i64 en, .int .i64 rt, .int .i64 rf, .int .i64 rn, .int .i64 rs, .int .i64 re, .int .i64 ro]] w fun e w' => ∃ g,e = .returned (.slice (some ⟨g,0,none⟩) 2 2) ∧ w'.ownsRow w.heap.size 9 1 (.slice (some ⟨g,0,none⟩) 2 2) 2 (vs [gS opW 2,gS kdW 1]) ∧ Below w.heap.size w w' := by
  go_enter Tryd.func68,Tryd.ntmps68
  go_upto_region 1 with fail
  have hX := Blok.new w 31 #[.int .i64 2, .int .i64 1, .int .i64 id, .int .i64 fr, .int .i64 tn, .int .i64 st, .int .i64 en, .int .i64 rt, .int .i64 rf, .int .i64 rn, .int .i64 rs, .int .i64 re, .int .i64 ro]
  have hB : Below w.heap.size w (w.alloc (.cells #[.int .i64 2, .int .i64 1, .int .i64 id, .int .i64 fr, .int .i64 tn, .int .i64 st, .int .i64 en, .int .i64 rt, .int .i64 rf, .int .i64 rn, .int .i64 rs, .int .i64 re, .int .i64 ro] 31)) := by (repeat (first | exact Below.refl _ _ | refine Below.alloc ?_ (by first | omega | (simp; done) | (simp; omega)) _ | refine Below.setCell ?_ (by first | omega | (simp; done) | (simp; omega)) _ | refine Below.drew ?_))
  have hs := hB.size
  generalize w.alloc (.cells #[.int .i64 2, .int .i64 1, .int .i64 id, .int .i64 fr, .int .i64 tn, .int .i64 st, .int .i64 en, .int .i64 rt, .int .i64 rf, .int .i64 rn, .int .i64 rs, .int .i64 re, .int .i64 ro] 31) = w0 at *
  go_upto_region 2 with fail
  have hL := Blok.new w0 9 #[.string ⟨#[97]⟩, .string ⟨#[100]⟩, .string ⟨#[99]⟩]
  have hb : Below w0.heap.size w0 (w0.alloc (.cells #[.string ⟨#[97]⟩, .string ⟨#[100]⟩, .string ⟨#[99]⟩] 9)) := by (repeat (first | exact Below.refl _ _ | refine Below.alloc ?_ (by first | omega | (simp; done) | (simp; omega)) _ | refine Below.setCell ?_ (by first | omega | (simp; done) | (simp; omega)) _ | refine Below.drew ?_))
  replace hX := hX.below hb hX.lt
  replace hB := hB.trans (hb.mono hs)
  replace hs := hB.size
  clear hb
  generalize w0.alloc (.cells #[.string ⟨#[97]⟩, .string ⟨#[100]⟩, .string ⟨#[99]⟩] 9) = w1 at *
  generalize hzz : w0.heap.size = b1 at *
  clear hzz
  go_upto_region 3 with fail
  have hK := Blok.new w1 9 #[.string ⟨#[99,111,110,116,97,99,116]⟩, .string ⟨#[114,97,110,103,101]⟩]
  have hb : Below w1.heap.size w1 (w1.alloc (.cells #[.string ⟨#[99,111,110,116,97,99,116]⟩, .string ⟨#[114,97,110,103,101]⟩] 9)) := by (repeat (first | exact Below.refl _ _ | refine Below.alloc ?_ (by first | omega | (simp; done) | (simp; omega)) _ | refine Below.setCell ?_ (by first | omega | (simp; done) | (simp; omega)) _ | refine Below.drew ?_))
  replace hX := hX.below hb hX.lt
  replace hL := hL.below hb hL.lt
  replace hB := hB.trans (hb.mono hs)
  replace hs := hB.size
  clear hb
  generalize w1.alloc (.cells #[.string ⟨#[99,111,110,116,97,99,116]⟩, .string ⟨#[114,97,110,103,101]⟩] 9) = w2 at *
  generalize hzz : w1.heap.size = b2 at *
  clear hzz
  have y0 : w2.cell? ⟨w.heap.size,0,none⟩ = some (.int .i64 2) := hX.cell 0
  have y1 : w2.cell? ⟨w.heap.size,1,none⟩ = some (.int .i64 1) := hX.cell 1
  have lt_y := hX.lt
  have l0 : w2.cell? ⟨b1,1,none⟩ = some (.string ⟨#[100]⟩) := hL.cell 1
  have k0 : w2.cell? ⟨b2,0,none⟩ = some (.string ⟨#[99,111,110,116,97,99,116]⟩) := hK.cell 0
  have lt_l := hL.lt
  have lt_k := hK.lt
  have q_y0 := fun d os => cell_regrown y0 d os
  have q_y1 := fun d os => cell_regrown y1 d os
  have q_l0 := fun d os => cell_regrown l0 d os
  have q_k0 := fun d os => cell_regrown k0 d os
  try simp only [List.append]
  refine wp_region_grown_tail 12 (by kernel_rfl) (by kernel_rfl) ?_
  simp only [Nat.reduceAdd,List.take_succ_cons,List.take_zero]
  repeat (go_big_quiet_step (fail))
  refine wpQuiet_nil ?_
  intro w3 hqw
  obtain ⟨pq,rfl⟩ := hqw
  clear q_y0 q_y1 q_l0 q_k0
  have hb := below_regrown w2 pq.d pq.os
  replace hB := hB.trans (hb.mono hs)
  replace hs := hB.size
  clear hb
  clear y0 y1 l0 k0 lt_y lt_l lt_k hX hL hK
  generalize grow (redrawn w2 pq.d) pq.os = w3 at *
  go_wp2_with fail
  have ho := own_lit w3 w.heap.size 9 1 2 #[.string ⟨#[100]⟩, .string ⟨#[99,111,110,116,97,99,116]⟩] hs rfl (by simp [maxLen])
  go_ret
  exact ⟨w3.heap.size,rfl,ho,hB.alloc hs _⟩
set_option maxHeartbeats 8000000 in
set_option maxRecDepth 100000 in
theorem first_22 (id fr tn st en rt rf rn rs re ro : Int) (w : World) : Calls Tryd.prog 68 #[.agg #[.int .i64 2, .int .i64 2, .int .i64 id, .int .i64 fr, .int .i64 tn, .int .i64 st, .int .i64 en, .int .i64 rt, .int .i64 rf, .int .i64 rn, .int .i64 rs, .int .i64 re, .int .i64 ro]] w fun e w' => ∃ g,e = .returned (.slice (some ⟨g,0,none⟩) 2 2) ∧ w'.ownsRow w.heap.size 9 1 (.slice (some ⟨g,0,none⟩) 2 2) 2 (vs [gS opW 2,gS kdW 2]) ∧ Below w.heap.size w w' := by
  go_enter Tryd.func68,Tryd.ntmps68
  go_upto_region 1 with fail
  have hX := Blok.new w 31 #[.int .i64 2, .int .i64 2, .int .i64 id, .int .i64 fr, .int .i64 tn, .int .i64 st, .int .i64 en, .int .i64 rt, .int .i64 rf, .int .i64 rn, .int .i64 rs, .int .i64 re, .int .i64 ro]
  have hB : Below w.heap.size w (w.alloc (.cells #[.int .i64 2, .int .i64 2, .int .i64 id, .int .i64 fr, .int .i64 tn, .int .i64 st, .int .i64 en, .int .i64 rt, .int .i64 rf, .int .i64 rn, .int .i64 rs, .int .i64 re, .int .i64 ro] 31)) := by (repeat (first | exact Below.refl _ _ | refine Below.alloc ?_ (by first | omega | (simp; done) | (simp; omega)) _ | refine Below.setCell ?_ (by first | omega | (simp; done) | (simp; omega)) _ | refine Below.drew ?_))
  have hs := hB.size
  generalize w.alloc (.cells #[.int .i64 2, .int .i64 2, .int .i64 id, .int .i64 fr, .int .i64 tn, .int .i64 st, .int .i64 en, .int .i64 rt, .int .i64 rf, .int .i64 rn, .int .i64 rs, .int .i64 re, .int .i64 ro] 31) = w0 at *
  go_upto_region 2 with fail
  have hL := Blok.new w0 9 #[.string ⟨#[97]⟩, .string ⟨#[100]⟩, .string ⟨#[99]⟩]
  have hb : Below w0.heap.size w0 (w0.alloc (.cells #[.string ⟨#[97]⟩, .string ⟨#[100]⟩, .string ⟨#[99]⟩] 9)) := by (repeat (first | exact Below.refl _ _ | refine Below.alloc ?_ (by first | omega | (simp; done) | (simp; omega)) _ | refine Below.setCell ?_ (by first | omega | (simp; done) | (simp; omega)) _ | refine Below.drew ?_))
  replace hX := hX.below hb hX.lt
  replace hB := hB.trans (hb.mono hs)
  replace hs := hB.size
  clear hb
  generalize w0.alloc (.cells #[.string ⟨#[97]⟩, .string ⟨#[100]⟩, .string ⟨#[99]⟩] 9) = w1 at *
  generalize hzz : w0.heap.size = b1 at *
  clear hzz
  go_upto_region 3 with fail
  have hK := Blok.new w1 9 #[.string ⟨#[99,111,110,116,97,99,116]⟩, .string ⟨#[114,97,110,103,101]⟩]
  have hb : Below w1.heap.size w1 (w1.alloc (.cells #[.string ⟨#[99,111,110,116,97,99,116]⟩, .string ⟨#[114,97,110,103,101]⟩] 9)) := by (repeat (first | exact Below.refl _ _ | refine Below.alloc ?_ (by first | omega | (simp; done) | (simp; omega)) _ | refine Below.setCell ?_ (by first | omega | (simp; done) | (simp; omega)) _ | refine Below.drew ?_))
  replace hX := hX.below hb hX.lt
  replace hL := hL.below hb hL.lt
  replace hB := hB.trans (hb.mono hs)
  replace hs := hB.size
  clear hb
  generalize w1.alloc (.cells #[.string ⟨#[99,111,110,116,97,99,116]⟩, .string ⟨#[114,97,110,103,101]⟩] 9) = w2 at *
  generalize hzz : w1.heap.size = b2 at *
  clear hzz
  have y0 : w2.cell? ⟨w.heap.size,0,none⟩ = some (.int .i64 2) := hX.cell 0
  have y1 : w2.cell? ⟨w.heap.size,1,none⟩ = some (.int .i64 2) := hX.cell 1
  have lt_y := hX.lt
  have l0 : w2.cell? ⟨b1,1,none⟩ = some (.string ⟨#[100]⟩) := hL.cell 1
  have k0 : w2.cell? ⟨b2,1,none⟩ = some (.string ⟨#[114,97,110,103,101]⟩) := hK.cell 1
  have lt_l := hL.lt
  have lt_k := hK.lt
  have q_y0 := fun d os => cell_regrown y0 d os
  have q_y1 := fun d os => cell_regrown y1 d os
  have q_l0 := fun d os => cell_regrown l0 d os
  have q_k0 := fun d os => cell_regrown k0 d os
  try simp only [List.append]
  refine wp_region_grown_tail 12 (by kernel_rfl) (by kernel_rfl) ?_
  simp only [Nat.reduceAdd,List.take_succ_cons,List.take_zero]
  repeat (go_big_quiet_step (fail))
  refine wpQuiet_nil ?_
  intro w3 hqw
  obtain ⟨pq,rfl⟩ := hqw
  clear q_y0 q_y1 q_l0 q_k0
  have hb := below_regrown w2 pq.d pq.os
  replace hB := hB.trans (hb.mono hs)
  replace hs := hB.size
  clear hb
  clear y0 y1 l0 k0 lt_y lt_l lt_k hX hL hK
  generalize grow (redrawn w2 pq.d) pq.os = w3 at *
  go_wp2_with fail
  have ho := own_lit w3 w.heap.size 9 1 2 #[.string ⟨#[100]⟩, .string ⟨#[114,97,110,103,101]⟩] hs rfl (by simp [maxLen])
  go_ret
  exact ⟨w3.heap.size,rfl,ho,hB.alloc hs _⟩
set_option maxHeartbeats 8000000 in
set_option maxRecDepth 100000 in
theorem first_31 (id fr tn st en rt rf rn rs re ro : Int) (w : World) : Calls Tryd.prog 68 #[.agg #[.int .i64 3, .int .i64 1, .int .i64 id, .int .i64 fr, .int .i64 tn, .int .i64 st, .int .i64 en, .int .i64 rt, .int .i64 rf, .int .i64 rn, .int .i64 rs, .int .i64 re, .int .i64 ro]] w fun e w' => ∃ g,e = .returned (.slice (some ⟨g,0,none⟩) 2 2) ∧ w'.ownsRow w.heap.size 9 1 (.slice (some ⟨g,0,none⟩) 2 2) 2 (vs [gS opW 3,gS kdW 1]) ∧ Below w.heap.size w w' := by
  go_enter Tryd.func68,Tryd.ntmps68
  go_upto_region 1 with fail
  have hX := Blok.new w 31 #[.int .i64 3, .int .i64 1, .int .i64 id, .int .i64 fr, .int .i64 tn, .int .i64 st, .int .i64 en, .int .i64 rt, .int .i64 rf, .int .i64 rn, .int .i64 rs, .int .i64 re, .int .i64 ro]
  have hB : Below w.heap.size w (w.alloc (.cells #[.int .i64 3, .int .i64 1, .int .i64 id, .int .i64 fr, .int .i64 tn, .int .i64 st, .int .i64 en, .int .i64 rt, .int .i64 rf, .int .i64 rn, .int .i64 rs, .int .i64 re, .int .i64 ro] 31)) := by (repeat (first | exact Below.refl _ _ | refine Below.alloc ?_ (by first | omega | (simp; done) | (simp; omega)) _ | refine Below.setCell ?_ (by first | omega | (simp; done) | (simp; omega)) _ | refine Below.drew ?_))
  have hs := hB.size
  generalize w.alloc (.cells #[.int .i64 3, .int .i64 1, .int .i64 id, .int .i64 fr, .int .i64 tn, .int .i64 st, .int .i64 en, .int .i64 rt, .int .i64 rf, .int .i64 rn, .int .i64 rs, .int .i64 re, .int .i64 ro] 31) = w0 at *
  go_upto_region 2 with fail
  have hL := Blok.new w0 9 #[.string ⟨#[97]⟩, .string ⟨#[100]⟩, .string ⟨#[99]⟩]
  have hb : Below w0.heap.size w0 (w0.alloc (.cells #[.string ⟨#[97]⟩, .string ⟨#[100]⟩, .string ⟨#[99]⟩] 9)) := by (repeat (first | exact Below.refl _ _ | refine Below.alloc ?_ (by first | omega | (simp; done) | (simp; omega)) _ | refine Below.setCell ?_ (by first | omega | (simp; done) | (simp; omega)) _ | refine Below.drew ?_))
  replace hX := hX.below hb hX.lt
  replace hB := hB.trans (hb.mono hs)
  replace hs := hB.size
  clear hb
  generalize w0.alloc (.cells #[.string ⟨#[97]⟩, .string ⟨#[100]⟩, .string ⟨#[99]⟩] 9) = w1 at *
  generalize hzz : w0.heap.size = b1 at *
  clear hzz
  go_upto_region 3 with fail
  have hK := Blok.new w1 9 #[.string ⟨#[99,111,110,116,97,99,116]⟩, .string ⟨#[114,97,110,103,101]⟩]
  have hb : Below w1.heap.size w1 (w1.alloc (.cells #[.string ⟨#[99,111,110,116,97,99,116]⟩, .string ⟨#[114,97,110,103,101]⟩] 9)) := by (repeat (first | exact Below.refl _ _ | refine Below.alloc ?_ (by first | omega | (simp; done) | (simp; omega)) _ | refine Below.setCell ?_ (by first | omega | (simp; done) | (simp; omega)) _ | refine Below.drew ?_))
  replace hX := hX.below hb hX.lt
  replace hL := hL.below hb hL.lt
  replace hB := hB.trans (hb.mono hs)
  replace hs := hB.size
  clear hb
  generalize w1.alloc (.cells #[.string ⟨#[99,111,110,116,97,99,116]⟩, .string ⟨#[114,97,110,103,101]⟩] 9) = w2 at *
  generalize hzz : w1.heap.size = b2 at *
  clear hzz
  have y0 : w2.cell? ⟨w.heap.size,0,none⟩ = some (.int .i64 3) := hX.cell 0
  have y1 : w2.cell? ⟨w.heap.size,1,none⟩ = some (.int .i64 1) := hX.cell 1
  have lt_y := hX.lt
  have l0 : w2.cell? ⟨b1,2,none⟩ = some (.string ⟨#[99]⟩) := hL.cell 2
  have k0 : w2.cell? ⟨b2,0,none⟩ = some (.string ⟨#[99,111,110,116,97,99,116]⟩) := hK.cell 0
  have lt_l := hL.lt
  have lt_k := hK.lt
  have q_y0 := fun d os => cell_regrown y0 d os
  have q_y1 := fun d os => cell_regrown y1 d os
  have q_l0 := fun d os => cell_regrown l0 d os
  have q_k0 := fun d os => cell_regrown k0 d os
  try simp only [List.append]
  refine wp_region_grown_tail 12 (by kernel_rfl) (by kernel_rfl) ?_
  simp only [Nat.reduceAdd,List.take_succ_cons,List.take_zero]
  repeat (go_big_quiet_step (fail))
  refine wpQuiet_nil ?_
  intro w3 hqw
  obtain ⟨pq,rfl⟩ := hqw
  clear q_y0 q_y1 q_l0 q_k0
  have hb := below_regrown w2 pq.d pq.os
  replace hB := hB.trans (hb.mono hs)
  replace hs := hB.size
  clear hb
  clear y0 y1 l0 k0 lt_y lt_l lt_k hX hL hK
  generalize grow (redrawn w2 pq.d) pq.os = w3 at *
  go_wp2_with fail
  have ho := own_lit w3 w.heap.size 9 1 2 #[.string ⟨#[99]⟩, .string ⟨#[99,111,110,116,97,99,116]⟩] hs rfl (by simp [maxLen])
  go_ret
  exact ⟨w3.heap.size,rfl,ho,hB.alloc hs _⟩
set_option maxHeartbeats 8000000 in
set_option maxRecDepth 100000 in
theorem first_32 (id fr tn st en rt rf rn rs re ro : Int) (w : World) : Calls Tryd.prog 68 #[.agg #[.int .i64 3, .int .i64 2, .int .i64 id, .int .i64 fr, .int .i64 tn, .int .i64 st, .int .i64 en, .int .i64 rt, .int .i64 rf, .int .i64 rn, .int .i64 rs, .int .i64 re, .int .i64 ro]] w fun e w' => ∃ g,e = .returned (.slice (some ⟨g,0,none⟩) 2 2) ∧ w'.ownsRow w.heap.size 9 1 (.slice (some ⟨g,0,none⟩) 2 2) 2 (vs [gS opW 3,gS kdW 2]) ∧ Below w.heap.size w w' := by
  go_enter Tryd.func68,Tryd.ntmps68
  go_upto_region 1 with fail
  have hX := Blok.new w 31 #[.int .i64 3, .int .i64 2, .int .i64 id, .int .i64 fr, .int .i64 tn, .int .i64 st, .int .i64 en, .int .i64 rt, .int .i64 rf, .int .i64 rn, .int .i64 rs, .int .i64 re, .int .i64 ro]
  have hB : Below w.heap.size w (w.alloc (.cells #[.int .i64 3, .int .i64 2, .int .i64 id, .int .i64 fr, .int .i64 tn, .int .i64 st, .int .i64 en, .int .i64 rt, .int .i64 rf, .int .i64 rn, .int .i64 rs, .int .i64 re, .int .i64 ro] 31)) := by (repeat (first | exact Below.refl _ _ | refine Below.alloc ?_ (by first | omega | (simp; done) | (simp; omega)) _ | refine Below.setCell ?_ (by first | omega | (simp; done) | (simp; omega)) _ | refine Below.drew ?_))
  have hs := hB.size
  generalize w.alloc (.cells #[.int .i64 3, .int .i64 2, .int .i64 id, .int .i64 fr, .int .i64 tn, .int .i64 st, .int .i64 en, .int .i64 rt, .int .i64 rf, .int .i64 rn, .int .i64 rs, .int .i64 re, .int .i64 ro] 31) = w0 at *
  go_upto_region 2 with fail
  have hL := Blok.new w0 9 #[.string ⟨#[97]⟩, .string ⟨#[100]⟩, .string ⟨#[99]⟩]
  have hb : Below w0.heap.size w0 (w0.alloc (.cells #[.string ⟨#[97]⟩, .string ⟨#[100]⟩, .string ⟨#[99]⟩] 9)) := by (repeat (first | exact Below.refl _ _ | refine Below.alloc ?_ (by first | omega | (simp; done) | (simp; omega)) _ | refine Below.setCell ?_ (by first | omega | (simp; done) | (simp; omega)) _ | refine Below.drew ?_))
  replace hX := hX.below hb hX.lt
  replace hB := hB.trans (hb.mono hs)
  replace hs := hB.size
  clear hb
  generalize w0.alloc (.cells #[.string ⟨#[97]⟩, .string ⟨#[100]⟩, .string ⟨#[99]⟩] 9) = w1 at *
  generalize hzz : w0.heap.size = b1 at *
  clear hzz
  go_upto_region 3 with fail
  have hK := Blok.new w1 9 #[.string ⟨#[99,111,110,116,97,99,116]⟩, .string ⟨#[114,97,110,103,101]⟩]
  have hb : Below w1.heap.size w1 (w1.alloc (.cells #[.string ⟨#[99,111,110,116,97,99,116]⟩, .string ⟨#[114,97,110,103,101]⟩] 9)) := by (repeat (first | exact Below.refl _ _ | refine Below.alloc ?_ (by first | omega | (simp; done) | (simp; omega)) _ | refine Below.setCell ?_ (by first | omega | (simp; done) | (simp; omega)) _ | refine Below.drew ?_))
  replace hX := hX.below hb hX.lt
  replace hL := hL.below hb hL.lt
  replace hB := hB.trans (hb.mono hs)
  replace hs := hB.size
  clear hb
  generalize w1.alloc (.cells #[.string ⟨#[99,111,110,116,97,99,116]⟩, .string ⟨#[114,97,110,103,101]⟩] 9) = w2 at *
  generalize hzz : w1.heap.size = b2 at *
  clear hzz
  have y0 : w2.cell? ⟨w.heap.size,0,none⟩ = some (.int .i64 3) := hX.cell 0
  have y1 : w2.cell? ⟨w.heap.size,1,none⟩ = some (.int .i64 2) := hX.cell 1
  have lt_y := hX.lt
  have l0 : w2.cell? ⟨b1,2,none⟩ = some (.string ⟨#[99]⟩) := hL.cell 2
  have k0 : w2.cell? ⟨b2,1,none⟩ = some (.string ⟨#[114,97,110,103,101]⟩) := hK.cell 1
  have lt_l := hL.lt
  have lt_k := hK.lt
  have q_y0 := fun d os => cell_regrown y0 d os
  have q_y1 := fun d os => cell_regrown y1 d os
  have q_l0 := fun d os => cell_regrown l0 d os
  have q_k0 := fun d os => cell_regrown k0 d os
  try simp only [List.append]
  refine wp_region_grown_tail 12 (by kernel_rfl) (by kernel_rfl) ?_
  simp only [Nat.reduceAdd,List.take_succ_cons,List.take_zero]
  repeat (go_big_quiet_step (fail))
  refine wpQuiet_nil ?_
  intro w3 hqw
  obtain ⟨pq,rfl⟩ := hqw
  clear q_y0 q_y1 q_l0 q_k0
  have hb := below_regrown w2 pq.d pq.os
  replace hB := hB.trans (hb.mono hs)
  replace hs := hB.size
  clear hb
  clear y0 y1 l0 k0 lt_y lt_l lt_k hX hL hK
  generalize grow (redrawn w2 pq.d) pq.os = w3 at *
  go_wp2_with fail
  have ho := own_lit w3 w.heap.size 9 1 2 #[.string ⟨#[99]⟩, .string ⟨#[114,97,110,103,101]⟩] hs rfl (by simp [maxLen])
  go_ret
  exact ⟨w3.heap.size,rfl,ho,hB.alloc hs _⟩
theorem known_cases {d : Dr} (h : knownD d = true) : (d.op = 1 ∨ d.op = 2 ∨ d.op = 3) ∧ (d.kd = 1 ∨ d.kd = 2) := by
  obtain ⟨_,_,_,_,_,_,_,h1,h2⟩ := form_nums d h
  exact ⟨h1,h2⟩
theorem first_any (d : Dr) (h : knownD d = true) (w : World) : Calls Tryd.prog 68 #[.agg #[.int .i64 d.op, .int .i64 d.kd, .int .i64 d.id, .int .i64 d.fr, .int .i64 d.tn, .int .i64 d.st, .int .i64 d.en, .int .i64 d.rt, .int .i64 d.rf, .int .i64 d.rn, .int .i64 d.rs, .int .i64 d.re, .int .i64 d.ro]] w fun e w' => ∃ g,e = .returned (.slice (some ⟨g,0,none⟩) 2 2) ∧ w'.ownsRow w.heap.size 9 1 (.slice (some ⟨g,0,none⟩) 2 2) 2 (vs [gS opW d.op.toNat,gS kdW d.kd.toNat]) ∧ Below w.heap.size w w' := by
  obtain ⟨h1,h2⟩ := known_cases h
  obtain ⟨op,kd,id,fr,tn,st,en,rt,rf,rn,rs,re,ro⟩ := d
  dsimp only at h1 h2
  rcases h1 with rfl | rfl | rfl <;> rcases h2 with rfl | rfl
  · exact first_11 id fr tn st en rt rf rn rs re ro w
  · exact first_12 id fr tn st en rt rf rn rs re ro w
  · exact first_21 id fr tn st en rt rf rn rs re ro w
  · exact first_22 id fr tn st en rt rf rn rs re ro w
  · exact first_31 id fr tn st en rt rf rn rs re ro w
  · exact first_32 id fr tn st en rt rf rn rs re ro w
set_option maxHeartbeats 8000000 in
set_option maxRecDepth 100000 in
theorem rnums_11 (id fr tn st en rt rf rn rs re ro : Int) (w : World) : Calls Tryd.prog 69 #[.agg #[.int .i64 1, .int .i64 1, .int .i64 id, .int .i64 fr, .int .i64 tn, .int .i64 st, .int .i64 en, .int .i64 rt, .int .i64 rf, .int .i64 rn, .int .i64 rs, .int .i64 re, .int .i64 ro]] w fun e w' => ∃ v,e = .returned v ∧ w'.ownsRow w.heap.size 3 1 v 6 ([id,fr,tn,st,en,rt].map (Value.int .i64)) ∧ Below w.heap.size w w' := by
  have hX := Blok.new w 31 #[.int .i64 1, .int .i64 1, .int .i64 id, .int .i64 fr, .int .i64 tn, .int .i64 st, .int .i64 en, .int .i64 rt, .int .i64 rf, .int .i64 rn, .int .i64 rs, .int .i64 re, .int .i64 ro]
  have hB : Below w.heap.size w (w.alloc (.cells #[.int .i64 1, .int .i64 1, .int .i64 id, .int .i64 fr, .int .i64 tn, .int .i64 st, .int .i64 en, .int .i64 rt, .int .i64 rf, .int .i64 rn, .int .i64 rs, .int .i64 re, .int .i64 ro] 31)) := by (repeat (first | exact Below.refl _ _ | refine Below.alloc ?_ (by first | omega | (simp; done) | (simp; omega)) _ | refine Below.setCell ?_ (by first | omega | (simp; done) | (simp; omega)) _ | refine Below.drew ?_))
  have hs := hB.size
  go_enter Tryd.func69,Tryd.ntmps69
  go_upto_region 1 with fail
  generalize w.alloc (.cells #[.int .i64 1, .int .i64 1, .int .i64 id, .int .i64 fr, .int .i64 tn, .int .i64 st, .int .i64 en, .int .i64 rt, .int .i64 rf, .int .i64 rn, .int .i64 rs, .int .i64 re, .int .i64 ro] 31) = w0 at *
  have y0 : w0.cell? ⟨w.heap.size,0,none⟩ = some (.int .i64 1) := hX.cell 0
  have y1 : w0.cell? ⟨w.heap.size,1,none⟩ = some (.int .i64 1) := hX.cell 1
  have y2 : w0.cell? ⟨w.heap.size,2,none⟩ = some (.int .i64 id) := hX.cell 2
  have y3 : w0.cell? ⟨w.heap.size,3,none⟩ = some (.int .i64 fr) := hX.cell 3
  have y4 : w0.cell? ⟨w.heap.size,4,none⟩ = some (.int .i64 tn) := hX.cell 4
  have y5 : w0.cell? ⟨w.heap.size,5,none⟩ = some (.int .i64 st) := hX.cell 5
  have y6 : w0.cell? ⟨w.heap.size,6,none⟩ = some (.int .i64 en) := hX.cell 6
  have y7 : w0.cell? ⟨w.heap.size,7,none⟩ = some (.int .i64 rt) := hX.cell 7
  have y8 : w0.cell? ⟨w.heap.size,8,none⟩ = some (.int .i64 rf) := hX.cell 8
  have y9 : w0.cell? ⟨w.heap.size,9,none⟩ = some (.int .i64 rn) := hX.cell 9
  have y10 : w0.cell? ⟨w.heap.size,10,none⟩ = some (.int .i64 rs) := hX.cell 10
  have y11 : w0.cell? ⟨w.heap.size,11,none⟩ = some (.int .i64 re) := hX.cell 11
  have y12 : w0.cell? ⟨w.heap.size,12,none⟩ = some (.int .i64 ro) := hX.cell 12
  have lt_y := hX.lt
  go_upto_region 2 with fail
  have hC := Blok.new w0 27 #[.int .i64 id, .int .i64 fr, .int .i64 tn, .int .i64 st, .int .i64 en, .int .i64 rt]
  have hb : Below w0.heap.size w0 (w0.alloc (.cells #[.int .i64 id, .int .i64 fr, .int .i64 tn, .int .i64 st, .int .i64 en, .int .i64 rt] 27)) := by (repeat (first | exact Below.refl _ _ | refine Below.alloc ?_ (by first | omega | (simp; done) | (simp; omega)) _ | refine Below.setCell ?_ (by first | omega | (simp; done) | (simp; omega)) _ | refine Below.drew ?_))
  clear y0 y1 y2 y3 y4 y5 y6 y7 y8 y9 y10 y11 y12 lt_y
  replace hX := hX.below hb hX.lt
  replace hB := hB.trans (hb.mono hs)
  replace hs := hB.size
  clear hb
  generalize w0.alloc (.cells #[.int .i64 id, .int .i64 fr, .int .i64 tn, .int .i64 st, .int .i64 en, .int .i64 rt] 27) = w1 at *
  generalize hzz : w0.heap.size = b1 at *
  clear hzz
  have y0 : w1.cell? ⟨w.heap.size,0,none⟩ = some (.int .i64 1) := hX.cell 0
  have y1 : w1.cell? ⟨w.heap.size,1,none⟩ = some (.int .i64 1) := hX.cell 1
  have y2 : w1.cell? ⟨w.heap.size,2,none⟩ = some (.int .i64 id) := hX.cell 2
  have y3 : w1.cell? ⟨w.heap.size,3,none⟩ = some (.int .i64 fr) := hX.cell 3
  have y4 : w1.cell? ⟨w.heap.size,4,none⟩ = some (.int .i64 tn) := hX.cell 4
  have y5 : w1.cell? ⟨w.heap.size,5,none⟩ = some (.int .i64 st) := hX.cell 5
  have y6 : w1.cell? ⟨w.heap.size,6,none⟩ = some (.int .i64 en) := hX.cell 6
  have y7 : w1.cell? ⟨w.heap.size,7,none⟩ = some (.int .i64 rt) := hX.cell 7
  have y8 : w1.cell? ⟨w.heap.size,8,none⟩ = some (.int .i64 rf) := hX.cell 8
  have y9 : w1.cell? ⟨w.heap.size,9,none⟩ = some (.int .i64 rn) := hX.cell 9
  have y10 : w1.cell? ⟨w.heap.size,10,none⟩ = some (.int .i64 rs) := hX.cell 10
  have y11 : w1.cell? ⟨w.heap.size,11,none⟩ = some (.int .i64 re) := hX.cell 11
  have y12 : w1.cell? ⟨w.heap.size,12,none⟩ = some (.int .i64 ro) := hX.cell 12
  have lt_y := hX.lt
  go_upto_region 3 with fail
  have hR := Blok.new w1 29 #[.int .i64 rf, .int .i64 rn, .int .i64 rs, .int .i64 re, .int .i64 ro]
  have hb : Below w1.heap.size w1 (w1.alloc (.cells #[.int .i64 rf, .int .i64 rn, .int .i64 rs, .int .i64 re, .int .i64 ro] 29)) := by (repeat (first | exact Below.refl _ _ | refine Below.alloc ?_ (by first | omega | (simp; done) | (simp; omega)) _ | refine Below.setCell ?_ (by first | omega | (simp; done) | (simp; omega)) _ | refine Below.drew ?_))
  clear y0 y1 y2 y3 y4 y5 y6 y7 y8 y9 y10 y11 y12 lt_y
  replace hX := hX.below hb hX.lt
  replace hC := hC.below hb hC.lt
  replace hB := hB.trans (hb.mono hs)
  replace hs := hB.size
  clear hb
  generalize w1.alloc (.cells #[.int .i64 rf, .int .i64 rn, .int .i64 rs, .int .i64 re, .int .i64 ro] 29) = w2 at *
  generalize hzz : w1.heap.size = b2 at *
  clear hzz
  have y0 : w2.cell? ⟨w.heap.size,0,none⟩ = some (.int .i64 1) := hX.cell 0
  have y1 : w2.cell? ⟨w.heap.size,1,none⟩ = some (.int .i64 1) := hX.cell 1
  have lt_y := hX.lt
  have c0 : w2.cell? ⟨b1,0,none⟩ = some (.int .i64 id) := hC.cell 0
  have c1 : w2.cell? ⟨b1,1,none⟩ = some (.int .i64 fr) := hC.cell 1
  have c2 : w2.cell? ⟨b1,2,none⟩ = some (.int .i64 tn) := hC.cell 2
  have c3 : w2.cell? ⟨b1,3,none⟩ = some (.int .i64 st) := hC.cell 3
  have c4 : w2.cell? ⟨b1,4,none⟩ = some (.int .i64 en) := hC.cell 4
  have c5 : w2.cell? ⟨b1,5,none⟩ = some (.int .i64 rt) := hC.cell 5
  have lt_c := hC.lt
  have r0 : w2.cell? ⟨b2,0,none⟩ = some (.int .i64 rf) := hR.cell 0
  have r1 : w2.cell? ⟨b2,1,none⟩ = some (.int .i64 rn) := hR.cell 1
  have r2 : w2.cell? ⟨b2,2,none⟩ = some (.int .i64 rs) := hR.cell 2
  have r3 : w2.cell? ⟨b2,3,none⟩ = some (.int .i64 re) := hR.cell 3
  have r4 : w2.cell? ⟨b2,4,none⟩ = some (.int .i64 ro) := hR.cell 4
  have lt_r := hR.lt
  clear hX hC hR
  go_wp2_with fail
  have ho := own_lit w2 w.heap.size 3 1 6 #[.int .i64 id, .int .i64 fr, .int .i64 tn, .int .i64 st, .int .i64 en, .int .i64 rt] hs rfl (by simp [maxLen])
  go_ret
  exact ⟨_,rfl,ho,hB.alloc hs _⟩
set_option maxHeartbeats 8000000 in
set_option maxRecDepth 100000 in
theorem rnums_21 (id fr tn st en rt rf rn rs re ro : Int) (w : World) : Calls Tryd.prog 69 #[.agg #[.int .i64 2, .int .i64 1, .int .i64 id, .int .i64 fr, .int .i64 tn, .int .i64 st, .int .i64 en, .int .i64 rt, .int .i64 rf, .int .i64 rn, .int .i64 rs, .int .i64 re, .int .i64 ro]] w fun e w' => ∃ v,e = .returned v ∧ w'.ownsRow w.heap.size 3 1 v 1 ([id].map (Value.int .i64)) ∧ Below w.heap.size w w' := by
  have hX := Blok.new w 31 #[.int .i64 2, .int .i64 1, .int .i64 id, .int .i64 fr, .int .i64 tn, .int .i64 st, .int .i64 en, .int .i64 rt, .int .i64 rf, .int .i64 rn, .int .i64 rs, .int .i64 re, .int .i64 ro]
  have hB : Below w.heap.size w (w.alloc (.cells #[.int .i64 2, .int .i64 1, .int .i64 id, .int .i64 fr, .int .i64 tn, .int .i64 st, .int .i64 en, .int .i64 rt, .int .i64 rf, .int .i64 rn, .int .i64 rs, .int .i64 re, .int .i64 ro] 31)) := by (repeat (first | exact Below.refl _ _ | refine Below.alloc ?_ (by first | omega | (simp; done) | (simp; omega)) _ | refine Below.setCell ?_ (by first | omega | (simp; done) | (simp; omega)) _ | refine Below.drew ?_))
  have hs := hB.size
  go_enter Tryd.func69,Tryd.ntmps69
  go_upto_region 1 with fail
  generalize w.alloc (.cells #[.int .i64 2, .int .i64 1, .int .i64 id, .int .i64 fr, .int .i64 tn, .int .i64 st, .int .i64 en, .int .i64 rt, .int .i64 rf, .int .i64 rn, .int .i64 rs, .int .i64 re, .int .i64 ro] 31) = w0 at *
  have y0 : w0.cell? ⟨w.heap.size,0,none⟩ = some (.int .i64 2) := hX.cell 0
  have y1 : w0.cell? ⟨w.heap.size,1,none⟩ = some (.int .i64 1) := hX.cell 1
  have y2 : w0.cell? ⟨w.heap.size,2,none⟩ = some (.int .i64 id) := hX.cell 2
  have y3 : w0.cell? ⟨w.heap.size,3,none⟩ = some (.int .i64 fr) := hX.cell 3
  have y4 : w0.cell? ⟨w.heap.size,4,none⟩ = some (.int .i64 tn) := hX.cell 4
  have y5 : w0.cell? ⟨w.heap.size,5,none⟩ = some (.int .i64 st) := hX.cell 5
  have y6 : w0.cell? ⟨w.heap.size,6,none⟩ = some (.int .i64 en) := hX.cell 6
  have y7 : w0.cell? ⟨w.heap.size,7,none⟩ = some (.int .i64 rt) := hX.cell 7
  have y8 : w0.cell? ⟨w.heap.size,8,none⟩ = some (.int .i64 rf) := hX.cell 8
  have y9 : w0.cell? ⟨w.heap.size,9,none⟩ = some (.int .i64 rn) := hX.cell 9
  have y10 : w0.cell? ⟨w.heap.size,10,none⟩ = some (.int .i64 rs) := hX.cell 10
  have y11 : w0.cell? ⟨w.heap.size,11,none⟩ = some (.int .i64 re) := hX.cell 11
  have y12 : w0.cell? ⟨w.heap.size,12,none⟩ = some (.int .i64 ro) := hX.cell 12
  have lt_y := hX.lt
  go_upto_region 2 with fail
  have hC := Blok.new w0 27 #[.int .i64 id, .int .i64 fr, .int .i64 tn, .int .i64 st, .int .i64 en, .int .i64 rt]
  have hb : Below w0.heap.size w0 (w0.alloc (.cells #[.int .i64 id, .int .i64 fr, .int .i64 tn, .int .i64 st, .int .i64 en, .int .i64 rt] 27)) := by (repeat (first | exact Below.refl _ _ | refine Below.alloc ?_ (by first | omega | (simp; done) | (simp; omega)) _ | refine Below.setCell ?_ (by first | omega | (simp; done) | (simp; omega)) _ | refine Below.drew ?_))
  clear y0 y1 y2 y3 y4 y5 y6 y7 y8 y9 y10 y11 y12 lt_y
  replace hX := hX.below hb hX.lt
  replace hB := hB.trans (hb.mono hs)
  replace hs := hB.size
  clear hb
  generalize w0.alloc (.cells #[.int .i64 id, .int .i64 fr, .int .i64 tn, .int .i64 st, .int .i64 en, .int .i64 rt] 27) = w1 at *
  generalize hzz : w0.heap.size = b1 at *
  clear hzz
  have y0 : w1.cell? ⟨w.heap.size,0,none⟩ = some (.int .i64 2) := hX.cell 0
  have y1 : w1.cell? ⟨w.heap.size,1,none⟩ = some (.int .i64 1) := hX.cell 1
  have y2 : w1.cell? ⟨w.heap.size,2,none⟩ = some (.int .i64 id) := hX.cell 2
  have y3 : w1.cell? ⟨w.heap.size,3,none⟩ = some (.int .i64 fr) := hX.cell 3
  have y4 : w1.cell? ⟨w.heap.size,4,none⟩ = some (.int .i64 tn) := hX.cell 4
  have y5 : w1.cell? ⟨w.heap.size,5,none⟩ = some (.int .i64 st) := hX.cell 5
  have y6 : w1.cell? ⟨w.heap.size,6,none⟩ = some (.int .i64 en) := hX.cell 6
  have y7 : w1.cell? ⟨w.heap.size,7,none⟩ = some (.int .i64 rt) := hX.cell 7
  have y8 : w1.cell? ⟨w.heap.size,8,none⟩ = some (.int .i64 rf) := hX.cell 8
  have y9 : w1.cell? ⟨w.heap.size,9,none⟩ = some (.int .i64 rn) := hX.cell 9
  have y10 : w1.cell? ⟨w.heap.size,10,none⟩ = some (.int .i64 rs) := hX.cell 10
  have y11 : w1.cell? ⟨w.heap.size,11,none⟩ = some (.int .i64 re) := hX.cell 11
  have y12 : w1.cell? ⟨w.heap.size,12,none⟩ = some (.int .i64 ro) := hX.cell 12
  have lt_y := hX.lt
  go_upto_region 3 with fail
  have hR := Blok.new w1 29 #[.int .i64 rf, .int .i64 rn, .int .i64 rs, .int .i64 re, .int .i64 ro]
  have hb : Below w1.heap.size w1 (w1.alloc (.cells #[.int .i64 rf, .int .i64 rn, .int .i64 rs, .int .i64 re, .int .i64 ro] 29)) := by (repeat (first | exact Below.refl _ _ | refine Below.alloc ?_ (by first | omega | (simp; done) | (simp; omega)) _ | refine Below.setCell ?_ (by first | omega | (simp; done) | (simp; omega)) _ | refine Below.drew ?_))
  clear y0 y1 y2 y3 y4 y5 y6 y7 y8 y9 y10 y11 y12 lt_y
  replace hX := hX.below hb hX.lt
  replace hC := hC.below hb hC.lt
  replace hB := hB.trans (hb.mono hs)
  replace hs := hB.size
  clear hb
  generalize w1.alloc (.cells #[.int .i64 rf, .int .i64 rn, .int .i64 rs, .int .i64 re, .int .i64 ro] 29) = w2 at *
  generalize hzz : w1.heap.size = b2 at *
  clear hzz
  have y0 : w2.cell? ⟨w.heap.size,0,none⟩ = some (.int .i64 2) := hX.cell 0
  have y1 : w2.cell? ⟨w.heap.size,1,none⟩ = some (.int .i64 1) := hX.cell 1
  have lt_y := hX.lt
  have c0 : w2.cell? ⟨b1,0,none⟩ = some (.int .i64 id) := hC.cell 0
  have c1 : w2.cell? ⟨b1,1,none⟩ = some (.int .i64 fr) := hC.cell 1
  have c2 : w2.cell? ⟨b1,2,none⟩ = some (.int .i64 tn) := hC.cell 2
  have c3 : w2.cell? ⟨b1,3,none⟩ = some (.int .i64 st) := hC.cell 3
  have c4 : w2.cell? ⟨b1,4,none⟩ = some (.int .i64 en) := hC.cell 4
  have c5 : w2.cell? ⟨b1,5,none⟩ = some (.int .i64 rt) := hC.cell 5
  have lt_c := hC.lt
  have r0 : w2.cell? ⟨b2,0,none⟩ = some (.int .i64 rf) := hR.cell 0
  have r1 : w2.cell? ⟨b2,1,none⟩ = some (.int .i64 rn) := hR.cell 1
  have r2 : w2.cell? ⟨b2,2,none⟩ = some (.int .i64 rs) := hR.cell 2
  have r3 : w2.cell? ⟨b2,3,none⟩ = some (.int .i64 re) := hR.cell 3
  have r4 : w2.cell? ⟨b2,4,none⟩ = some (.int .i64 ro) := hR.cell 4
  have lt_r := hR.lt
  clear hX hC hR
  go_wp2_with fail
  have ho := own_lit w2 w.heap.size 3 1 1 #[.int .i64 id] hs rfl (by simp [maxLen])
  go_ret
  exact ⟨_,rfl,ho,hB.alloc hs _⟩
set_option maxHeartbeats 8000000 in
set_option maxRecDepth 100000 in
theorem rnums_31 (id fr tn st en rt rf rn rs re ro : Int) (w : World) : Calls Tryd.prog 69 #[.agg #[.int .i64 3, .int .i64 1, .int .i64 id, .int .i64 fr, .int .i64 tn, .int .i64 st, .int .i64 en, .int .i64 rt, .int .i64 rf, .int .i64 rn, .int .i64 rs, .int .i64 re, .int .i64 ro]] w fun e w' => ∃ v,e = .returned v ∧ w'.ownsRow w.heap.size 3 1 v 2 ([id,rt].map (Value.int .i64)) ∧ Below w.heap.size w w' := by
  have hX := Blok.new w 31 #[.int .i64 3, .int .i64 1, .int .i64 id, .int .i64 fr, .int .i64 tn, .int .i64 st, .int .i64 en, .int .i64 rt, .int .i64 rf, .int .i64 rn, .int .i64 rs, .int .i64 re, .int .i64 ro]
  have hB : Below w.heap.size w (w.alloc (.cells #[.int .i64 3, .int .i64 1, .int .i64 id, .int .i64 fr, .int .i64 tn, .int .i64 st, .int .i64 en, .int .i64 rt, .int .i64 rf, .int .i64 rn, .int .i64 rs, .int .i64 re, .int .i64 ro] 31)) := by (repeat (first | exact Below.refl _ _ | refine Below.alloc ?_ (by first | omega | (simp; done) | (simp; omega)) _ | refine Below.setCell ?_ (by first | omega | (simp; done) | (simp; omega)) _ | refine Below.drew ?_))
  have hs := hB.size
  go_enter Tryd.func69,Tryd.ntmps69
  go_upto_region 1 with fail
  generalize w.alloc (.cells #[.int .i64 3, .int .i64 1, .int .i64 id, .int .i64 fr, .int .i64 tn, .int .i64 st, .int .i64 en, .int .i64 rt, .int .i64 rf, .int .i64 rn, .int .i64 rs, .int .i64 re, .int .i64 ro] 31) = w0 at *
  have y0 : w0.cell? ⟨w.heap.size,0,none⟩ = some (.int .i64 3) := hX.cell 0
  have y1 : w0.cell? ⟨w.heap.size,1,none⟩ = some (.int .i64 1) := hX.cell 1
  have y2 : w0.cell? ⟨w.heap.size,2,none⟩ = some (.int .i64 id) := hX.cell 2
  have y3 : w0.cell? ⟨w.heap.size,3,none⟩ = some (.int .i64 fr) := hX.cell 3
  have y4 : w0.cell? ⟨w.heap.size,4,none⟩ = some (.int .i64 tn) := hX.cell 4
  have y5 : w0.cell? ⟨w.heap.size,5,none⟩ = some (.int .i64 st) := hX.cell 5
  have y6 : w0.cell? ⟨w.heap.size,6,none⟩ = some (.int .i64 en) := hX.cell 6
  have y7 : w0.cell? ⟨w.heap.size,7,none⟩ = some (.int .i64 rt) := hX.cell 7
  have y8 : w0.cell? ⟨w.heap.size,8,none⟩ = some (.int .i64 rf) := hX.cell 8
  have y9 : w0.cell? ⟨w.heap.size,9,none⟩ = some (.int .i64 rn) := hX.cell 9
  have y10 : w0.cell? ⟨w.heap.size,10,none⟩ = some (.int .i64 rs) := hX.cell 10
  have y11 : w0.cell? ⟨w.heap.size,11,none⟩ = some (.int .i64 re) := hX.cell 11
  have y12 : w0.cell? ⟨w.heap.size,12,none⟩ = some (.int .i64 ro) := hX.cell 12
  have lt_y := hX.lt
  go_upto_region 2 with fail
  have hC := Blok.new w0 27 #[.int .i64 id, .int .i64 fr, .int .i64 tn, .int .i64 st, .int .i64 en, .int .i64 rt]
  have hb : Below w0.heap.size w0 (w0.alloc (.cells #[.int .i64 id, .int .i64 fr, .int .i64 tn, .int .i64 st, .int .i64 en, .int .i64 rt] 27)) := by (repeat (first | exact Below.refl _ _ | refine Below.alloc ?_ (by first | omega | (simp; done) | (simp; omega)) _ | refine Below.setCell ?_ (by first | omega | (simp; done) | (simp; omega)) _ | refine Below.drew ?_))
  clear y0 y1 y2 y3 y4 y5 y6 y7 y8 y9 y10 y11 y12 lt_y
  replace hX := hX.below hb hX.lt
  replace hB := hB.trans (hb.mono hs)
  replace hs := hB.size
  clear hb
  generalize w0.alloc (.cells #[.int .i64 id, .int .i64 fr, .int .i64 tn, .int .i64 st, .int .i64 en, .int .i64 rt] 27) = w1 at *
  generalize hzz : w0.heap.size = b1 at *
  clear hzz
  have y0 : w1.cell? ⟨w.heap.size,0,none⟩ = some (.int .i64 3) := hX.cell 0
  have y1 : w1.cell? ⟨w.heap.size,1,none⟩ = some (.int .i64 1) := hX.cell 1
  have y2 : w1.cell? ⟨w.heap.size,2,none⟩ = some (.int .i64 id) := hX.cell 2
  have y3 : w1.cell? ⟨w.heap.size,3,none⟩ = some (.int .i64 fr) := hX.cell 3
  have y4 : w1.cell? ⟨w.heap.size,4,none⟩ = some (.int .i64 tn) := hX.cell 4
  have y5 : w1.cell? ⟨w.heap.size,5,none⟩ = some (.int .i64 st) := hX.cell 5
  have y6 : w1.cell? ⟨w.heap.size,6,none⟩ = some (.int .i64 en) := hX.cell 6
  have y7 : w1.cell? ⟨w.heap.size,7,none⟩ = some (.int .i64 rt) := hX.cell 7
  have y8 : w1.cell? ⟨w.heap.size,8,none⟩ = some (.int .i64 rf) := hX.cell 8
  have y9 : w1.cell? ⟨w.heap.size,9,none⟩ = some (.int .i64 rn) := hX.cell 9
  have y10 : w1.cell? ⟨w.heap.size,10,none⟩ = some (.int .i64 rs) := hX.cell 10
  have y11 : w1.cell? ⟨w.heap.size,11,none⟩ = some (.int .i64 re) := hX.cell 11
  have y12 : w1.cell? ⟨w.heap.size,12,none⟩ = some (.int .i64 ro) := hX.cell 12
  have lt_y := hX.lt
  go_upto_region 3 with fail
  have hR := Blok.new w1 29 #[.int .i64 rf, .int .i64 rn, .int .i64 rs, .int .i64 re, .int .i64 ro]
  have hb : Below w1.heap.size w1 (w1.alloc (.cells #[.int .i64 rf, .int .i64 rn, .int .i64 rs, .int .i64 re, .int .i64 ro] 29)) := by (repeat (first | exact Below.refl _ _ | refine Below.alloc ?_ (by first | omega | (simp; done) | (simp; omega)) _ | refine Below.setCell ?_ (by first | omega | (simp; done) | (simp; omega)) _ | refine Below.drew ?_))
  clear y0 y1 y2 y3 y4 y5 y6 y7 y8 y9 y10 y11 y12 lt_y
  replace hX := hX.below hb hX.lt
  replace hC := hC.below hb hC.lt
  replace hB := hB.trans (hb.mono hs)
  replace hs := hB.size
  clear hb
  generalize w1.alloc (.cells #[.int .i64 rf, .int .i64 rn, .int .i64 rs, .int .i64 re, .int .i64 ro] 29) = w2 at *
  generalize hzz : w1.heap.size = b2 at *
  clear hzz
  have y0 : w2.cell? ⟨w.heap.size,0,none⟩ = some (.int .i64 3) := hX.cell 0
  have y1 : w2.cell? ⟨w.heap.size,1,none⟩ = some (.int .i64 1) := hX.cell 1
  have lt_y := hX.lt
  have c0 : w2.cell? ⟨b1,0,none⟩ = some (.int .i64 id) := hC.cell 0
  have c1 : w2.cell? ⟨b1,1,none⟩ = some (.int .i64 fr) := hC.cell 1
  have c2 : w2.cell? ⟨b1,2,none⟩ = some (.int .i64 tn) := hC.cell 2
  have c3 : w2.cell? ⟨b1,3,none⟩ = some (.int .i64 st) := hC.cell 3
  have c4 : w2.cell? ⟨b1,4,none⟩ = some (.int .i64 en) := hC.cell 4
  have c5 : w2.cell? ⟨b1,5,none⟩ = some (.int .i64 rt) := hC.cell 5
  have lt_c := hC.lt
  have r0 : w2.cell? ⟨b2,0,none⟩ = some (.int .i64 rf) := hR.cell 0
  have r1 : w2.cell? ⟨b2,1,none⟩ = some (.int .i64 rn) := hR.cell 1
  have r2 : w2.cell? ⟨b2,2,none⟩ = some (.int .i64 rs) := hR.cell 2
  have r3 : w2.cell? ⟨b2,3,none⟩ = some (.int .i64 re) := hR.cell 3
  have r4 : w2.cell? ⟨b2,4,none⟩ = some (.int .i64 ro) := hR.cell 4
  have lt_r := hR.lt
  clear hX hC hR
  go_wp2_with fail
  have ho := own_lit w2 w.heap.size 3 1 2 #[.int .i64 id, .int .i64 rt] hs rfl (by simp [maxLen])
  go_ret
  exact ⟨_,rfl,ho,hB.alloc hs _⟩
set_option maxHeartbeats 8000000 in
set_option maxRecDepth 100000 in
theorem rnums_12 (id fr tn st en rt rf rn rs re ro : Int) (w : World) : Calls Tryd.prog 69 #[.agg #[.int .i64 1, .int .i64 2, .int .i64 id, .int .i64 fr, .int .i64 tn, .int .i64 st, .int .i64 en, .int .i64 rt, .int .i64 rf, .int .i64 rn, .int .i64 rs, .int .i64 re, .int .i64 ro]] w fun e w' => ∃ v,e = .returned v ∧ w'.ownsRow w.heap.size 3 1 v 5 ([rf,rn,rs,re,ro].map (Value.int .i64)) ∧ Below w.heap.size w w' := by
  have hX := Blok.new w 31 #[.int .i64 1, .int .i64 2, .int .i64 id, .int .i64 fr, .int .i64 tn, .int .i64 st, .int .i64 en, .int .i64 rt, .int .i64 rf, .int .i64 rn, .int .i64 rs, .int .i64 re, .int .i64 ro]
  have hB : Below w.heap.size w (w.alloc (.cells #[.int .i64 1, .int .i64 2, .int .i64 id, .int .i64 fr, .int .i64 tn, .int .i64 st, .int .i64 en, .int .i64 rt, .int .i64 rf, .int .i64 rn, .int .i64 rs, .int .i64 re, .int .i64 ro] 31)) := by (repeat (first | exact Below.refl _ _ | refine Below.alloc ?_ (by first | omega | (simp; done) | (simp; omega)) _ | refine Below.setCell ?_ (by first | omega | (simp; done) | (simp; omega)) _ | refine Below.drew ?_))
  have hs := hB.size
  go_enter Tryd.func69,Tryd.ntmps69
  go_upto_region 1 with fail
  generalize w.alloc (.cells #[.int .i64 1, .int .i64 2, .int .i64 id, .int .i64 fr, .int .i64 tn, .int .i64 st, .int .i64 en, .int .i64 rt, .int .i64 rf, .int .i64 rn, .int .i64 rs, .int .i64 re, .int .i64 ro] 31) = w0 at *
  have y0 : w0.cell? ⟨w.heap.size,0,none⟩ = some (.int .i64 1) := hX.cell 0
  have y1 : w0.cell? ⟨w.heap.size,1,none⟩ = some (.int .i64 2) := hX.cell 1
  have y2 : w0.cell? ⟨w.heap.size,2,none⟩ = some (.int .i64 id) := hX.cell 2
  have y3 : w0.cell? ⟨w.heap.size,3,none⟩ = some (.int .i64 fr) := hX.cell 3
  have y4 : w0.cell? ⟨w.heap.size,4,none⟩ = some (.int .i64 tn) := hX.cell 4
  have y5 : w0.cell? ⟨w.heap.size,5,none⟩ = some (.int .i64 st) := hX.cell 5
  have y6 : w0.cell? ⟨w.heap.size,6,none⟩ = some (.int .i64 en) := hX.cell 6
  have y7 : w0.cell? ⟨w.heap.size,7,none⟩ = some (.int .i64 rt) := hX.cell 7
  have y8 : w0.cell? ⟨w.heap.size,8,none⟩ = some (.int .i64 rf) := hX.cell 8
  have y9 : w0.cell? ⟨w.heap.size,9,none⟩ = some (.int .i64 rn) := hX.cell 9
  have y10 : w0.cell? ⟨w.heap.size,10,none⟩ = some (.int .i64 rs) := hX.cell 10
  have y11 : w0.cell? ⟨w.heap.size,11,none⟩ = some (.int .i64 re) := hX.cell 11
  have y12 : w0.cell? ⟨w.heap.size,12,none⟩ = some (.int .i64 ro) := hX.cell 12
  have lt_y := hX.lt
  go_upto_region 2 with fail
  have hC := Blok.new w0 27 #[.int .i64 id, .int .i64 fr, .int .i64 tn, .int .i64 st, .int .i64 en, .int .i64 rt]
  have hb : Below w0.heap.size w0 (w0.alloc (.cells #[.int .i64 id, .int .i64 fr, .int .i64 tn, .int .i64 st, .int .i64 en, .int .i64 rt] 27)) := by (repeat (first | exact Below.refl _ _ | refine Below.alloc ?_ (by first | omega | (simp; done) | (simp; omega)) _ | refine Below.setCell ?_ (by first | omega | (simp; done) | (simp; omega)) _ | refine Below.drew ?_))
  clear y0 y1 y2 y3 y4 y5 y6 y7 y8 y9 y10 y11 y12 lt_y
  replace hX := hX.below hb hX.lt
  replace hB := hB.trans (hb.mono hs)
  replace hs := hB.size
  clear hb
  generalize w0.alloc (.cells #[.int .i64 id, .int .i64 fr, .int .i64 tn, .int .i64 st, .int .i64 en, .int .i64 rt] 27) = w1 at *
  generalize hzz : w0.heap.size = b1 at *
  clear hzz
  have y0 : w1.cell? ⟨w.heap.size,0,none⟩ = some (.int .i64 1) := hX.cell 0
  have y1 : w1.cell? ⟨w.heap.size,1,none⟩ = some (.int .i64 2) := hX.cell 1
  have y2 : w1.cell? ⟨w.heap.size,2,none⟩ = some (.int .i64 id) := hX.cell 2
  have y3 : w1.cell? ⟨w.heap.size,3,none⟩ = some (.int .i64 fr) := hX.cell 3
  have y4 : w1.cell? ⟨w.heap.size,4,none⟩ = some (.int .i64 tn) := hX.cell 4
  have y5 : w1.cell? ⟨w.heap.size,5,none⟩ = some (.int .i64 st) := hX.cell 5
  have y6 : w1.cell? ⟨w.heap.size,6,none⟩ = some (.int .i64 en) := hX.cell 6
  have y7 : w1.cell? ⟨w.heap.size,7,none⟩ = some (.int .i64 rt) := hX.cell 7
  have y8 : w1.cell? ⟨w.heap.size,8,none⟩ = some (.int .i64 rf) := hX.cell 8
  have y9 : w1.cell? ⟨w.heap.size,9,none⟩ = some (.int .i64 rn) := hX.cell 9
  have y10 : w1.cell? ⟨w.heap.size,10,none⟩ = some (.int .i64 rs) := hX.cell 10
  have y11 : w1.cell? ⟨w.heap.size,11,none⟩ = some (.int .i64 re) := hX.cell 11
  have y12 : w1.cell? ⟨w.heap.size,12,none⟩ = some (.int .i64 ro) := hX.cell 12
  have lt_y := hX.lt
  go_upto_region 3 with fail
  have hR := Blok.new w1 29 #[.int .i64 rf, .int .i64 rn, .int .i64 rs, .int .i64 re, .int .i64 ro]
  have hb : Below w1.heap.size w1 (w1.alloc (.cells #[.int .i64 rf, .int .i64 rn, .int .i64 rs, .int .i64 re, .int .i64 ro] 29)) := by (repeat (first | exact Below.refl _ _ | refine Below.alloc ?_ (by first | omega | (simp; done) | (simp; omega)) _ | refine Below.setCell ?_ (by first | omega | (simp; done) | (simp; omega)) _ | refine Below.drew ?_))
  clear y0 y1 y2 y3 y4 y5 y6 y7 y8 y9 y10 y11 y12 lt_y
  replace hX := hX.below hb hX.lt
  replace hC := hC.below hb hC.lt
  replace hB := hB.trans (hb.mono hs)
  replace hs := hB.size
  clear hb
  generalize w1.alloc (.cells #[.int .i64 rf, .int .i64 rn, .int .i64 rs, .int .i64 re, .int .i64 ro] 29) = w2 at *
  generalize hzz : w1.heap.size = b2 at *
  clear hzz
  have y0 : w2.cell? ⟨w.heap.size,0,none⟩ = some (.int .i64 1) := hX.cell 0
  have y1 : w2.cell? ⟨w.heap.size,1,none⟩ = some (.int .i64 2) := hX.cell 1
  have lt_y := hX.lt
  have c0 : w2.cell? ⟨b1,0,none⟩ = some (.int .i64 id) := hC.cell 0
  have c1 : w2.cell? ⟨b1,1,none⟩ = some (.int .i64 fr) := hC.cell 1
  have c2 : w2.cell? ⟨b1,2,none⟩ = some (.int .i64 tn) := hC.cell 2
  have c3 : w2.cell? ⟨b1,3,none⟩ = some (.int .i64 st) := hC.cell 3
  have c4 : w2.cell? ⟨b1,4,none⟩ = some (.int .i64 en) := hC.cell 4
  have c5 : w2.cell? ⟨b1,5,none⟩ = some (.int .i64 rt) := hC.cell 5
  have lt_c := hC.lt
  have r0 : w2.cell? ⟨b2,0,none⟩ = some (.int .i64 rf) := hR.cell 0
  have r1 : w2.cell? ⟨b2,1,none⟩ = some (.int .i64 rn) := hR.cell 1
  have r2 : w2.cell? ⟨b2,2,none⟩ = some (.int .i64 rs) := hR.cell 2
  have r3 : w2.cell? ⟨b2,3,none⟩ = some (.int .i64 re) := hR.cell 3
  have r4 : w2.cell? ⟨b2,4,none⟩ = some (.int .i64 ro) := hR.cell 4
  have lt_r := hR.lt
  clear hX hC hR
  go_wp2_with fail
  have ho := own_lit w2 w.heap.size 3 1 5 #[.int .i64 rf, .int .i64 rn, .int .i64 rs, .int .i64 re, .int .i64 ro] hs rfl (by simp [maxLen])
  go_ret
  exact ⟨_,rfl,ho,hB.alloc hs _⟩
set_option maxHeartbeats 8000000 in
set_option maxRecDepth 100000 in
theorem rnums_22 (id fr tn st en rt rf rn rs re ro : Int) (w : World) : Calls Tryd.prog 69 #[.agg #[.int .i64 2, .int .i64 2, .int .i64 id, .int .i64 fr, .int .i64 tn, .int .i64 st, .int .i64 en, .int .i64 rt, .int .i64 rf, .int .i64 rn, .int .i64 rs, .int .i64 re, .int .i64 ro]] w fun e w' => ∃ v,e = .returned v ∧ w'.ownsRow w.heap.size 3 1 v 3 ([rf,rn,rs].map (Value.int .i64)) ∧ Below w.heap.size w w' := by
  have hX := Blok.new w 31 #[.int .i64 2, .int .i64 2, .int .i64 id, .int .i64 fr, .int .i64 tn, .int .i64 st, .int .i64 en, .int .i64 rt, .int .i64 rf, .int .i64 rn, .int .i64 rs, .int .i64 re, .int .i64 ro]
  have hB : Below w.heap.size w (w.alloc (.cells #[.int .i64 2, .int .i64 2, .int .i64 id, .int .i64 fr, .int .i64 tn, .int .i64 st, .int .i64 en, .int .i64 rt, .int .i64 rf, .int .i64 rn, .int .i64 rs, .int .i64 re, .int .i64 ro] 31)) := by (repeat (first | exact Below.refl _ _ | refine Below.alloc ?_ (by first | omega | (simp; done) | (simp; omega)) _ | refine Below.setCell ?_ (by first | omega | (simp; done) | (simp; omega)) _ | refine Below.drew ?_))
  have hs := hB.size
  go_enter Tryd.func69,Tryd.ntmps69
  go_upto_region 1 with fail
  generalize w.alloc (.cells #[.int .i64 2, .int .i64 2, .int .i64 id, .int .i64 fr, .int .i64 tn, .int .i64 st, .int .i64 en, .int .i64 rt, .int .i64 rf, .int .i64 rn, .int .i64 rs, .int .i64 re, .int .i64 ro] 31) = w0 at *
  have y0 : w0.cell? ⟨w.heap.size,0,none⟩ = some (.int .i64 2) := hX.cell 0
  have y1 : w0.cell? ⟨w.heap.size,1,none⟩ = some (.int .i64 2) := hX.cell 1
  have y2 : w0.cell? ⟨w.heap.size,2,none⟩ = some (.int .i64 id) := hX.cell 2
  have y3 : w0.cell? ⟨w.heap.size,3,none⟩ = some (.int .i64 fr) := hX.cell 3
  have y4 : w0.cell? ⟨w.heap.size,4,none⟩ = some (.int .i64 tn) := hX.cell 4
  have y5 : w0.cell? ⟨w.heap.size,5,none⟩ = some (.int .i64 st) := hX.cell 5
  have y6 : w0.cell? ⟨w.heap.size,6,none⟩ = some (.int .i64 en) := hX.cell 6
  have y7 : w0.cell? ⟨w.heap.size,7,none⟩ = some (.int .i64 rt) := hX.cell 7
  have y8 : w0.cell? ⟨w.heap.size,8,none⟩ = some (.int .i64 rf) := hX.cell 8
  have y9 : w0.cell? ⟨w.heap.size,9,none⟩ = some (.int .i64 rn) := hX.cell 9
  have y10 : w0.cell? ⟨w.heap.size,10,none⟩ = some (.int .i64 rs) := hX.cell 10
  have y11 : w0.cell? ⟨w.heap.size,11,none⟩ = some (.int .i64 re) := hX.cell 11
  have y12 : w0.cell? ⟨w.heap.size,12,none⟩ = some (.int .i64 ro) := hX.cell 12
  have lt_y := hX.lt
  go_upto_region 2 with fail
  have hC := Blok.new w0 27 #[.int .i64 id, .int .i64 fr, .int .i64 tn, .int .i64 st, .int .i64 en, .int .i64 rt]
  have hb : Below w0.heap.size w0 (w0.alloc (.cells #[.int .i64 id, .int .i64 fr, .int .i64 tn, .int .i64 st, .int .i64 en, .int .i64 rt] 27)) := by (repeat (first | exact Below.refl _ _ | refine Below.alloc ?_ (by first | omega | (simp; done) | (simp; omega)) _ | refine Below.setCell ?_ (by first | omega | (simp; done) | (simp; omega)) _ | refine Below.drew ?_))
  clear y0 y1 y2 y3 y4 y5 y6 y7 y8 y9 y10 y11 y12 lt_y
  replace hX := hX.below hb hX.lt
  replace hB := hB.trans (hb.mono hs)
  replace hs := hB.size
  clear hb
  generalize w0.alloc (.cells #[.int .i64 id, .int .i64 fr, .int .i64 tn, .int .i64 st, .int .i64 en, .int .i64 rt] 27) = w1 at *
  generalize hzz : w0.heap.size = b1 at *
  clear hzz
  have y0 : w1.cell? ⟨w.heap.size,0,none⟩ = some (.int .i64 2) := hX.cell 0
  have y1 : w1.cell? ⟨w.heap.size,1,none⟩ = some (.int .i64 2) := hX.cell 1
  have y2 : w1.cell? ⟨w.heap.size,2,none⟩ = some (.int .i64 id) := hX.cell 2
  have y3 : w1.cell? ⟨w.heap.size,3,none⟩ = some (.int .i64 fr) := hX.cell 3
  have y4 : w1.cell? ⟨w.heap.size,4,none⟩ = some (.int .i64 tn) := hX.cell 4
  have y5 : w1.cell? ⟨w.heap.size,5,none⟩ = some (.int .i64 st) := hX.cell 5
  have y6 : w1.cell? ⟨w.heap.size,6,none⟩ = some (.int .i64 en) := hX.cell 6
  have y7 : w1.cell? ⟨w.heap.size,7,none⟩ = some (.int .i64 rt) := hX.cell 7
  have y8 : w1.cell? ⟨w.heap.size,8,none⟩ = some (.int .i64 rf) := hX.cell 8
  have y9 : w1.cell? ⟨w.heap.size,9,none⟩ = some (.int .i64 rn) := hX.cell 9
  have y10 : w1.cell? ⟨w.heap.size,10,none⟩ = some (.int .i64 rs) := hX.cell 10
  have y11 : w1.cell? ⟨w.heap.size,11,none⟩ = some (.int .i64 re) := hX.cell 11
  have y12 : w1.cell? ⟨w.heap.size,12,none⟩ = some (.int .i64 ro) := hX.cell 12
  have lt_y := hX.lt
  go_upto_region 3 with fail
  have hR := Blok.new w1 29 #[.int .i64 rf, .int .i64 rn, .int .i64 rs, .int .i64 re, .int .i64 ro]
  have hb : Below w1.heap.size w1 (w1.alloc (.cells #[.int .i64 rf, .int .i64 rn, .int .i64 rs, .int .i64 re, .int .i64 ro] 29)) := by (repeat (first | exact Below.refl _ _ | refine Below.alloc ?_ (by first | omega | (simp; done) | (simp; omega)) _ | refine Below.setCell ?_ (by first | omega | (simp; done) | (simp; omega)) _ | refine Below.drew ?_))
  clear y0 y1 y2 y3 y4 y5 y6 y7 y8 y9 y10 y11 y12 lt_y
  replace hX := hX.below hb hX.lt
  replace hC := hC.below hb hC.lt
  replace hB := hB.trans (hb.mono hs)
  replace hs := hB.size
  clear hb
  generalize w1.alloc (.cells #[.int .i64 rf, .int .i64 rn, .int .i64 rs, .int .i64 re, .int .i64 ro] 29) = w2 at *
  generalize hzz : w1.heap.size = b2 at *
  clear hzz
  have y0 : w2.cell? ⟨w.heap.size,0,none⟩ = some (.int .i64 2) := hX.cell 0
  have y1 : w2.cell? ⟨w.heap.size,1,none⟩ = some (.int .i64 2) := hX.cell 1
  have lt_y := hX.lt
  have c0 : w2.cell? ⟨b1,0,none⟩ = some (.int .i64 id) := hC.cell 0
  have c1 : w2.cell? ⟨b1,1,none⟩ = some (.int .i64 fr) := hC.cell 1
  have c2 : w2.cell? ⟨b1,2,none⟩ = some (.int .i64 tn) := hC.cell 2
  have c3 : w2.cell? ⟨b1,3,none⟩ = some (.int .i64 st) := hC.cell 3
  have c4 : w2.cell? ⟨b1,4,none⟩ = some (.int .i64 en) := hC.cell 4
  have c5 : w2.cell? ⟨b1,5,none⟩ = some (.int .i64 rt) := hC.cell 5
  have lt_c := hC.lt
  have r0 : w2.cell? ⟨b2,0,none⟩ = some (.int .i64 rf) := hR.cell 0
  have r1 : w2.cell? ⟨b2,1,none⟩ = some (.int .i64 rn) := hR.cell 1
  have r2 : w2.cell? ⟨b2,2,none⟩ = some (.int .i64 rs) := hR.cell 2
  have r3 : w2.cell? ⟨b2,3,none⟩ = some (.int .i64 re) := hR.cell 3
  have r4 : w2.cell? ⟨b2,4,none⟩ = some (.int .i64 ro) := hR.cell 4
  have lt_r := hR.lt
  clear hX hC hR
  go_wp2_with fail
  have ho := own_lit w2 w.heap.size 3 1 3 #[.int .i64 rf, .int .i64 rn, .int .i64 rs] hs rfl (by simp [maxLen])
  go_ret
  exact ⟨_,rfl,ho,hB.alloc hs _⟩
set_option maxHeartbeats 8000000 in
set_option maxRecDepth 100000 in
theorem rnums_32 (id fr tn st en rt rf rn rs re ro : Int) (w : World) : Calls Tryd.prog 69 #[.agg #[.int .i64 3, .int .i64 2, .int .i64 id, .int .i64 fr, .int .i64 tn, .int .i64 st, .int .i64 en, .int .i64 rt, .int .i64 rf, .int .i64 rn, .int .i64 rs, .int .i64 re, .int .i64 ro]] w fun e w' => ∃ v,e = .returned v ∧ w'.ownsRow w.heap.size 3 1 v 4 ([rf,rn,rs,ro].map (Value.int .i64)) ∧ Below w.heap.size w w' := by
  have hX := Blok.new w 31 #[.int .i64 3, .int .i64 2, .int .i64 id, .int .i64 fr, .int .i64 tn, .int .i64 st, .int .i64 en, .int .i64 rt, .int .i64 rf, .int .i64 rn, .int .i64 rs, .int .i64 re, .int .i64 ro]
  have hB : Below w.heap.size w (w.alloc (.cells #[.int .i64 3, .int .i64 2, .int .i64 id, .int .i64 fr, .int .i64 tn, .int .i64 st, .int .i64 en, .int .i64 rt, .int .i64 rf, .int .i64 rn, .int .i64 rs, .int .i64 re, .int .i64 ro] 31)) := by (repeat (first | exact Below.refl _ _ | refine Below.alloc ?_ (by first | omega | (simp; done) | (simp; omega)) _ | refine Below.setCell ?_ (by first | omega | (simp; done) | (simp; omega)) _ | refine Below.drew ?_))
  have hs := hB.size
  go_enter Tryd.func69,Tryd.ntmps69
  go_upto_region 1 with fail
  generalize w.alloc (.cells #[.int .i64 3, .int .i64 2, .int .i64 id, .int .i64 fr, .int .i64 tn, .int .i64 st, .int .i64 en, .int .i64 rt, .int .i64 rf, .int .i64 rn, .int .i64 rs, .int .i64 re, .int .i64 ro] 31) = w0 at *
  have y0 : w0.cell? ⟨w.heap.size,0,none⟩ = some (.int .i64 3) := hX.cell 0
  have y1 : w0.cell? ⟨w.heap.size,1,none⟩ = some (.int .i64 2) := hX.cell 1
  have y2 : w0.cell? ⟨w.heap.size,2,none⟩ = some (.int .i64 id) := hX.cell 2
  have y3 : w0.cell? ⟨w.heap.size,3,none⟩ = some (.int .i64 fr) := hX.cell 3
  have y4 : w0.cell? ⟨w.heap.size,4,none⟩ = some (.int .i64 tn) := hX.cell 4
  have y5 : w0.cell? ⟨w.heap.size,5,none⟩ = some (.int .i64 st) := hX.cell 5
  have y6 : w0.cell? ⟨w.heap.size,6,none⟩ = some (.int .i64 en) := hX.cell 6
  have y7 : w0.cell? ⟨w.heap.size,7,none⟩ = some (.int .i64 rt) := hX.cell 7
  have y8 : w0.cell? ⟨w.heap.size,8,none⟩ = some (.int .i64 rf) := hX.cell 8
  have y9 : w0.cell? ⟨w.heap.size,9,none⟩ = some (.int .i64 rn) := hX.cell 9
  have y10 : w0.cell? ⟨w.heap.size,10,none⟩ = some (.int .i64 rs) := hX.cell 10
  have y11 : w0.cell? ⟨w.heap.size,11,none⟩ = some (.int .i64 re) := hX.cell 11
  have y12 : w0.cell? ⟨w.heap.size,12,none⟩ = some (.int .i64 ro) := hX.cell 12
  have lt_y := hX.lt
  go_upto_region 2 with fail
  have hC := Blok.new w0 27 #[.int .i64 id, .int .i64 fr, .int .i64 tn, .int .i64 st, .int .i64 en, .int .i64 rt]
  have hb : Below w0.heap.size w0 (w0.alloc (.cells #[.int .i64 id, .int .i64 fr, .int .i64 tn, .int .i64 st, .int .i64 en, .int .i64 rt] 27)) := by (repeat (first | exact Below.refl _ _ | refine Below.alloc ?_ (by first | omega | (simp; done) | (simp; omega)) _ | refine Below.setCell ?_ (by first | omega | (simp; done) | (simp; omega)) _ | refine Below.drew ?_))
  clear y0 y1 y2 y3 y4 y5 y6 y7 y8 y9 y10 y11 y12 lt_y
  replace hX := hX.below hb hX.lt
  replace hB := hB.trans (hb.mono hs)
  replace hs := hB.size
  clear hb
  generalize w0.alloc (.cells #[.int .i64 id, .int .i64 fr, .int .i64 tn, .int .i64 st, .int .i64 en, .int .i64 rt] 27) = w1 at *
  generalize hzz : w0.heap.size = b1 at *
  clear hzz
  have y0 : w1.cell? ⟨w.heap.size,0,none⟩ = some (.int .i64 3) := hX.cell 0
  have y1 : w1.cell? ⟨w.heap.size,1,none⟩ = some (.int .i64 2) := hX.cell 1
  have y2 : w1.cell? ⟨w.heap.size,2,none⟩ = some (.int .i64 id) := hX.cell 2
  have y3 : w1.cell? ⟨w.heap.size,3,none⟩ = some (.int .i64 fr) := hX.cell 3
  have y4 : w1.cell? ⟨w.heap.size,4,none⟩ = some (.int .i64 tn) := hX.cell 4
  have y5 : w1.cell? ⟨w.heap.size,5,none⟩ = some (.int .i64 st) := hX.cell 5
  have y6 : w1.cell? ⟨w.heap.size,6,none⟩ = some (.int .i64 en) := hX.cell 6
  have y7 : w1.cell? ⟨w.heap.size,7,none⟩ = some (.int .i64 rt) := hX.cell 7
  have y8 : w1.cell? ⟨w.heap.size,8,none⟩ = some (.int .i64 rf) := hX.cell 8
  have y9 : w1.cell? ⟨w.heap.size,9,none⟩ = some (.int .i64 rn) := hX.cell 9
  have y10 : w1.cell? ⟨w.heap.size,10,none⟩ = some (.int .i64 rs) := hX.cell 10
  have y11 : w1.cell? ⟨w.heap.size,11,none⟩ = some (.int .i64 re) := hX.cell 11
  have y12 : w1.cell? ⟨w.heap.size,12,none⟩ = some (.int .i64 ro) := hX.cell 12
  have lt_y := hX.lt
  go_upto_region 3 with fail
  have hR := Blok.new w1 29 #[.int .i64 rf, .int .i64 rn, .int .i64 rs, .int .i64 re, .int .i64 ro]
  have hb : Below w1.heap.size w1 (w1.alloc (.cells #[.int .i64 rf, .int .i64 rn, .int .i64 rs, .int .i64 re, .int .i64 ro] 29)) := by (repeat (first | exact Below.refl _ _ | refine Below.alloc ?_ (by first | omega | (simp; done) | (simp; omega)) _ | refine Below.setCell ?_ (by first | omega | (simp; done) | (simp; omega)) _ | refine Below.drew ?_))
  clear y0 y1 y2 y3 y4 y5 y6 y7 y8 y9 y10 y11 y12 lt_y
  replace hX := hX.below hb hX.lt
  replace hC := hC.below hb hC.lt
  replace hB := hB.trans (hb.mono hs)
  replace hs := hB.size
  clear hb
  generalize w1.alloc (.cells #[.int .i64 rf, .int .i64 rn, .int .i64 rs, .int .i64 re, .int .i64 ro] 29) = w2 at *
  generalize hzz : w1.heap.size = b2 at *
  clear hzz
  have y0 : w2.cell? ⟨w.heap.size,0,none⟩ = some (.int .i64 3) := hX.cell 0
  have y1 : w2.cell? ⟨w.heap.size,1,none⟩ = some (.int .i64 2) := hX.cell 1
  have lt_y := hX.lt
  have c0 : w2.cell? ⟨b1,0,none⟩ = some (.int .i64 id) := hC.cell 0
  have c1 : w2.cell? ⟨b1,1,none⟩ = some (.int .i64 fr) := hC.cell 1
  have c2 : w2.cell? ⟨b1,2,none⟩ = some (.int .i64 tn) := hC.cell 2
  have c3 : w2.cell? ⟨b1,3,none⟩ = some (.int .i64 st) := hC.cell 3
  have c4 : w2.cell? ⟨b1,4,none⟩ = some (.int .i64 en) := hC.cell 4
  have c5 : w2.cell? ⟨b1,5,none⟩ = some (.int .i64 rt) := hC.cell 5
  have lt_c := hC.lt
  have r0 : w2.cell? ⟨b2,0,none⟩ = some (.int .i64 rf) := hR.cell 0
  have r1 : w2.cell? ⟨b2,1,none⟩ = some (.int .i64 rn) := hR.cell 1
  have r2 : w2.cell? ⟨b2,2,none⟩ = some (.int .i64 rs) := hR.cell 2
  have r3 : w2.cell? ⟨b2,3,none⟩ = some (.int .i64 re) := hR.cell 3
  have r4 : w2.cell? ⟨b2,4,none⟩ = some (.int .i64 ro) := hR.cell 4
  have lt_r := hR.lt
  clear hX hC hR
  go_wp2_with fail
  have ho := own_lit w2 w.heap.size 3 1 4 #[.int .i64 rf, .int .i64 rn, .int .i64 rs, .int .i64 ro] hs rfl (by simp [maxLen])
  go_ret
  exact ⟨_,rfl,ho,hB.alloc hs _⟩
theorem rnums_any (d : Dr) (h : knownD d = true) (w : World) : Calls Tryd.prog 69 #[.agg #[.int .i64 d.op, .int .i64 d.kd, .int .i64 d.id, .int .i64 d.fr, .int .i64 d.tn, .int .i64 d.st, .int .i64 d.en, .int .i64 d.rt, .int .i64 d.rf, .int .i64 d.rn, .int .i64 d.rs, .int .i64 d.re, .int .i64 d.ro]] w fun e w' => ∃ v,e = .returned v ∧ w'.ownsRow w.heap.size 3 1 v (numsD d).length ((numsD d).map (Value.int .i64)) ∧ Below w.heap.size w w' := by
  obtain ⟨h1,h2⟩ := known_cases h
  obtain ⟨op,kd,id,fr,tn,st,en,rt,rf,rn,rs,re,ro⟩ := d
  dsimp only at h1 h2
  rcases h1 with rfl | rfl | rfl <;> rcases h2 with rfl | rfl
  · exact rnums_11 id fr tn st en rt rf rn rs re ro w
  · exact rnums_12 id fr tn st en rt rf rn rs re ro w
  · exact rnums_21 id fr tn st en rt rf rn rs re ro w
  · exact rnums_22 id fr tn st en rt rf rn rs re ro w
  · exact rnums_31 id fr tn st en rt rf rn rs re ro w
  · exact rnums_32 id fr tn st en rt rf rn rs re ro w
def Sep2 (A : Option Addr) (n g : Nat) : Prop := ∀ ad,A = some ad → 0 < n → ad.block ≠ g
def OffV (A : Option Addr) (n : Nat) (v : Value) : Prop := ∀ ad,A = some ad → 0 < n → ∀ g,v.ownBlock = some g → ad.block ≠ g
theorem OffV.next {w : World} {A : Option Addr} {n c K : Nat} {xs : List Value} {v v' : Value} (h : OffV A n v) (hs : Sl w w.heap.size K A n c xs) (hv : v'.ownBlock = v.ownBlock ∨ v'.ownBlock = some w.heap.size) : OffV A n v' := by
  intro ad e hn g hg
  rcases hv with hv | hv
  · rw [hv] at hg
    exact h ad e hn g hg
  · rw [hv] at hg
    injection hg with hg
    obtain ⟨ad',e',hlt,_⟩ := hs.lst.2 hn
    rw [e] at e'
    injection e' with e'
    subst e'
    omega
theorem sl_off {w w' : World} {K : Nat} {A : Option Addr} {n c : Nat} {xs : List Value} {v : Value} (h : Sl w w.heap.size K A n c xs) (hg : w.grownBy w' v.ownBlock) (hb : OffV A n v) : Sl w' w'.heap.size K A n c xs := by
  refine ⟨?_,h.cap,h.max,h.nil⟩
  refine ⟨h.lst.1,fun hn => ?_⟩
  obtain ⟨ad,e,hlt,hc⟩ := h.lst.2 hn
  refine ⟨ad,e,Nat.lt_of_lt_of_le hlt hg.size,fun j u hj => ?_⟩
  rw [World.cell?_of_block (w := w) (hg.block _ (by rw [add_block]; exact hlt) (by rw [add_block]; exact fun e2 => hb ad e hn ad.block e2.symm rfl))]
  exact hc j u hj
def gI4 (d : List Int) (i : Nat) : Int := d.getD i 0
theorem gI4_eq {d : List Int} {k : Nat} (h : k < d.length) : gI4 d k = d[k] := by simp [gI4,List.getD_eq_getElem?_getD,List.getElem?_eq_getElem h]
theorem gI4_mem {d : List Int} {k : Nat} (h : k < d.length) : gI4 d k ∈ d := by rw [gI4_eq h]; exact List.getElem_mem _
theorem take_nextI4 {l : List Int} {k : Nat} (h : k < l.length) : l.take (k + 1) = l.take k ++ [gI4 l k] := by
  rw [List.take_succ_eq_append_getElem h,gI4_eq h]
theorem Lst.atI4 {w : World} {B : Nat} {A : Option Addr} {n : Nat} {l : List Int} (h : Lst w B 1 A n (l.map (Value.int .i64))) (hl : l.length = n) {k : Nat} (hk : k < n) : ∃ ad,A = some ad ∧ ad.block < B ∧ w.cell? (ad.add k) = some (.int .i64 (gI4 l k)) := by
  obtain ⟨ad,e,hb,hc⟩ := h.at_ (by omega)
  refine ⟨ad,e,hb,hc _ _ ?_⟩
  rw [List.getElem?_map,List.getElem?_eq_getElem (by omega),gI4_eq (by omega)]
  rfl
set_option maxHeartbeats 8000000 in
set_option maxRecDepth 100000 in
theorem rwords04_no (d : Dr) (w : World) (hr : rightD d = false) : Calls Tryd.prog 38 #[.agg #[.int .i64 d.op, .int .i64 d.kd, .int .i64 d.id, .int .i64 d.fr, .int .i64 d.tn, .int .i64 d.st, .int .i64 d.en, .int .i64 d.rt, .int .i64 d.rf, .int .i64 d.rn, .int .i64 d.rs, .int .i64 d.re, .int .i64 d.ro]] w fun e w' => e = .returned (.tuple #[.slice none 0 0, .bool false]) ∧ Below w.heap.size w w' := by
  have hX := Blok.new w 31 #[.int .i64 d.op, .int .i64 d.kd, .int .i64 d.id, .int .i64 d.fr, .int .i64 d.tn, .int .i64 d.st, .int .i64 d.en, .int .i64 d.rt, .int .i64 d.rf, .int .i64 d.rn, .int .i64 d.rs, .int .i64 d.re, .int .i64 d.ro]
  have hB : Below w.heap.size w (w.alloc (.cells #[.int .i64 d.op, .int .i64 d.kd, .int .i64 d.id, .int .i64 d.fr, .int .i64 d.tn, .int .i64 d.st, .int .i64 d.en, .int .i64 d.rt, .int .i64 d.rf, .int .i64 d.rn, .int .i64 d.rs, .int .i64 d.re, .int .i64 d.ro] 31)) := by (repeat (first | exact Below.refl _ _ | refine Below.alloc ?_ (by first | omega | (simp; done) | (simp; omega)) _ | refine Below.setCell ?_ (by first | omega | (simp; done) | (simp; omega)) _ | refine Below.drew ?_))
  have hs := hB.size
  have HR := Lib.hid hr
  clear hr
  go_enter Tryd.func38,Tryd.ntmps38
  go_upto_region 1 with fail
  generalize w.alloc (.cells #[.int .i64 d.op, .int .i64 d.kd, .int .i64 d.id, .int .i64 d.fr, .int .i64 d.tn, .int .i64 d.st, .int .i64 d.en, .int .i64 d.rt, .int .i64 d.rf, .int .i64 d.rn, .int .i64 d.rs, .int .i64 d.re, .int .i64 d.ro] 31) = w0 at *
  have y0 : w0.cell? ⟨w.heap.size,0,none⟩ = some (.int .i64 d.op) := hX.cell 0
  have y1 : w0.cell? ⟨w.heap.size,1,none⟩ = some (.int .i64 d.kd) := hX.cell 1
  have y2 : w0.cell? ⟨w.heap.size,2,none⟩ = some (.int .i64 d.id) := hX.cell 2
  have y3 : w0.cell? ⟨w.heap.size,3,none⟩ = some (.int .i64 d.fr) := hX.cell 3
  have y4 : w0.cell? ⟨w.heap.size,4,none⟩ = some (.int .i64 d.tn) := hX.cell 4
  have y5 : w0.cell? ⟨w.heap.size,5,none⟩ = some (.int .i64 d.st) := hX.cell 5
  have y6 : w0.cell? ⟨w.heap.size,6,none⟩ = some (.int .i64 d.en) := hX.cell 6
  have y7 : w0.cell? ⟨w.heap.size,7,none⟩ = some (.int .i64 d.rt) := hX.cell 7
  have y8 : w0.cell? ⟨w.heap.size,8,none⟩ = some (.int .i64 d.rf) := hX.cell 8
  have y9 : w0.cell? ⟨w.heap.size,9,none⟩ = some (.int .i64 d.rn) := hX.cell 9
  have y10 : w0.cell? ⟨w.heap.size,10,none⟩ = some (.int .i64 d.rs) := hX.cell 10
  have y11 : w0.cell? ⟨w.heap.size,11,none⟩ = some (.int .i64 d.re) := hX.cell 11
  have y12 : w0.cell? ⟨w.heap.size,12,none⟩ = some (.int .i64 d.ro) := hX.cell 12
  have lt_y := hX.lt
  go_wp2_with fail
  clear y0 y1 y2 y3 y4 y5 y6 y7 y8 y9 y10 y11 y12 lt_y
  refine (rr04_any d w0 false HR.out).mono ?_
  rintro e w1 ⟨rfl,hb⟩
  replace hB := hB.trans (hb.mono hs)
  go_wp2_with fail
  go_ret2
  exact ⟨rfl,hB⟩
set_option maxHeartbeats 8000000 in
set_option maxRecDepth 100000 in
theorem rwords04_yes (d : Dr) (w : World) (hr : rightD d = true) : Calls Tryd.prog 38 #[.agg #[.int .i64 d.op, .int .i64 d.kd, .int .i64 d.id, .int .i64 d.fr, .int .i64 d.tn, .int .i64 d.st, .int .i64 d.en, .int .i64 d.rt, .int .i64 d.rf, .int .i64 d.rn, .int .i64 d.rs, .int .i64 d.re, .int .i64 d.ro]] w fun e w' => ∃ v,e = .returned (.tuple #[v, .bool true]) ∧ w'.ownsRow w.heap.size 9 1 v (2 + (numsD d).length) (vs (wordsD d)) ∧ Below w.heap.size w w' := by
  obtain ⟨i0,hi0,hz0,hz1,hz2⟩ := info_parts infoS04
  have hX := Blok.new w 31 #[.int .i64 d.op, .int .i64 d.kd, .int .i64 d.id, .int .i64 d.fr, .int .i64 d.tn, .int .i64 d.st, .int .i64 d.en, .int .i64 d.rt, .int .i64 d.rf, .int .i64 d.rn, .int .i64 d.rs, .int .i64 d.re, .int .i64 d.ro]
  have hB : Below w.heap.size w (w.alloc (.cells #[.int .i64 d.op, .int .i64 d.kd, .int .i64 d.id, .int .i64 d.fr, .int .i64 d.tn, .int .i64 d.st, .int .i64 d.en, .int .i64 d.rt, .int .i64 d.rf, .int .i64 d.rn, .int .i64 d.rs, .int .i64 d.re, .int .i64 d.ro] 31)) := by (repeat (first | exact Below.refl _ _ | refine Below.alloc ?_ (by first | omega | (simp; done) | (simp; omega)) _ | refine Below.setCell ?_ (by first | omega | (simp; done) | (simp; omega)) _ | refine Below.drew ?_))
  have hs := hB.size
  have HR := Lib.hid hr
  have HNR := Lib.hid (right_nums hr)
  have hkn : knownD d = true := by unfold rightD at hr; simp only [Bool.and_eq_true] at hr; exact hr.1
  have HKN := Lib.hid hkn
  have hml := nums_le d
  obtain ⟨m,hm⟩ : ∃ m,(numsD d).length = m := ⟨_,rfl⟩
  rw [hm] at hml
  obtain ⟨ns,hns⟩ : ∃ ns,numsD d = ns := ⟨_,rfl⟩
  obtain ⟨so,hso⟩ : ∃ so,gS opW d.op.toNat = so := ⟨_,rfl⟩
  obtain ⟨sk,hsk⟩ : ∃ sk,gS kdW d.kd.toNat = sk := ⟨_,rfl⟩
  have hwd : wordsD d = [so,sk] ++ ns.map Lib.itoa := by unfold wordsD; rw [hso,hsk,hns]
  rw [hwd,hm]
  rw [hns] at HNR hm
  have HM := Lib.hid hm
  have HNS := Lib.hid hns
  have HSO := Lib.hid hso
  have HSK := Lib.hid hsk
  clear hr hkn hm hns hso hsk hwd
  go_enter Tryd.func38,Tryd.ntmps38
  go_upto_region 1 with fail
  generalize w.alloc (.cells #[.int .i64 d.op, .int .i64 d.kd, .int .i64 d.id, .int .i64 d.fr, .int .i64 d.tn, .int .i64 d.st, .int .i64 d.en, .int .i64 d.rt, .int .i64 d.rf, .int .i64 d.rn, .int .i64 d.rs, .int .i64 d.re, .int .i64 d.ro] 31) = w0 at *
  have y0 : w0.cell? ⟨w.heap.size,0,none⟩ = some (.int .i64 d.op) := hX.cell 0
  have y1 : w0.cell? ⟨w.heap.size,1,none⟩ = some (.int .i64 d.kd) := hX.cell 1
  have y2 : w0.cell? ⟨w.heap.size,2,none⟩ = some (.int .i64 d.id) := hX.cell 2
  have y3 : w0.cell? ⟨w.heap.size,3,none⟩ = some (.int .i64 d.fr) := hX.cell 3
  have y4 : w0.cell? ⟨w.heap.size,4,none⟩ = some (.int .i64 d.tn) := hX.cell 4
  have y5 : w0.cell? ⟨w.heap.size,5,none⟩ = some (.int .i64 d.st) := hX.cell 5
  have y6 : w0.cell? ⟨w.heap.size,6,none⟩ = some (.int .i64 d.en) := hX.cell 6
  have y7 : w0.cell? ⟨w.heap.size,7,none⟩ = some (.int .i64 d.rt) := hX.cell 7
  have y8 : w0.cell? ⟨w.heap.size,8,none⟩ = some (.int .i64 d.rf) := hX.cell 8
  have y9 : w0.cell? ⟨w.heap.size,9,none⟩ = some (.int .i64 d.rn) := hX.cell 9
  have y10 : w0.cell? ⟨w.heap.size,10,none⟩ = some (.int .i64 d.rs) := hX.cell 10
  have y11 : w0.cell? ⟨w.heap.size,11,none⟩ = some (.int .i64 d.re) := hX.cell 11
  have y12 : w0.cell? ⟨w.heap.size,12,none⟩ = some (.int .i64 d.ro) := hX.cell 12
  have lt_y := hX.lt
  go_wp2_with fail
  clear y0 y1 y2 y3 y4 y5 y6 y7 y8 y9 y10 y11 y12 lt_y
  refine (rr04_any d w0 true HR.out).mono ?_
  rintro e w1 ⟨rfl,hb⟩
  replace hX := hX.below hb hX.lt
  replace hB := hB.trans (hb.mono hs)
  replace hs := hB.size
  clear hb
  have y0 : w1.cell? ⟨w.heap.size,0,none⟩ = some (.int .i64 d.op) := hX.cell 0
  have y1 : w1.cell? ⟨w.heap.size,1,none⟩ = some (.int .i64 d.kd) := hX.cell 1
  have y2 : w1.cell? ⟨w.heap.size,2,none⟩ = some (.int .i64 d.id) := hX.cell 2
  have y3 : w1.cell? ⟨w.heap.size,3,none⟩ = some (.int .i64 d.fr) := hX.cell 3
  have y4 : w1.cell? ⟨w.heap.size,4,none⟩ = some (.int .i64 d.tn) := hX.cell 4
  have y5 : w1.cell? ⟨w.heap.size,5,none⟩ = some (.int .i64 d.st) := hX.cell 5
  have y6 : w1.cell? ⟨w.heap.size,6,none⟩ = some (.int .i64 d.en) := hX.cell 6
  have y7 : w1.cell? ⟨w.heap.size,7,none⟩ = some (.int .i64 d.rt) := hX.cell 7
  have y8 : w1.cell? ⟨w.heap.size,8,none⟩ = some (.int .i64 d.rf) := hX.cell 8
  have y9 : w1.cell? ⟨w.heap.size,9,none⟩ = some (.int .i64 d.rn) := hX.cell 9
  have y10 : w1.cell? ⟨w.heap.size,10,none⟩ = some (.int .i64 d.rs) := hX.cell 10
  have y11 : w1.cell? ⟨w.heap.size,11,none⟩ = some (.int .i64 d.re) := hX.cell 11
  have y12 : w1.cell? ⟨w.heap.size,12,none⟩ = some (.int .i64 d.ro) := hX.cell 12
  have lt_y := hX.lt
  go_wp2_with fail
  clear y0 y1 y2 y3 y4 y5 y6 y7 y8 y9 y10 y11 y12 lt_y
  refine (first_any d HKN.out w1).mono ?_
  rintro e w2 ⟨g,rfl,hown,hb⟩
  rw [HSO.out,HSK.out] at hown
  have hs1 := hs
  replace hX := hX.below hb hX.lt
  replace hB := hB.trans (hb.mono hs)
  replace hs := hB.size
  clear hb
  have y0 : w2.cell? ⟨w.heap.size,0,none⟩ = some (.int .i64 d.op) := hX.cell 0
  have y1 : w2.cell? ⟨w.heap.size,1,none⟩ = some (.int .i64 d.kd) := hX.cell 1
  have y2 : w2.cell? ⟨w.heap.size,2,none⟩ = some (.int .i64 d.id) := hX.cell 2
  have y3 : w2.cell? ⟨w.heap.size,3,none⟩ = some (.int .i64 d.fr) := hX.cell 3
  have y4 : w2.cell? ⟨w.heap.size,4,none⟩ = some (.int .i64 d.tn) := hX.cell 4
  have y5 : w2.cell? ⟨w.heap.size,5,none⟩ = some (.int .i64 d.st) := hX.cell 5
  have y6 : w2.cell? ⟨w.heap.size,6,none⟩ = some (.int .i64 d.en) := hX.cell 6
  have y7 : w2.cell? ⟨w.heap.size,7,none⟩ = some (.int .i64 d.rt) := hX.cell 7
  have y8 : w2.cell? ⟨w.heap.size,8,none⟩ = some (.int .i64 d.rf) := hX.cell 8
  have y9 : w2.cell? ⟨w.heap.size,9,none⟩ = some (.int .i64 d.rn) := hX.cell 9
  have y10 : w2.cell? ⟨w.heap.size,10,none⟩ = some (.int .i64 d.rs) := hX.cell 10
  have y11 : w2.cell? ⟨w.heap.size,11,none⟩ = some (.int .i64 d.re) := hX.cell 11
  have y12 : w2.cell? ⟨w.heap.size,12,none⟩ = some (.int .i64 d.ro) := hX.cell 12
  have lt_y := hX.lt
  go_wp2_with fail
  clear y0 y1 y2 y3 y4 y5 y6 y7 y8 y9 y10 y11 y12 lt_y
  refine (rnums_any d HKN.out w2).mono ?_
  rintro e w3 ⟨v,rfl,hv,hb⟩
  rw [HNS.out,HM.out] at hv
  have hown0 := hown
  replace hown := own_down (own_below hown hb) hs1
  replace hX := hX.below hb hX.lt
  replace hB := hB.trans (hb.mono hs)
  replace hs := hB.size
  clear hb
  obtain ⟨An,cn,rfl⟩ := slice_of_own hv
  have hln := Sl.of_own hv
  have hbase := (hv.lt)
  have hsep : Sep2 An m g := fun ad e hp => by
    subst e
    have h1 := (hbase ad.block rfl).1
    have h2 := (hown0.lt g rfl).2
    omega
  have HLN := Lib.hid (fun w' (hb : Below w3.heap.size w3 w') => hln.below hb)
  clear hv hbase hX
  go_wp2_with fail
  go_loopw [4,6] (fun ev iv wr => ∃ (i : Nat),iv = .int .i64 i ∧ i ≤ m ∧ wr.ownsRow w.heap.size 9 1 ev (2 + i) (vs ([so,sk] ++ (ns.take i).map Lib.itoa)) ∧ Below w.heap.size w wr ∧ Sl wr wr.heap.size 1 An m cn (ns.map (Value.int .i64)) ∧ OffV An m ev) (fun _ iv _ => m - (intOf iv).toNat)
  case atStart => exact ⟨0,rfl,by omega,by simpa using hown,hB,hln,fun ad e hp q hq => by injection hq with hq; subst hq; exact hsep ad e hp⟩
  case round =>
    clear hown hB hs hln HLN hown0 hsep
    obtain ⟨i,rfl,hi,hown,hB,hln,hoff⟩ := hrel
    have hs := hB.size
    obtain ⟨Ae,ce,rfl⟩ := slice_of_own hown
    by_cases hin : i < m
    · obtain ⟨ad,ea,hab,c0⟩ := hln.lst.atI4 HM.out hin
      subst ea
      have hil : i < ns.length := by rw [HM.out]; exact hin
      have hx1 := HNR.out _ (gI4_mem hil)
      have hnx := take_nextI4 hil
      obtain ⟨x,hx⟩ : ∃ x,gI4 ns i = x := ⟨_,rfl⟩
      rw [hx] at c0 hx1 hnx
      have HNX := Lib.hid hnx
      clear hx hil hnx
      go_wp2_with fail
      clear c0
      refine (rtext_any (n := x) (by omega) (by omega) wr).mono ?_
      rintro e w5 ⟨rfl,hb⟩
      replace hown := own_below hown hb
      replace hln := hln.up hb
      replace hB := hB.trans (hb.mono hs)
      replace hs := hB.size
      clear hb
      have hown2 := hown.alloc (.cells #[.string (bs (Lib.itoa x))] 9)
      have hb : Below w5.heap.size w5 (w5.alloc (.cells #[.string (bs (Lib.itoa x))] 9)) := by (repeat (first | exact Below.refl _ _ | refine Below.alloc ?_ (by first | omega | (simp; done) | (simp; omega)) _ | refine Below.setCell ?_ (by first | omega | (simp; done) | (simp; omega)) _ | refine Below.drew ?_))
      have hln2 := hln.up hb
      have hB2 := hB.trans (hb.mono hs)
      have hs2 := hB2.size
      clear hb
      go_wp2_with (first | (at_builtin; refine wpList_append_own_at _ rfl _ _ 56 rfl w.heap.size 9 i0 (.string ByteArray.empty) 1 16 Tryd.underlying56 hi0 hz0 hz1 hz2 rfl (by decide) _ _ _ rfl hown2 ⟨w5.heap.size,0,none⟩ 1 1 [.string (bs (Lib.itoa x))] rfl rfl (cell_one_new _ _ _) (fun x hx => by simp at hx; subst hx; rfl) (by unfold maxLen; omega) (by omega) (by omega) ?_; intro v' w6 hown' hgrow6 hnil6 hat6))
      have hoff6 : OffV (some ad) m v' := hoff.next hln2 hat6
      have hln6 : Sl w6 w6.heap.size 1 (some ad) m cn (ns.map (Value.int .i64)) := sl_off hln2 hgrow6 hoff
      have hbN : Below w.heap.size w w6 := hB2.grown hgrow6 hs2 (fun q hq => (hown.lt q hq).1)
      have hown6 : w6.ownsRow w.heap.size 9 1 v' (2 + (i + 1)) (vs ([so,sk] ++ (ns.take (i + 1)).map Lib.itoa)) := by
        rw [HNX.out,List.map_append,← List.append_assoc,vs_append]
        exact hown'
      clear hgrow6 hnil6 hat6 hown' hown2 hln2
      go_wp2_with fail
      go_roundw
      case rel => exact ⟨i + 1,by go_num,by omega,hown6,hbN,hln6,hoff6⟩
      case measure => simp [intOf]; omega
    · obtain rfl : m = i := by omega
      rw [List.take_of_length_le (by rw [HM.out]; omega)] at hown
      go_wp2_with fail
      go_ret2
      exact ⟨_,rfl,hown,hB⟩
end Go.Proofs.YtggdomeeienjbaaDoor

/- The document's own answer for layer 4: the directive of numbers. No condition. -/
namespace Go.Proofs.YtggdomeeienjbaaDoor
open Go.ChangeShapes Go.WideShapes Go.ChangeAt Go.RowKit Go.Sort
set_option linter.unusedSimpArgs false
set_option linter.unusedVariables false
end Go.Proofs.YtggdomeeienjbaaDoor

/- The document's own answer for layer 4: what words say. No condition but on sizes. -/
namespace Go.Proofs.YtggdomeeienjbaaDoor
open Go.ChangeShapes Go.WideShapes Go.ChangeAt Go.RowKit Go.Sort
set_option linter.unusedSimpArgs false
set_option linter.unusedVariables false
/-- Do these words begin as directives of that kind, and are they as many? -/
def fitsD (op kd : Int) (l : List Bytes) : Prop := l.length = 2 + formLen op kd ∧ gS l 0 = gS opW op.toNat ∧ gS l 1 = gS kdW kd.toNat
theorem bare_len {op kd : Int} (h : (op = 1 ∨ op = 2 ∨ op = 3) ∧ (kd = 1 ∨ kd = 2)) : (numsD ⟨op,kd,0,0,0,0,0,0,0,0,0,0,0⟩).length = formLen op kd := by
  obtain ⟨h1,h2⟩ := h
  rcases h1 with rfl | rfl | rfl <;> rcases h2 with rfl | rfl <;> rfl
theorem bare_known {op kd : Int} (h : (op = 1 ∨ op = 2 ∨ op = 3) ∧ (kd = 1 ∨ kd = 2)) : knownD ⟨op,kd,0,0,0,0,0,0,0,0,0,0,0⟩ = true := by
  obtain ⟨h1,h2⟩ := h
  rcases h1 with rfl | rfl | rfl <;> rcases h2 with rfl | rfl <;> rfl
theorem form_known {op kd : Int} (h : (op = 1 ∨ op = 2 ∨ op = 3) ∧ (kd = 1 ∨ kd = 2)) : (formV op kd).isSome = true := bare_known h
theorem fits_parse {op kd : Int} {l : List Bytes} (h : (op = 1 ∨ op = 2 ∨ op = 3) ∧ (kd = 1 ∨ kd = 2)) (hf : fitsD op kd l) :
    parseD l = match numsF (l.drop 2) with
      | none => (zeroDr,2)
      | some ns => if rightD (madeD op kd ns) = true then (madeD op kd ns,0) else (zeroDr,1) := by
  obtain ⟨f1,f2,f3⟩ := hf
  have e1 : opF (gS l 0) = op := by rw [f2]; obtain ⟨h1,_⟩ := h; rcases h1 with rfl | rfl | rfl <;> rfl
  have e2 : kdF (gS l 1) = kd := by rw [f3]; obtain ⟨_,h2⟩ := h; rcases h2 with rfl | rfl <;> rfl
  have hk := form_known h
  unfold parseD
  rw [if_neg (by omega),e1,e2,if_neg (by rw [hk]; simp)]
  cases hn : numsF (l.drop 2) with
  | none => rfl
  | some ns =>
    have hl := numsF_len hn
    rw [List.length_drop] at hl
    dsimp only
    have hM := made_at hk (show ns.length = formLen op kd by omega)
    rw [if_pos (by omega)]
    have hr : rightD (madeD op kd ns) = mayD (madeD op kd ns) := by
      unfold rightD knownD
      rw [hM.op_,hM.kd_,hk,hM.keep]
      simp
    rw [hr]
theorem fits_none {l : List Bytes} (h : ∀ op kd : Int,((op = 1 ∨ op = 2 ∨ op = 3) ∧ (kd = 1 ∨ kd = 2)) → ¬ fitsD op kd l) : parseD l = (zeroDr,2) := by
  unfold parseD
  split
  · rfl
  · rename_i hl
    split
    · rfl
    · rename_i hk
      have hk2 : (formV (opF (gS l 0)) (kdF (gS l 1))).isSome = true := by
        cases hh : (formV (opF (gS l 0)) (kdF (gS l 1))).isSome with
        | true => rfl
        | false => exact absurd hh hk
      obtain ⟨_,_,_,_,hop,hkd⟩ := form_of hk2
      have hn := h _ _ ⟨hop,hkd⟩
      cases hns : numsF (l.drop 2) with
      | none => rfl
      | some ns =>
        have hlen := numsF_len hns
        rw [List.length_drop] at hlen
        dsimp only
        rw [if_neg]
        intro e
        exact hn ⟨by omega,(gS_opF hop).symm,(gS_kdF hkd).symm⟩
theorem rnums_sl (o k fl : Nat) (hk : ((o : Int) = 1 ∨ (o : Int) = 2 ∨ (o : Int) = 3) ∧ ((k : Int) = 1 ∨ (k : Int) = 2)) (hl : (numsD ⟨o,k,0,0,0,0,0,0,0,0,0,0,0⟩).length = fl) (w : World) :
    Calls Tryd.prog 69 #[.agg #[.int .i64 (o : Int), .int .i64 (k : Int), .int .i64 0, .int .i64 0, .int .i64 0, .int .i64 0, .int .i64 0, .int .i64 0, .int .i64 0, .int .i64 0, .int .i64 0, .int .i64 0, .int .i64 0]] w fun e w' => ∃ A c,e = .returned (.slice A fl c) ∧ Below w.heap.size w w' := by
  refine (rnums_any ⟨o,k,0,0,0,0,0,0,0,0,0,0,0⟩ (bare_known hk) w).mono ?_
  rintro e w1 ⟨v,rfl,hv,hb⟩
  rw [hl] at hv
  obtain ⟨A,c,rfl⟩ := slice_of_own hv
  exact ⟨A,c,rfl,hb⟩
theorem ne_str {a b : Bytes} (h : a ≠ b) : ((bs a).toList == (bs b).toList) = false := by
  rw [beq_eq_false_iff_ne]
  intro e
  exact h ((str_ne _ _).1 e)
/-- The number of the round: 2 * (op - 1) + (kd - 1). -/
def Past (l : List Bytes) (j : Nat) : Prop := ∀ op kd : Int,((op = 1 ∨ op = 2 ∨ op = 3) ∧ (kd = 1 ∨ kd = 2)) → 2 * (op - 1) + (kd - 1) < (j : Int) → ¬ fitsD op kd l
theorem Past.next {l : List Bytes} {j : Nat} {op kd : Int} (h : Past l j) (hj : 2 * (op - 1) + (kd - 1) = (j : Int)) (hk : (op = 1 ∨ op = 2 ∨ op = 3) ∧ (kd = 1 ∨ kd = 2)) (hn : ¬ fitsD op kd l) : Past l (j + 1) := by
  intro o k hok hlt hf
  by_cases e : 2 * (o - 1) + (k - 1) = (j : Int)
  · have : o = op ∧ k = kd := by omega
    obtain ⟨rfl,rfl⟩ := this
    exact hn hf
  · exact h o k hok (by omega) hf
theorem Past.all {l : List Bytes} (h : Past l 6) : parseD l = (zeroDr,2) := fits_none fun op kd hk => h op kd hk (by omega)
end Go.Proofs.YtggdomeeienjbaaDoor

/- The document's own answers for layer 5: lines with words, directives of texts, texts of directives. No condition but on sizes. -/
namespace Go.Proofs.YtggdomeeienjbaaDoor
open Go.ChangeShapes Go.WideShapes Go.ChangeAt Go.RowKit Go.Sort
set_option linter.unusedSimpArgs false
set_option linter.unusedVariables false
set_option maxHeartbeats 8000000 in
set_option maxRecDepth 100000 in
theorem rtprint_any (A : Option Addr) (n c : Nat) (ds : List Dr) (hd : ds.length = n) (hn : n ≤ 1000) (w : World) (h : Sl w w.heap.size 13 A n c (flatDr ds)) (r : Option Bytes) (hr : printF ds = r) :
    Calls Tryd.prog 29 #[.slice A n c] w fun e w' => e = .returned (printV r) ∧ Below w.heap.size w w' := by
  have HD := Lib.hid hd
  have HR := Lib.hid hr
  have HL := Lib.hid h
  clear hd hr h
  go_enter Tryd.func29,Tryd.ntmps29
  go_wp2_with fail
  go_loopw [4,5] (fun sv iv wr => ∃ (i : Nat) (s : Bytes),sv = .string (bs s) ∧ iv = .int .i64 i ∧ i ≤ n ∧ Hid (printF ds = (printF (ds.drop i)).map (s ++ ·)) ∧ s.length ≤ i * 200 ∧ Below w.heap.size w wr) (fun _ iv _ => n - (intOf iv).toNat)
  case atStart => exact ⟨0,[],rfl,rfl,by omega,by simp [Hid],by simp,Below.refl _ _⟩
  case round =>
    obtain ⟨i,s,rfl,rfl,hi,HF,hsl,hB⟩ := hrel
    have hsz := hB.size
    by_cases hin : i < n
    · have hil : i < ds.length := by rw [HD.out]; exact hin
      obtain ⟨ad,rfl,hab,c_0,c_1,c_2,c_3,c_4,c_5,c_6,c_7,c_8,c_9,c_10,c_11,c_12⟩ := (HL.out.below hB).lst.atDr HD.out hin
      have HIL := Lib.hid hil
      clear hil
      obtain ⟨x,hx⟩ : ∃ x,gDr ds i = x := ⟨_,rfl⟩
      rw [hx] at c_0 c_1 c_2 c_3 c_4 c_5 c_6 c_7 c_8 c_9 c_10 c_11 c_12
      have HX := Lib.hid hx
      clear hx
      go_wp2_with fail
      clear c_0 c_1 c_2 c_3 c_4 c_5 c_6 c_7 c_8 c_9 c_10 c_11 c_12
      cases hrx : rightD x
      · have HRX := Lib.hid hrx
        clear hrx
        refine (rwords04_no x wr HRX.out).mono ?_
        rintro e x1 ⟨rfl,hb⟩
        replace hB := hB.trans (hb.mono hsz)
        clear hb
        have hf : printF ds = none := by rw [HF.out,print_no HIL.out (by rw [HX.out]; exact HRX.out)]; rfl
        rw [HR.out] at hf
        subst hf
        go_wp2_with fail
        go_ret2
        exact ⟨rfl,hB⟩
      · have HRX := Lib.hid hrx
        clear hrx
        refine (rwords04_yes x wr HRX.out).mono ?_
        rintro e x1 ⟨v,rfl,hv,hb⟩
        replace hB := hB.trans (hb.mono hsz)
        replace hsz := hB.size
        obtain ⟨k,hk⟩ : ∃ k,2 + (numsD x).length = k := ⟨_,rfl⟩
        rw [hk] at hv
        have hkb : k ≤ 10 := by have := nums_le x; omega
        have HK := Lib.hid (show (wordsD x).length = k by rw [words_len_eq]; exact hk)
        clear hk hb
        obtain ⟨A1,c1,rfl⟩ := slice_of_own hv
        have h1 := Sl.of_own hv
        clear hv
        go_wp2_with fail
        refine (rline_any A1 k c1 (wordsD x) x1 HK.out (by omega) (fun y hy => Nat.le_trans (words_small HRX.out y hy) (by omega)) h1).mono ?_
        rintro e x2 ⟨rfl,hb⟩
        replace hB := hB.trans (hb.mono hsz)
        replace hsz := hB.size
        clear hb h1
        have hll := lnD_len HRX.out
        obtain ⟨y,hy⟩ : ∃ y,lineL (wordsD x) = y := ⟨_,rfl⟩
        rw [hy] at hll
        have hn2 : printF ds = (printF (ds.drop (i + 1))).map ((s ++ y) ++ ·) := by
          rw [HF.out,print_ok HIL.out (by rw [HX.out]; exact HRX.out),HX.out,hy,Option.map_map]
          congr 1
          funext t
          simp
        have HN2 := Lib.hid hn2
        have hsz2 : (bs s).size ≤ 200000 := by rw [bs_size]; have : i * 200 ≤ 1000 * 200 := Nat.mul_le_mul (by omega) (by omega); omega
        have hsz3 : (bs y).size ≤ 200 := by rw [bs_size]; exact hll
        have hcat : bs s ++ bs y = bs (s ++ y) := bs_append s y
        have HC := Lib.hid hcat
        rw [hy]
        clear hy hn2 hcat
        go_wp2_with fail
        go_roundw
        case rel => exact ⟨i + 1,s ++ y,by first | (rw [← HC.out]; done) | (rw [← HC.out]; rfl),by go_num,by omega,HN2,by rw [List.length_append]; omega,hB⟩
        case measure => simp [intOf]; omega
    · obtain rfl : n = i := by omega
      have hf : printF ds = some s := by rw [HF.out,List.drop_eq_nil_of_le (by rw [HD.out]; omega)]; simp [printF]
      rw [HR.out] at hf
      subst hf
      go_wp2_with fail
      go_ret2
      exact ⟨rfl,hB⟩
end Go.Proofs.YtggdomeeienjbaaDoor
