/- Contracts and plain facts, several texts of mine in one: Tx1, Tx2, Tx3, Tx5, TxB, Tx4, TyFt, Ref05, Small05, Ten05. No condition. -/
import Derived.Test.YtcclfmaockapjaaGreatDoorDMath
import Derived.Test.YtcclfmaockapjaaGreatDoorSmall02
import Derived.Test.YtcclfmaockapjaaGreatDoorDFacts
import Derived.Test.YtcclfmaockapjaaGreatDoorChecked
import Derived.Test.YtcclfmaockapjaaGreatDoorShelf
import Derived.Test.YtcclfmaockapjaaGreatDoorLib
import Derived.Test.YtcclfmaockapjaaGreatDoorMem
import Derived.Lib.Builder
import Derived.Test.YtcclfmaockapjaaGreatDoorDWords3
import Derived.Test.YtcclfmaockapjaaGreatDoorSlLib
import Derived.Test.YtcclfmaockapjaaGreatDoorRef04d
import Derived.Test.YtcclfmaockapjaaGreatDoorTie
import Derived.Test.YtcclfmaockapjaaGreatDoorCards
import Derived.Test.YtcclfmaockapjaaGreatDoorWOpen
import Derived.LaidMore
import Derived.LaidSub
import Derived.Stop.Joined
import Derived.SevenTiedAt

/- Texts of directives, as plain functions of rows of words. No condition. -/
namespace Go.Proofs.YtcclfmaockapjaaGreatDoor
open Go.ChangeShapes Go.WideShapes Go.ChangeAt Go.RowKit Go.Sort
set_option linter.unusedSimpArgs false
set_option linter.unusedVariables false
/-- The numbers of the rows that have words. -/
def lnoF : List Bytes → Int → List Int
  | [], _ => []
  | r :: rs, k => if (wordsL r).length = 0 then lnoF rs (k + 1) else k :: lnoF rs (k + 1)
abbrev Pt := List Dr × Int × Int
def addF (a : List Dr) (p : Pt) : Pt := if p.2.2 = 0 then (a ++ p.1, p.2) else p
/-- The directives of rows, or the first fault. -/
def textF : List Bytes → Int → Pt
  | [], _ => ([], 0, 0)
  | r :: rs, k => if (wordsL r).length = 0 then textF rs (k + 1) else if (parseD (wordsL r)).2 = 0 then addF [(parseD (wordsL r)).1] (textF rs (k + 1)) else ([], k, (parseD (wordsL r)).2)
def printF : List Dr → Option Bytes
  | [] => some []
  | d :: ds => if rightD d = true then (printF ds).map (lineL (wordsD d) ++ ·) else none
theorem addF_nil (p : Pt) : addF [] p = p := by unfold addF; split <;> simp
theorem addF_code (a : List Dr) (p : Pt) : (addF a p).2 = p.2 := by unfold addF; split <;> rfl
theorem addF_addF (a b : List Dr) (p : Pt) : addF a (addF b p) = addF (a ++ b) p := by
  unfold addF
  by_cases h : p.2.2 = 0
  · simp [h]
  · simp [h]
theorem dropS {rows : List Bytes} {i : Nat} (h : i < rows.length) : rows.drop i = gS rows i :: rows.drop (i + 1) := by
  rw [List.drop_eq_getElem_cons h, gS_eq h]
theorem dropDr {l : List Dr} {i : Nat} (h : i < l.length) : l.drop i = gDr l i :: l.drop (i + 1) := by
  rw [List.drop_eq_getElem_cons h, gDr_eq h]
theorem lno_blank {rows : List Bytes} {i : Nat} {k : Int} (h : i < rows.length) (hw : (wordsL (gS rows i)).length = 0) : lnoF (rows.drop i) k = lnoF (rows.drop (i + 1)) (k + 1) := by
  rw [dropS h]; simp [lnoF, hw]
theorem lno_word {rows : List Bytes} {i : Nat} {k : Int} (h : i < rows.length) (hw : (wordsL (gS rows i)).length ≠ 0) : lnoF (rows.drop i) k = k :: lnoF (rows.drop (i + 1)) (k + 1) := by
  rw [dropS h]; simp [lnoF, hw]
theorem text_blank {rows : List Bytes} {i : Nat} {k : Int} (h : i < rows.length) (hw : (wordsL (gS rows i)).length = 0) : textF (rows.drop i) k = textF (rows.drop (i + 1)) (k + 1) := by
  rw [dropS h]; simp [textF, hw]
theorem text_ok {rows : List Bytes} {i : Nat} {k : Int} {z : Dr} (h : i < rows.length) (hw : (wordsL (gS rows i)).length ≠ 0) (hp : parseD (wordsL (gS rows i)) = (z, 0)) : textF (rows.drop i) k = addF [z] (textF (rows.drop (i + 1)) (k + 1)) := by
  rw [dropS h]
  simp only [textF]
  rw [if_neg hw, hp, if_pos rfl]
theorem text_bad {rows : List Bytes} {i : Nat} {k : Int} {z : Dr} {q : Int} (h : i < rows.length) (hw : (wordsL (gS rows i)).length ≠ 0) (hp : parseD (wordsL (gS rows i)) = (z, q)) (hq : q ≠ 0) : textF (rows.drop i) k = ([], k, q) := by
  rw [dropS h]
  simp only [textF]
  rw [if_neg hw, hp, if_neg hq]
theorem print_ok {l : List Dr} {i : Nat} (h : i < l.length) (hr : rightD (gDr l i) = true) : printF (l.drop i) = (printF (l.drop (i + 1))).map (lineL (wordsD (gDr l i)) ++ ·) := by
  rw [dropDr h]; simp [printF, hr]
theorem print_no {l : List Dr} {i : Nat} (h : i < l.length) (hr : rightD (gDr l i) = false) : printF (l.drop i) = none := by
  rw [dropDr h]; simp [printF, hr]
theorem finS_mem {B : Nat} {st : Pcs} (h1 : ∀ x ∈ st.1, x.length ≤ B) (h2 : st.2.length ≤ B) : ∀ x ∈ finS st, x.length ≤ B := by
  unfold finS
  split
  · exact h1
  · intro x hx
    rcases List.mem_append.1 hx with h | h
    · exact h1 x h
    · simp at h; subst h; exact h2
theorem foldL_mem : ∀ (s : Bytes) (o : List Bytes) (cur : Bytes) (B : Nat), (∀ x ∈ o, x.length ≤ B) → cur.length + s.length ≤ B → (∀ x ∈ (s.foldl stL (o, cur)).1, x.length ≤ B) ∧ (s.foldl stL (o, cur)).2.length ≤ B
  | [], o, cur, B, h1, h2 => ⟨h1, by simpa using h2⟩
  | c :: r, o, cur, B, h1, h2 => by
    rw [List.foldl_cons]
    simp at h2
    by_cases h : c = 10
    · subst h; rw [stL_ten]
      refine foldL_mem r (o ++ [cur]) [] B (fun x hx => ?_) (by simp; omega)
      rcases List.mem_append.1 hx with h | h
      · exact h1 x h
      · simp at h; subst h; omega
    · rw [stL_other h]
      exact foldL_mem r o (cur ++ [c]) B h1 (by simp; omega)
theorem lines_mem {s x : Bytes} (h : x ∈ linesL s) : x.length ≤ s.length := by
  unfold linesL at h
  obtain ⟨h1, h2⟩ := foldL_mem s [] [] s.length (by simp) (by simp)
  exact finS_mem h1 h2 x h
theorem foldW_mem : ∀ (s : Bytes) (o : List Bytes) (cur : Bytes) (B : Nat), (∀ x ∈ o, x.length ≤ B) → cur.length + s.length ≤ B → (∀ x ∈ (s.foldl stW (o, cur)).1, x.length ≤ B) ∧ (s.foldl stW (o, cur)).2.length ≤ B
  | [], o, cur, B, h1, h2 => ⟨h1, by simpa using h2⟩
  | c :: r, o, cur, B, h1, h2 => by
    rw [List.foldl_cons]
    simp at h2
    cases h : blankC c with
    | true =>
      rw [stW_blank h]
      split
      · exact foldW_mem r o [] B h1 (by simp; omega)
      · refine foldW_mem r (o ++ [cur]) [] B (fun x hx => ?_) (by simp; omega)
        rcases List.mem_append.1 hx with h | h
        · exact h1 x h
        · simp at h; subst h; omega
    | false =>
      rw [stW_other h]
      exact foldW_mem r o (cur ++ [c]) B h1 (by simp; omega)
theorem words_mem {s x : Bytes} (h : x ∈ wordsL s) : x.length ≤ s.length := by
  unfold wordsL at h
  have hh := hash_le s
  obtain ⟨h1, h2⟩ := foldW_mem (hashL s) [] [] s.length (by simp) (by simp; omega)
  exact finS_mem h1 h2 x h
theorem own_low {w w' : World} {base : Nat} {e : TypeId} {size n : Nat} {v : Value} {xs : List Value} {row : Option Nat} (h : w.ownsRow base e size v n xs) (hg : w.grownBy w' row) (hr : ∀ q, row = some q → q < base) : w'.ownsRow base e size v n xs :=
  h.kept hg (by
    cases hq : v.ownBlock with
    | none => exact .inl rfl
    | some q => exact .inr (fun e => by have := hr q e.symm; have := (h.lt q hq).1; omega))
end Go.Proofs.YtcclfmaockapjaaGreatDoor

/- Contract of text.Lines: the numbers of the lines that have words. It makes new memory alone. -/
namespace Go.Proofs.YtcclfmaockapjaaGreatDoor
open Go.ChangeShapes Go.WideShapes Go.ChangeAt Go.RowKit Go.Sort
set_option linter.unusedSimpArgs false
set_option linter.unusedVariables false
set_option maxHeartbeats 8000000 in
set_option maxRecDepth 100000 in
theorem tlines_any (s0 : ByteArray) (rows : List Bytes) (n : Nat) (hr : linesL s0.data.toList = rows) (hn : rows.length = n) (w : World) (hm : MaxAt w) (hs : s0.data.toList.length ≤ 50000) :
    Calls Tryz.prog 11 #[.string s0] w fun e w' => ∃ v, e = .returned v ∧ w'.ownsRow w.heap.size 3 1 v (lnoF rows 1).length ((lnoF rows 1).map (Value.int .i64)) ∧ Below w.heap.size w w' := by
  obtain ⟨i0, hi0, hz0, hz1, hz2⟩ := info_parts infoI04
  have hnb : n ≤ 50001 := by rw [← hn, ← hr]; have := lines_len s0.data.toList; omega
  have HSZ := Lib.hid (fun x (hx : x ∈ rows) => Nat.le_trans (lines_mem (s := s0.data.toList) (by rw [hr]; exact hx)) hs)
  have HN := Lib.hid hn
  have HR := Lib.hid hr
  have HS := Lib.hid hs
  clear hn hr hs
  go_enter Tryz.func11, Tryz.ntmps11
  go_wp2_with fail
  refine (lines_is s0 rows n HR.out HN.out w hm (by have := HS.out; omega)).mono ?_
  rintro e w1 ⟨A, c, rfl, hrow, hB1⟩
  replace hm := hm.below hB1
  have HL := Lib.hid (Sl.of_own hrow)
  have HM := Lib.hid hm
  clear hrow hm
  go_wp2
  go_loopw [3, 9] (fun ev iv wr => ∃ (i m : Nat) (ns : List Int), iv = .int .i64 i ∧ i ≤ n ∧ m ≤ i ∧ Hid (ns.length = m) ∧ Hid (lnoF rows 1 = ns ++ lnoF (rows.drop i) ((i : Int) + 1)) ∧ wr.ownsRow w1.heap.size 3 1 ev m (ns.map (Value.int .i64)) ∧ Below w1.heap.size w1 wr) (fun _ iv _ => n - (intOf iv).toNat)
  case atStart => exact ⟨0, 0, [], rfl, by omega, by omega, rfl, rfl, World.ownsRow_nil _ _ _ _, Below.refl _ _⟩
  case round =>
    obtain ⟨i, m, ns, rfl, hi, hmi, HLN, HF, hown, hB⟩ := hrel
    have hsz := hB.size
    obtain ⟨Ae, ce, rfl⟩ := slice_of_own hown
    by_cases hin : i < n
    · obtain ⟨ad, rfl, hab, c0⟩ := (HL.out.below hB).lst.atS HN.out hin
      have hil : i < rows.length := by rw [HN.out]; exact hin
      have hxs : (gS rows i).length ≤ 50000 := HSZ.out _ (by rw [gS_eq hil]; exact List.getElem_mem _)
      have HIL := Lib.hid hil
      clear hil
      obtain ⟨x, hx⟩ : ∃ x, gS rows i = x := ⟨_, rfl⟩
      rw [hx] at c0 hxs
      obtain ⟨k, hk⟩ : ∃ k, (wordsL x).length = k := ⟨_, rfl⟩
      have HX := Lib.hid hx
      have HK := Lib.hid hk
      have HXS := Lib.hid hxs
      clear hx hk hxs
      go_wp2_with fail
      clear c0
      refine (words_is (bs x) (wordsL x) k (by rw [bs_list]) HK.out wr (HM.out.below hB) (by rw [bs_list]; have := HXS.out; omega)).mono ?_
      rintro e w2 ⟨A2, c2, rfl, hw2, hb⟩
      replace hown := own_below hown hb
      replace hB := hB.trans (hb.mono hsz)
      replace hsz := hB.size
      clear hb hw2
      by_cases hk0 : k = 0
      · subst hk0
        have HN2 : Hid (lnoF rows 1 = ns ++ lnoF (rows.drop (i + 1)) ((i : Int) + 1 + 1)) := by
          show _ = _
          rw [HF.out, lno_blank HIL.out (by rw [HX.out]; exact HK.out)]
        go_wp2_with fail
        go_roundw
        case rel => exact ⟨i + 1, m, ns, by go_num, by omega, by omega, HLN, by have h := HN2.out; simpa [Hid] using h, hown, hB⟩
        case measure => simp [intOf]; omega
      · have hk1 : (0 : Int) < (k : Int) := by omega
        have HN2 : Hid (lnoF rows 1 = (ns ++ [(i : Int) + 1]) ++ lnoF (rows.drop (i + 1)) ((i : Int) + 1 + 1)) := by
          show _ = _
          rw [HF.out, lno_word HIL.out (by rw [HX.out, HK.out]; exact hk0), List.append_assoc]; rfl
        have hwr : IntKind.i64.wrap ((i : Int) + 1) = (i : Int) + 1 := IntWalk.i64_in _ (by omega)
        go_wp2_with (first | (at_builtin; refine wpList_append_own _ rfl _ _ 33 rfl w1.heap.size 3 i0 _ 1 8 Tryz.underlying33 hi0 hz0 hz1 hz2 rfl (by decide) _ _ _ rfl (hown.alloc _) ⟨w2.heap.size, 0, none⟩ 1 1 [.int .i64 ((i : Int) + 1)] rfl rfl (by exact lit_cells w2 #[.int .i64 ((i : Int) + 1)] _ _ rfl) (by simp [Value.oneCell']) (by unfold maxLen; omega) (by omega) (by simp; omega) ?_; intro v' w3 hown' hgrow3 hnil3))
        have hbN : Below w1.heap.size w1 w3 := (hB.alloc hsz _).grown hgrow3 (by simp; omega) (fun q hq => (hown.lt q hq).1)
        clear hgrow3 hnil3
        go_wp2_with fail
        go_roundw
        case rel => exact ⟨i + 1, m + 1, ns ++ [(i : Int) + 1], by go_num, by omega, by omega, by simp [Hid, HLN.out], by have h := HN2.out; simpa [Hid] using h, (by rw [ints_app04]; exact hown'), hbN⟩
        case measure => simp [intOf]; omega
    · obtain rfl : n = i := by omega
      have hf : lnoF rows 1 = ns := by rw [HF.out, List.drop_eq_nil_of_le (by rw [HN.out]; omega)]; simp [lnoF]
      have HFX := Lib.hid hf
      clear hf
      go_wp2_with fail
      go_ret
      exact ⟨_, rfl, by rw [HFX.out, HLN.out]; exact own_down hown hB1.size, hB1.trans (hB.mono hB1.size)⟩
end Go.Proofs.YtcclfmaockapjaaGreatDoor

/- Contract of text.Parse: the directives of a text, or its first fault. It makes new memory alone. -/
namespace Go.Proofs.YtcclfmaockapjaaGreatDoor
open Go.ChangeShapes Go.WideShapes Go.ChangeAt Go.RowKit Go.Sort
set_option linter.unusedSimpArgs false
set_option linter.unusedVariables false
theorem flatDr_one_ (y : Dr) : flatDr [y] = [.int .i64 y.op, .int .i64 y.kd, .int .i64 y.id, .int .i64 y.fr, .int .i64 y.tn, .int .i64 y.st, .int .i64 y.en, .int .i64 y.rt, .int .i64 y.rf, .int .i64 y.rn, .int .i64 y.rs, .int .i64 y.re, .int .i64 y.ro] := rfl
theorem textF_bound : ∀ (rows : List Bytes) (k : Int), (textF rows k).2.2 = 0 → (textF rows k).2.1 = 0 ∧ (textF rows k).1.length ≤ rows.length
  | [], k, _ => ⟨rfl, by simp [textF]⟩
  | r :: rs, k, h => by
    have ih := textF_bound rs (k + 1)
    simp only [textF] at h ⊢
    split at h
    · rename_i h0
      rw [if_pos h0]
      obtain ⟨h1, h2⟩ := ih h
      exact ⟨h1, by simp; omega⟩
    · rename_i h0
      rw [if_neg h0]
      split at h
      · rename_i h1
        rw [if_pos h1]
        rw [addF_code] at h
        obtain ⟨h2, h3⟩ := ih h
        refine ⟨by rw [addF_code]; exact h2, ?_⟩
        unfold addF
        rw [if_pos h]
        simp
        omega
      · rename_i h1
        exact absurd h h1
set_option maxHeartbeats 8000000 in
set_option maxRecDepth 100000 in
theorem tparse_any (s0 : ByteArray) (rows : List Bytes) (n : Nat) (hr : linesL s0.data.toList = rows) (hn : rows.length = n) (w : World) (hm : MaxAt w) (hs : s0.data.toList.length ≤ 50000) (ds : List Dr) (ln cd : Int) (hz : textF rows 1 = (ds, ln, cd)) :
    Calls Tryz.prog 5 #[.string s0] w fun e w' => ∃ v, e = .returned (.tuple #[v, .agg #[.int .i64 ln, .int .i64 cd]]) ∧ w'.ownsRow w.heap.size 41 13 v ds.length (flatDr ds) ∧ Below w.heap.size w w' := by
  obtain ⟨i0, hi0, hz0, hz1, hz2⟩ := info_parts infoDr
  have hnb : n ≤ 50001 := by rw [← hn, ← hr]; have := lines_len s0.data.toList; omega
  have HSZ := Lib.hid (fun x (hx : x ∈ rows) => Nat.le_trans (lines_mem (s := s0.data.toList) (by rw [hr]; exact hx)) hs)
  have HN := Lib.hid hn
  have HR := Lib.hid hr
  have HS := Lib.hid hs
  have HZ := Lib.hid hz
  clear hn hr hs hz
  have hX := Blok.new w 26 #[.int .i64 0, .int .i64 0]
  have hB0 : Below w.heap.size w (w.alloc (.cells #[.int .i64 0, .int .i64 0] 26)) := by (repeat (first | exact Below.refl _ _ | refine Below.alloc ?_ (by first | omega | (simp; done) | (simp; omega)) _ | refine Below.setCell ?_ (by first | omega | (simp; done) | (simp; omega)) _ | refine Below.drew ?_))
  have hm0 := hm.below hB0
  clear hm
  have hs0 := hB0.size
  go_enter Tryz.func5, Tryz.ntmps5
  go_wp2_with fail
  generalize w.alloc (.cells #[.int .i64 0, .int .i64 0] 26) = w0 at *
  refine (lines_is s0 rows n HR.out HN.out w0 hm0 (by have := HS.out; omega)).mono ?_
  rintro e w1 ⟨A, c, rfl, hrow, hb⟩
  have hm := hm0.below hb
  clear hm0
  have hX1 := hX.below hb hX.lt
  have hB1 := hB0.trans (hb.mono hs0)
  have hs1 := hB1.size
  have hx1 := hX1.lt
  have HL := Lib.hid (Sl.of_own hrow)
  have HM := Lib.hid hm
  have HX1 := Lib.hid hX1
  clear hrow hm hX hb hX1 hB0 hs0
  go_wp2
  go_loopw [4, 13] (fun ev iv wr => ∃ (i m : Nat) (es : List Dr), iv = .int .i64 i ∧ i ≤ n ∧ m ≤ i ∧ Hid (es.length = m) ∧ Hid (textF rows 1 = addF es (textF (rows.drop i) ((i : Int) + 1))) ∧ wr.ownsRow w1.heap.size 41 13 ev m (flatDr es) ∧ Below w1.heap.size w1 wr) (fun _ iv _ => n - (intOf iv).toNat)
  case atStart => exact ⟨0, 0, [], rfl, by omega, by omega, rfl, by simp [Hid, addF_nil], World.ownsRow_nil _ _ _ _, Below.refl _ _⟩
  case round =>
    obtain ⟨i, m, es, rfl, hi, hmi, HLN, HF, hown, hB⟩ := hrel
    have hsz := hB.size
    obtain ⟨Ae, ce, rfl⟩ := slice_of_own hown
    by_cases hin : i < n
    · obtain ⟨ad, rfl, hab, c0⟩ := (HL.out.below hB).lst.atS HN.out hin
      have hil : i < rows.length := by rw [HN.out]; exact hin
      have hxs : (gS rows i).length ≤ 50000 := HSZ.out _ (by rw [gS_eq hil]; exact List.getElem_mem _)
      have HIL := Lib.hid hil
      clear hil
      obtain ⟨x, hx⟩ : ∃ x, gS rows i = x := ⟨_, rfl⟩
      rw [hx] at c0 hxs
      obtain ⟨k, hk⟩ : ∃ k, (wordsL x).length = k := ⟨_, rfl⟩
      have HX := Lib.hid hx
      have HK := Lib.hid hk
      have HXS := Lib.hid hxs
      clear hx hk hxs
      go_wp2_with fail
      clear c0
      refine (words_is (bs x) (wordsL x) k (by rw [bs_list]) HK.out wr (HM.out.below hB) (by rw [bs_list]; have := HXS.out; omega)).mono ?_
      rintro e w2 ⟨A2, c2, rfl, hw2, hb⟩
      replace hown := own_below hown hb
      replace hB := hB.trans (hb.mono hsz)
      replace hsz := hB.size
      clear hb
      by_cases hk0 : k = 0
      · subst hk0
        have HN2 : Hid (textF rows 1 = addF es (textF (rows.drop (i + 1)) ((i : Int) + 1 + 1))) := by
          show _ = _
          rw [HF.out, text_blank HIL.out (by rw [HX.out]; exact HK.out)]
        clear hw2
        go_wp2_with fail
        go_roundw
        case rel => exact ⟨i + 1, m, es, by go_num, by omega, by omega, HLN, by have h := HN2.out; simpa [Hid] using h, hown, hB⟩
        case measure => simp [intOf]; omega
      · have hk1 : ((k : Int) == 0) = false := by simp; omega
        have hkb : k ≤ 100000 := by rw [← HK.out]; have := words_len x; have := HXS.out; omega
        obtain ⟨z, q, hzq⟩ : ∃ z q, parseD (wordsL x) = (z, q) := ⟨_, _, rfl⟩
        have HZQ := Lib.hid hzq
        have hSW := Sl.of_own hw2
        clear hzq hw2
        go_wp2_with fail
        refine (dparse_any A2 k c2 (wordsL x) w2 HK.out hkb (fun y hy => by have := words_mem hy; have := HXS.out; unfold maxLen; omega) hSW z q HZQ.out).mono ?_
        rintro e w3 ⟨rfl, hb⟩
        replace hown := own_below hown hb
        replace hB := hB.trans (hb.mono hsz)
        replace hsz := hB.size
        clear hSW hb
        by_cases hq : q = 0
        · subst hq
          have HN2 : Hid (textF rows 1 = addF (es ++ [z]) (textF (rows.drop (i + 1)) ((i : Int) + 1 + 1))) := by
            show _ = _
            rw [HF.out, text_ok HIL.out (by rw [HX.out, HK.out]; exact hk0) (by rw [HX.out]; exact HZQ.out), addF_addF]
          go_upto_region 10 with fail
          have hZ := Blok.new w3 41 #[.int .i64 z.op, .int .i64 z.kd, .int .i64 z.id, .int .i64 z.fr, .int .i64 z.tn, .int .i64 z.st, .int .i64 z.en, .int .i64 z.rt, .int .i64 z.rf, .int .i64 z.rn, .int .i64 z.rs, .int .i64 z.re, .int .i64 z.ro]
          have hb : Below w3.heap.size w3 (w3.alloc (.cells #[.int .i64 z.op, .int .i64 z.kd, .int .i64 z.id, .int .i64 z.fr, .int .i64 z.tn, .int .i64 z.st, .int .i64 z.en, .int .i64 z.rt, .int .i64 z.rf, .int .i64 z.rn, .int .i64 z.rs, .int .i64 z.re, .int .i64 z.ro] 41)) := by (repeat (first | exact Below.refl _ _ | refine Below.alloc ?_ (by first | omega | (simp; done) | (simp; omega)) _ | refine Below.setCell ?_ (by first | omega | (simp; done) | (simp; omega)) _ | refine Below.drew ?_))
          replace hown := own_below hown hb
          replace hB := hB.trans (hb.mono hsz)
          replace hsz := hB.size
          clear hb
          generalize w3.alloc (.cells #[.int .i64 z.op, .int .i64 z.kd, .int .i64 z.id, .int .i64 z.fr, .int .i64 z.tn, .int .i64 z.st, .int .i64 z.en, .int .i64 z.rt, .int .i64 z.rf, .int .i64 z.rn, .int .i64 z.rs, .int .i64 z.re, .int .i64 z.ro] 41) = w4 at *
          generalize hbz : w3.heap.size = bz at *
          clear hbz
          have y0 : w4.cell? ⟨bz, 0, none⟩ = some (.int .i64 z.op) := hZ.cell 0
          have y1 : w4.cell? ⟨bz, 1, none⟩ = some (.int .i64 z.kd) := hZ.cell 1
          have y2 : w4.cell? ⟨bz, 2, none⟩ = some (.int .i64 z.id) := hZ.cell 2
          have y3 : w4.cell? ⟨bz, 3, none⟩ = some (.int .i64 z.fr) := hZ.cell 3
          have y4 : w4.cell? ⟨bz, 4, none⟩ = some (.int .i64 z.tn) := hZ.cell 4
          have y5 : w4.cell? ⟨bz, 5, none⟩ = some (.int .i64 z.st) := hZ.cell 5
          have y6 : w4.cell? ⟨bz, 6, none⟩ = some (.int .i64 z.en) := hZ.cell 6
          have y7 : w4.cell? ⟨bz, 7, none⟩ = some (.int .i64 z.rt) := hZ.cell 7
          have y8 : w4.cell? ⟨bz, 8, none⟩ = some (.int .i64 z.rf) := hZ.cell 8
          have y9 : w4.cell? ⟨bz, 9, none⟩ = some (.int .i64 z.rn) := hZ.cell 9
          have y10 : w4.cell? ⟨bz, 10, none⟩ = some (.int .i64 z.rs) := hZ.cell 10
          have y11 : w4.cell? ⟨bz, 11, none⟩ = some (.int .i64 z.re) := hZ.cell 11
          have y12 : w4.cell? ⟨bz, 12, none⟩ = some (.int .i64 z.ro) := hZ.cell 12
          have lt_y := hZ.lt
          go_wp2_with (first | (at_builtin; refine wpList_append_own _ rfl _ _ 22 rfl w1.heap.size 41 i0 _ 13 104 Tryz.underlying22 hi0 hz0 hz1 hz2 rfl (by decide) _ _ _ rfl (hown.alloc _) ⟨w4.heap.size, 0, none⟩ 1 1 [.int .i64 z.op, .int .i64 z.kd, .int .i64 z.id, .int .i64 z.fr, .int .i64 z.tn, .int .i64 z.st, .int .i64 z.en, .int .i64 z.rt, .int .i64 z.rf, .int .i64 z.rn, .int .i64 z.rs, .int .i64 z.re, .int .i64 z.ro] rfl rfl (by exact lit_cells w4 #[.int .i64 z.op, .int .i64 z.kd, .int .i64 z.id, .int .i64 z.fr, .int .i64 z.tn, .int .i64 z.st, .int .i64 z.en, .int .i64 z.rt, .int .i64 z.rf, .int .i64 z.rn, .int .i64 z.rs, .int .i64 z.re, .int .i64 z.ro] _ _ rfl) (by simp [Value.oneCell']) (by unfold maxLen; omega) (by omega) (by simp; omega) ?_; intro v' w5 hown' hgrow5 hnil5))
          have hbN : Below w1.heap.size w1 w5 := (hB.alloc hsz _).grown hgrow5 (by simp; omega) (fun q hq => (hown.lt q hq).1)
          clear hgrow5 hnil5 y0 y1 y2 y3 y4 y5 y6 y7 y8 y9 y10 y11 y12 lt_y hZ
          go_wp2_with fail
          go_roundw
          case rel => exact ⟨i + 1, m + 1, es ++ [z], by go_num, by omega, by omega, by simp [Hid, HLN.out], by have h := HN2.out; simpa [Hid] using h, (by rw [flatDr_append, flatDr_one_]; exact hown'), hbN⟩
          case measure => simp [intOf]; omega
        · have hqb : (q != 0) = true := by simpa using hq
          have hf : textF rows 1 = ([], (i : Int) + 1, q) := by
            rw [HF.out, text_bad HIL.out (by rw [HX.out, HK.out]; exact hk0) (by rw [HX.out]; exact HZQ.out) hq]
            unfold addF
            rw [if_neg hq]
          rw [HZ.out] at hf
          injection hf with f1 f2
          injection f2 with f2 f3
          subst f1 f2 f3
          have hwr : IntKind.i64.wrap ((i : Int) + 1) = (i : Int) + 1 := IntWalk.i64_in _ (by omega)
          have hb : Below w3.heap.size w3 (w3.alloc (.cells #[.int .i64 z.op, .int .i64 z.kd, .int .i64 z.id, .int .i64 z.fr, .int .i64 z.tn, .int .i64 z.st, .int .i64 z.en, .int .i64 z.rt, .int .i64 z.rf, .int .i64 z.rn, .int .i64 z.rs, .int .i64 z.re, .int .i64 z.ro] 41)) := by (repeat (first | exact Below.refl _ _ | refine Below.alloc ?_ (by first | omega | (simp; done) | (simp; omega)) _ | refine Below.setCell ?_ (by first | omega | (simp; done) | (simp; omega)) _ | refine Below.drew ?_))
          replace hB := hB.trans (hb.mono hsz)
          replace hsz := hB.size
          have hX3 := HX1.out.below hB HX1.out.lt
          have hXlt := hX3.lt
          have r_0 : (w3.alloc (.cells #[.int .i64 z.op, .int .i64 z.kd, .int .i64 z.id, .int .i64 z.fr, .int .i64 z.tn, .int .i64 z.st, .int .i64 z.en, .int .i64 z.rt, .int .i64 z.rf, .int .i64 z.rn, .int .i64 z.rs, .int .i64 z.re, .int .i64 z.ro] 41)).cell? ⟨w.heap.size, 0, none⟩ = some (.int .i64 0) := hX3.cell 0
          have r_1 : (w3.alloc (.cells #[.int .i64 z.op, .int .i64 z.kd, .int .i64 z.id, .int .i64 z.fr, .int .i64 z.tn, .int .i64 z.st, .int .i64 z.en, .int .i64 z.rt, .int .i64 z.rf, .int .i64 z.rn, .int .i64 z.rs, .int .i64 z.re, .int .i64 z.ro] 41)).cell? ⟨w.heap.size, 1, none⟩ = some (.int .i64 0) := hX3.cell 1
          have f_0 := hX3.free 0
          have f_1 := hX3.free 1
          have hB9 := hB1.trans (hB.mono hs1)
          clear hb
          go_wp2_with fail
          generalize w3.alloc (.cells #[.int .i64 z.op, .int .i64 z.kd, .int .i64 z.id, .int .i64 z.fr, .int .i64 z.tn, .int .i64 z.st, .int .i64 z.en, .int .i64 z.rt, .int .i64 z.rf, .int .i64 z.rn, .int .i64 z.rs, .int .i64 z.re, .int .i64 z.ro] 41) = w4 at *
          clear r_0 r_1 f_0 f_1 hXlt
          have hF : Blok ((w4.setCell ⟨w.heap.size, 0, none⟩ (.int .i64 ((i : Int) + 1))).setCell ⟨w.heap.size, 1, none⟩ (.int .i64 cd)) w.heap.size 26 #[.int .i64 ((i : Int) + 1), .int .i64 cd] := by have h := ((hX3.set_ 0 (.int .i64 ((i : Int) + 1))).set_ 1 (.int .i64 cd)); simpa using h
          have hle0 : w.heap.size ≤ w.heap.size := by first | exact Nat.le_refl _ | omega
          have hWf : Below w.heap.size w ((w4.setCell ⟨w.heap.size, 0, none⟩ (.int .i64 ((i : Int) + 1))).setCell ⟨w.heap.size, 1, none⟩ (.int .i64 cd)) := ((hB9.setCell (p := ⟨w.heap.size, 0, none⟩) hle0 (.int .i64 ((i : Int) + 1))).setCell (p := ⟨w.heap.size, 1, none⟩) hle0 (.int .i64 cd))
          have hlF := hF.lt
          generalize ((w4.setCell ⟨w.heap.size, 0, none⟩ (.int .i64 ((i : Int) + 1))).setCell ⟨w.heap.size, 1, none⟩ (.int .i64 cd)) = wf at *
          have r0 : wf.cell? ⟨w.heap.size, 0, none⟩ = some (.int .i64 ((i : Int) + 1)) := hF.cell 0
          have r1 : wf.cell? ⟨w.heap.size, 1, none⟩ = some (.int .i64 cd) := hF.cell 1
          refine bodyPost_ret (v := .tuple #[(.slice none 0 0), .agg #[.int .i64 ((i : Int) + 1), .int .i64 cd]]) (by simp [results, Tryz.results5, go_sem, r0, r1, hlF]) rfl ?_
          exact ⟨_, rfl, World.ownsRow_nil _ _ _ _, hWf⟩
    · obtain rfl : n = i := by omega
      have hf : textF rows 1 = (es, 0, 0) := by rw [HF.out, List.drop_eq_nil_of_le (by rw [HN.out]; omega)]; simp [textF, addF]
      rw [HZ.out] at hf
      injection hf with f1 f2
      injection f2 with f2 f3
      subst f1 f2 f3
      have hX3 := HX1.out.below hB HX1.out.lt
      have hXlt := hX3.lt
      have r_0 : wr.cell? ⟨w.heap.size, 0, none⟩ = some (.int .i64 0) := hX3.cell 0
      have r_1 : wr.cell? ⟨w.heap.size, 1, none⟩ = some (.int .i64 0) := hX3.cell 1
      have f_0 := hX3.free 0
      have f_1 := hX3.free 1
      have hB9 := hB1.trans (hB.mono hs1)
      have hown9 := hown
      go_wp2_with fail
      clear r_0 r_1 f_0 f_1 hXlt
      have hown1 := own_low (own_low hown (grown_set (g := w.heap.size) wr 0 (.int .i64 0)) (fun q hq => by injection hq with hq; omega)) (grown_set (g := w.heap.size) (wr.setCell ⟨w.heap.size, 0, none⟩ (.int .i64 0)) 1 (.int .i64 0)) (fun q hq => by injection hq with hq; omega)
      clear hown9
      have hF : Blok ((wr.setCell ⟨w.heap.size, 0, none⟩ (.int .i64 0)).setCell ⟨w.heap.size, 1, none⟩ (.int .i64 0)) w.heap.size 26 #[.int .i64 0, .int .i64 0] := by have h := ((hX3.set_ 0 (.int .i64 0)).set_ 1 (.int .i64 0)); simpa using h
      have hle0 : w.heap.size ≤ w.heap.size := by first | exact Nat.le_refl _ | omega
      have hWf : Below w.heap.size w ((wr.setCell ⟨w.heap.size, 0, none⟩ (.int .i64 0)).setCell ⟨w.heap.size, 1, none⟩ (.int .i64 0)) := ((hB9.setCell (p := ⟨w.heap.size, 0, none⟩) hle0 (.int .i64 0)).setCell (p := ⟨w.heap.size, 1, none⟩) hle0 (.int .i64 0))
      have hlF := hF.lt
      generalize ((wr.setCell ⟨w.heap.size, 0, none⟩ (.int .i64 0)).setCell ⟨w.heap.size, 1, none⟩ (.int .i64 0)) = wf at *
      have r0 : wf.cell? ⟨w.heap.size, 0, none⟩ = some (.int .i64 0) := hF.cell 0
      have r1 : wf.cell? ⟨w.heap.size, 1, none⟩ = some (.int .i64 0) := hF.cell 1
      refine bodyPost_ret (v := .tuple #[(.slice Ae m ce), .agg #[.int .i64 0, .int .i64 0]]) (by simp [results, Tryz.results5, go_sem, r0, r1, hlF]) rfl ?_
      exact ⟨_, rfl, by rw [HLN.out]; exact own_down hown1 hs1, hWf⟩
end Go.Proofs.YtcclfmaockapjaaGreatDoor

/- The document's own words for the same rows (directives, numbers): contracts. No condition but on sizes. -/
namespace Go.Proofs.YtcclfmaockapjaaGreatDoor
open Go.ChangeShapes Go.WideShapes Go.ChangeAt Go.RowKit Go.Sort
set_option linter.unusedSimpArgs false
set_option linter.unusedVariables false
def gI5 (d : List Int) (i : Nat) : Int := d.getD i 0
theorem gI5_eq {d : List Int} {k : Nat} (h : k < d.length) : gI5 d k = d[k] := by simp [gI5, List.getD_eq_getElem?_getD, List.getElem?_eq_getElem h]
theorem take_nextI5 {l : List Int} {k : Nat} (h : k < l.length) : l.take (k + 1) = l.take k ++ [gI5 l k] := by
  rw [List.take_succ_eq_append_getElem h, gI5_eq h]
theorem Lst.atI5 {w : World} {B : Nat} {A : Option Addr} {n : Nat} {l : List Int} (h : Lst w B 1 A n (l.map (Value.int .i64))) (hl : l.length = n) {k : Nat} (hk : k < n) : ∃ ad, A = some ad ∧ ad.block < B ∧ w.cell? (ad.add k) = some (.int .i64 (gI5 l k)) := by
  obtain ⟨ad, e, hb, hc⟩ := h.at_ (by omega)
  refine ⟨ad, e, hb, hc _ _ ?_⟩
  rw [List.getElem?_map, List.getElem?_eq_getElem (by omega), gI5_eq (by omega)]
  rfl
set_option maxHeartbeats 1000000 in
set_option maxRecDepth 100000 in
theorem fints_any (A A' : Option Addr) (n c n' c' : Nat) (d d' : List Int) (w : World) (hd : d.length = n) (hd' : d'.length = n') (hn : n ≤ 100000) (h : Sl w w.heap.size 1 A n c (d.map (Value.int .i64))) (h' : Sl w w.heap.size 1 A' n' c' (d'.map (Value.int .i64))) :
    Calls Tryz.prog 10 #[.slice A n c, .slice A' n' c'] w fun e w' => e = .returned (.bool (decide (d = d'))) ∧ Below w.heap.size w w' := by
  have HD := Lib.hid hd
  have HD' := Lib.hid hd'
  clear hd hd'
  by_cases hl : n = n'
  · subst hl
    have HL := Lib.hid h
    have HL' := Lib.hid h'
    clear h h'
    go_enter Tryz.func10, Tryz.ntmps10
    go_wp2
    go_loopw [5] (fun iv wr => ∃ (i : Nat), iv = .int .i64 i ∧ i ≤ n ∧ Hid (d.take i = d'.take i) ∧ Below w.heap.size w wr) (fun iv _ => n - (intOf iv).toNat)
    case atStart => exact ⟨0, rfl, by omega, by simp [Hid], Below.refl _ _⟩
    case round =>
      obtain ⟨i, rfl, hi, HE, hB⟩ := hrel
      by_cases hin : i < n
      · obtain ⟨ad, rfl, hab, c0⟩ := (HL.out.below hB).lst.atI5 HD.out hin
        obtain ⟨ad', rfl, hab', c0'⟩ := (HL'.out.below hB).lst.atI5 HD'.out hin
        by_cases he : gI5 d i = gI5 d' i
        · have HE2 : Hid (d.take (i + 1) = d'.take (i + 1)) := by
            show d.take (i + 1) = d'.take (i + 1)
            rw [take_nextI5 (by rw [HD.out]; exact hin), take_nextI5 (by rw [HD'.out]; exact hin), HE.out, he]
          rw [he] at c0
          clear HE
          go_wp2_with fail
          have q_c0 := fun d os => cell_regrown c0 d os
          have q_c0' := fun d os => cell_regrown c0' d os
          try simp only [List.append]
          first | refine wp_region_text_below ?_ | refine wp_region_quiet_below (by kernel_rfl) (by kernel_rfl) ?_
          repeat (go_big_quiet_step ((fail)))
          refine wpQuiet_nil ?_
          intro _ hqw
          obtain ⟨pq, hqw⟩ := hqw
          subst hqw
          clear q_c0 q_c0'
          have hbq := hB.trans ((below_regrown wr pq.d pq.os).mono hB.size)
          clear c0 c0'
          generalize grow (redrawn wr pq.d) pq.os = wq at *
          go_wp2_with fail
          go_roundw
          case rel => exact ⟨i + 1, by go_num, by omega, HE2, hbq⟩
          case measure => simp [intOf]; omega
        · have hne : d ≠ d' := fun e => he (by rw [e])
          have hsb : ((gI5 d i) != (gI5 d' i)) = true := by simpa using he
          have HNE := Lib.hid hne
          clear hne
          generalize gI5 d i = s1 at *
          generalize gI5 d' i = s2 at *
          go_wp2_with fail
          have q_c0 := fun d os => cell_regrown c0 d os
          have q_c0' := fun d os => cell_regrown c0' d os
          try simp only [List.append]
          first | refine wp_region_text_below ?_ | refine wp_region_quiet_below (by kernel_rfl) (by kernel_rfl) ?_
          repeat (go_big_quiet_step ((fail)))
          refine wpQuiet_nil ?_
          intro _ hqw
          obtain ⟨pq, hqw⟩ := hqw
          subst hqw
          clear q_c0 q_c0'
          have hbq := hB.trans ((below_regrown wr pq.d pq.os).mono hB.size)
          clear c0 c0'
          generalize grow (redrawn wr pq.d) pq.os = wq at *
          go_wp2_with fail
          go_ret
          exact ⟨by rw [decide_eq_false HNE.out]; rfl, hbq⟩
      · have hie : i = n := by omega
        subst hie
        have hdd : d = d' := by
          have := HE.out
          rw [List.take_of_length_le (by rw [HD.out]; omega), List.take_of_length_le (by rw [HD'.out]; omega)] at this
          exact this
        have HDD := Lib.hid hdd
        clear hdd
        go_wp2_with fail
        go_ret
        exact ⟨by rw [decide_eq_true HDD.out]; rfl, hB⟩
  · have hne : d ≠ d' := fun e => hl (by rw [← HD.out, ← HD'.out, e])
    have hb : ((n : Int) != (n' : Int)) = true := by simp; omega
    have HNE := Lib.hid hne
    clear hl hne
    go_enter Tryz.func10, Tryz.ntmps10
    go_wp2
    go_ret
    exact ⟨by rw [decide_eq_false HNE.out]; rfl, Below.refl _ _⟩

set_option maxHeartbeats 4000000 in
set_option maxRecDepth 100000 in
theorem fsame_any (A A' : Option Addr) (n c n' c' : Nat) (d d' : List Dr) (w : World) (hd : d.length = n) (hd' : d'.length = n') (hn : n ≤ 100000) (h : Sl w w.heap.size 13 A n c (flatDr d)) (h' : Sl w w.heap.size 13 A' n' c' (flatDr d')) :
    Calls Tryz.prog 9 #[.slice A n c, .slice A' n' c'] w fun e w' => e = .returned (.bool (decide (d = d'))) ∧ Below w.heap.size w w' := by
  have HD := Lib.hid hd
  have HD' := Lib.hid hd'
  clear hd hd'
  by_cases hl : n = n'
  · subst hl
    have HL := Lib.hid h
    have HL' := Lib.hid h'
    clear h h'
    go_enter Tryz.func9, Tryz.ntmps9
    go_wp2
    go_loopw [5] (fun iv wr => ∃ (i : Nat), iv = .int .i64 i ∧ i ≤ n ∧ Hid (d.take i = d'.take i) ∧ Below w.heap.size w wr) (fun iv _ => n - (intOf iv).toNat)
    case atStart => exact ⟨0, rfl, by omega, by simp [Hid], Below.refl _ _⟩
    case round =>
      obtain ⟨i, rfl, hi, HE, hB⟩ := hrel
      by_cases hin : i < n
      · obtain ⟨ad, rfl, hab, c_0, c_1, c_2, c_3, c_4, c_5, c_6, c_7, c_8, c_9, c_10, c_11, c_12⟩ := (HL.out.below hB).lst.atDr HD.out hin
        obtain ⟨ad', rfl, hab', e_0, e_1, e_2, e_3, e_4, e_5, e_6, e_7, e_8, e_9, e_10, e_11, e_12⟩ := (HL'.out.below hB).lst.atDr HD'.out hin
        by_cases he : gDr d i = gDr d' i
        · have HE2 : Hid (d.take (i + 1) = d'.take (i + 1)) := by
            show d.take (i + 1) = d'.take (i + 1)
            rw [take_nextDr (by rw [HD.out]; exact hin), take_nextDr (by rw [HD'.out]; exact hin), HE.out, he]
          have hNE := fun w0 => neqDr (gDr d' i) (gDr d' i) w0
          simp only [decide_true, Bool.not_true, ne_eq, not_true_eq_false, decide_false] at hNE
          rw [he] at c_0 c_1 c_2 c_3 c_4 c_5 c_6 c_7 c_8 c_9 c_10 c_11 c_12
          generalize gDr d' i = y at *
          clear HE
          go_wp2_with fail
          have q_c_0 := fun d os => cell_regrown c_0 d os
          have q_c_1 := fun d os => cell_regrown c_1 d os
          have q_c_2 := fun d os => cell_regrown c_2 d os
          have q_c_3 := fun d os => cell_regrown c_3 d os
          have q_c_4 := fun d os => cell_regrown c_4 d os
          have q_c_5 := fun d os => cell_regrown c_5 d os
          have q_c_6 := fun d os => cell_regrown c_6 d os
          have q_c_7 := fun d os => cell_regrown c_7 d os
          have q_c_8 := fun d os => cell_regrown c_8 d os
          have q_c_9 := fun d os => cell_regrown c_9 d os
          have q_c_10 := fun d os => cell_regrown c_10 d os
          have q_c_11 := fun d os => cell_regrown c_11 d os
          have q_c_12 := fun d os => cell_regrown c_12 d os
          have q_e_0 := fun d os => cell_regrown e_0 d os
          have q_e_1 := fun d os => cell_regrown e_1 d os
          have q_e_2 := fun d os => cell_regrown e_2 d os
          have q_e_3 := fun d os => cell_regrown e_3 d os
          have q_e_4 := fun d os => cell_regrown e_4 d os
          have q_e_5 := fun d os => cell_regrown e_5 d os
          have q_e_6 := fun d os => cell_regrown e_6 d os
          have q_e_7 := fun d os => cell_regrown e_7 d os
          have q_e_8 := fun d os => cell_regrown e_8 d os
          have q_e_9 := fun d os => cell_regrown e_9 d os
          have q_e_10 := fun d os => cell_regrown e_10 d os
          have q_e_11 := fun d os => cell_regrown e_11 d os
          have q_e_12 := fun d os => cell_regrown e_12 d os
          try simp only [List.append]
          first | refine wp_region_text_below ?_ | refine wp_region_quiet_below (by kernel_rfl) (by kernel_rfl) ?_
          repeat (go_big_quiet_step ((fail)))
          refine wpQuiet_nil ?_
          intro _ hqw
          obtain ⟨pq, hqw⟩ := hqw
          subst hqw
          clear q_c_0 q_c_1 q_c_2 q_c_3 q_c_4 q_c_5 q_c_6 q_c_7 q_c_8 q_c_9 q_c_10 q_c_11 q_c_12 q_e_0 q_e_1 q_e_2 q_e_3 q_e_4 q_e_5 q_e_6 q_e_7 q_e_8 q_e_9 q_e_10 q_e_11 q_e_12
          have hbq := hB.trans ((below_regrown wr pq.d pq.os).mono hB.size)
          clear c_0 c_1 c_2 c_3 c_4 c_5 c_6 c_7 c_8 c_9 c_10 c_11 c_12 e_0 e_1 e_2 e_3 e_4 e_5 e_6 e_7 e_8 e_9 e_10 e_11 e_12 hNE
          generalize grow (redrawn wr pq.d) pq.os = wq at *
          go_wp2_with fail
          go_roundw
          case rel => exact ⟨i + 1, by go_num, by omega, HE2, hbq⟩
          case measure => simp [intOf]; omega
        · have hne : d ≠ d' := fun e => he (by rw [e])
          have hNE := fun w0 => neqDr (gDr d i) (gDr d' i) w0
          simp only [he, ne_eq, not_false_eq_true, decide_true, decide_false, Bool.not_false] at hNE
          have HNE := Lib.hid hne
          clear hne
          clear he
          generalize gDr d i = s1 at *
          generalize gDr d' i = s2 at *
          go_wp2_with fail
          have q_c_0 := fun d os => cell_regrown c_0 d os
          have q_c_1 := fun d os => cell_regrown c_1 d os
          have q_c_2 := fun d os => cell_regrown c_2 d os
          have q_c_3 := fun d os => cell_regrown c_3 d os
          have q_c_4 := fun d os => cell_regrown c_4 d os
          have q_c_5 := fun d os => cell_regrown c_5 d os
          have q_c_6 := fun d os => cell_regrown c_6 d os
          have q_c_7 := fun d os => cell_regrown c_7 d os
          have q_c_8 := fun d os => cell_regrown c_8 d os
          have q_c_9 := fun d os => cell_regrown c_9 d os
          have q_c_10 := fun d os => cell_regrown c_10 d os
          have q_c_11 := fun d os => cell_regrown c_11 d os
          have q_c_12 := fun d os => cell_regrown c_12 d os
          have q_e_0 := fun d os => cell_regrown e_0 d os
          have q_e_1 := fun d os => cell_regrown e_1 d os
          have q_e_2 := fun d os => cell_regrown e_2 d os
          have q_e_3 := fun d os => cell_regrown e_3 d os
          have q_e_4 := fun d os => cell_regrown e_4 d os
          have q_e_5 := fun d os => cell_regrown e_5 d os
          have q_e_6 := fun d os => cell_regrown e_6 d os
          have q_e_7 := fun d os => cell_regrown e_7 d os
          have q_e_8 := fun d os => cell_regrown e_8 d os
          have q_e_9 := fun d os => cell_regrown e_9 d os
          have q_e_10 := fun d os => cell_regrown e_10 d os
          have q_e_11 := fun d os => cell_regrown e_11 d os
          have q_e_12 := fun d os => cell_regrown e_12 d os
          try simp only [List.append]
          first | refine wp_region_text_below ?_ | refine wp_region_quiet_below (by kernel_rfl) (by kernel_rfl) ?_
          repeat (go_big_quiet_step ((fail)))
          refine wpQuiet_nil ?_
          intro _ hqw
          obtain ⟨pq, hqw⟩ := hqw
          subst hqw
          clear q_c_0 q_c_1 q_c_2 q_c_3 q_c_4 q_c_5 q_c_6 q_c_7 q_c_8 q_c_9 q_c_10 q_c_11 q_c_12 q_e_0 q_e_1 q_e_2 q_e_3 q_e_4 q_e_5 q_e_6 q_e_7 q_e_8 q_e_9 q_e_10 q_e_11 q_e_12
          have hbq := hB.trans ((below_regrown wr pq.d pq.os).mono hB.size)
          clear c_0 c_1 c_2 c_3 c_4 c_5 c_6 c_7 c_8 c_9 c_10 c_11 c_12 e_0 e_1 e_2 e_3 e_4 e_5 e_6 e_7 e_8 e_9 e_10 e_11 e_12 hNE
          generalize grow (redrawn wr pq.d) pq.os = wq at *
          go_wp2_with fail
          go_ret
          exact ⟨by rw [decide_eq_false HNE.out]; rfl, hbq⟩
      · have hie : i = n := by omega
        subst hie
        have hdd : d = d' := by
          have := HE.out
          rw [List.take_of_length_le (by rw [HD.out]; omega), List.take_of_length_le (by rw [HD'.out]; omega)] at this
          exact this
        have HDD := Lib.hid hdd
        clear hdd
        go_wp2_with fail
        go_ret
        exact ⟨by rw [decide_eq_true HDD.out]; rfl, hB⟩
  · have hne : d ≠ d' := fun e => hl (by rw [← HD.out, ← HD'.out, e])
    have hb : ((n : Int) != (n' : Int)) = true := by simp; omega
    have HNE := Lib.hid hne
    clear hl hne
    go_enter Tryz.func9, Tryz.ntmps9
    go_wp2
    go_ret
    exact ⟨by rw [decide_eq_false HNE.out]; rfl, Below.refl _ _⟩

end Go.Proofs.YtcclfmaockapjaaGreatDoor

/- strings.Builder.WriteString in this program: walked anew (the library's own contract does not lay over it: a branch of copyCheck that is never met is refused by the loader). No condition but on sizes. -/
namespace Go.Proofs.YtcclfmaockapjaaGreatDoor
open Go.ChangeShapes Go.WideShapes Go.ChangeAt Go.RowKit Go.Sort
set_option linter.unusedSimpArgs false
set_option linter.unusedVariables false
theorem infoB8 : (Tryz.prog.info? 5).map (fun i => (i.zero, i.size, i.bytes)) = some (some (.int .u8 0), 1, 1) := by kernel_rfl
theorem sizeBd : (Tryz.prog.info? 49).map (fun i => i.size) = some 2 := by kernel_rfl
theorem liesBd : liesAt Tryz.prog Tryz.prog.depth 49 (2 / Tryz.prog.cellsOf 49) 0 49 1 = true := by kernel_rfl
set_option maxHeartbeats 1000000 in
set_option maxRecDepth 100000 in
theorem check_used (b : Nat) (w : World) (h0 : w.cell? ⟨b, 0, none⟩ = some (.pointer (some ⟨b, 0, none⟩))) :
    Calls Tryz.prog 43 #[.pointer (some ⟨b, 0, none⟩)] w fun e w' => e = .returned (.tuple #[]) ∧ w' = w := by
  obtain ⟨j, hj, _⟩ := Option.map_eq_some_iff.1 sizeBd
  have hne := Lib.run_neq_ptr_same (P := Tryz.prog) w (tp := 46) ⟨b, 0, none⟩ Tryz.underlying46 hj
  go_enter Tryz.func43, Tryz.ntmps43
  go_wp2
  try rw [hne]
  go_wp2
  go_end0
  exact ⟨rfl, rfl⟩
set_option maxHeartbeats 1000000 in
set_option maxRecDepth 100000 in
theorem check_fresh (b : Nat) (w : World) (h0 : w.cell? ⟨b, 0, none⟩ = some (.pointer none)) (hsh : w.shape? b = some (49, 2)) (hfz : w.frozen? ⟨b, 0, none⟩ = false) :
    Calls Tryz.prog 43 #[.pointer (some ⟨b, 0, none⟩)] w fun e w' => e = .returned (.tuple #[]) ∧ w' = w.setCell ⟨b, 0, none⟩ (.pointer (some ⟨b, 0, none⟩)) := by
  obtain ⟨j, hj, hjs⟩ := Option.map_eq_some_iff.1 sizeBd
  go_enter Tryz.func43, Tryz.ntmps43
  go_wp2
  rw [Lib.run_to_unsafe w ⟨b, 0, none⟩ Tryz.underlying46 Tryz.underlying93 hj (by rw [hjs]; decide) hsh (Nat.zero_lt_succ 1)]
  simp only [Result.andThen]
  rw [Oper.upon_value]
  go_wp2
  rw [run_callFunc_extern Tryz.func79 (by kernel_rfl) (by kernel_rfl) (by kernel_rfl) (e := Extern.AbiNoEscape.same) (by kernel_rfl)]
  rw [Lib.run_noEscape]
  simp only [Result.andThen]
  rw [Oper.upon_value]
  go_wp2
  rw [Lib.run_from_unsafe w ⟨b, 0, none⟩ Tryz.underlying93 Tryz.underlying46 hj hsh liesBd]
  simp only [Result.andThen]
  rw [Oper.upon_value]
  go_wp2
  go_end0
  exact ⟨rfl, rfl⟩
theorem check_any (B b : Nat) (bs : List Value) (w : World) (h : Lib.IsBuilder 49 5 B b bs w) :
    Calls Tryz.prog 43 #[.pointer (some ⟨b, 0, none⟩)] w fun e w' => e = .returned (.tuple #[]) ∧ (Lib.BuilderAt 49 5 B b (.pointer (some ⟨b, 0, none⟩)) bs w' ∧ Below B w w') := by
  rcases h with h | h
  · refine (check_fresh b w h.cell0 h.shape h.frozen0).mono ?_
    rintro e w' ⟨rfl, rfl⟩
    exact ⟨rfl, h.used _, (Below.refl B w).setCell (p := ⟨b, 0, none⟩) h.1 _⟩
  · refine (check_used b w h.cell0).mono ?_
    rintro e w' ⟨rfl, rfl⟩
    exact ⟨rfl, h, Below.refl B _⟩
set_option maxHeartbeats 1000000 in
set_option maxRecDepth 100000 in
theorem writeS_any (B b : Nat) (bs : List Value) (s : ByteArray) (w : World) (h : Lib.IsBuilder 49 5 B b bs w) (hlen : bs.length + s.size ≤ 140737488355328) (hBw : B ≤ w.heap.size) :
    Calls Tryz.prog 20 #[.pointer (some ⟨b, 0, none⟩), .string s] w fun e w' => e = .returned (.tuple #[.int .i64 s.size, .nilIface]) ∧ (Lib.BuilderAt 49 5 B b (.pointer (some ⟨b, 0, none⟩)) (bs ++ Lib.strCells s) w' ∧ Below B w w') := by
  obtain ⟨i0, hi, hz0, hz1, hz2⟩ := info_parts infoB8
  go_enter Tryz.func20, Tryz.ntmps20
  go_wp2_with fail
  refine (check_any B b bs _ h).mono ?_
  rintro e w1 ⟨rfl, h1, hb1⟩
  obtain ⟨hB, v, hbk, hown, hne⟩ := h1
  have c0 : w1.cell? ⟨b, 0, none⟩ = some (.pointer (some ⟨b, 0, none⟩)) := by rw [Lib.cell_of_heap hbk]; rfl
  have c1 : w1.cell? ⟨b, 1, none⟩ = some v := by rw [Lib.cell_of_heap hbk]; rfl
  have hs1 := hb1.size
  go_wp2_with (at_builtin; refine Lib.wpList_append_own_string _ rfl _ _ 47 9 rfl B 5 i0 Tryz.underlying47 Tryz.underlying9 hi hz0 hz1 hz2 _ _ _ rfl hown s rfl ?c3 ?c4 ?c5 ?_)
  case c3 => unfold maxLen; omega
  case c4 => omega
  case c5 => omega
  intro v' w2 hown' hgrow _
  have hlt : b < w1.heap.size := Lib.BuilderAt.lt ⟨hB, v, hbk, hown, hne⟩
  have hb2 : w2.heap[b]? = some (.cells #[.pointer (some ⟨b, 0, none⟩), v] 49 (0, 0)) := by
    rw [hgrow.block b hlt (fun e => hne e.symm)]
    exact hbk
  have d1 : w2.cell? ⟨b, 1, none⟩ = some v := by rw [Lib.cell_of_heap hb2]; rfl
  have d0 : w2.cell? ⟨b, 0, none⟩ = some (.pointer (some ⟨b, 0, none⟩)) := by rw [Lib.cell_of_heap hb2]; rfl
  have f1 : w2.frozen? ⟨b, 1, none⟩ = false := Lib.frozen_of_heap hb2 1
  obtain ⟨ao, cap, rfl⟩ := slice_of_own hown'
  go_wp2
  go_ret2
  refine ⟨rfl, ?_, ?_⟩
  · exact Lib.BuilderAt.put (T := 49) (e := 5) hB hb2 (bs' := bs ++ Lib.strCells s) (by simpa [Lib.strCells_length] using hown') (by decide)
  · exact (hb1.grown hgrow (by omega) (fun k hk => (hown.lt k hk).1)).setCell (p := ⟨b, 1, none⟩) hB _
end Go.Proofs.YtcclfmaockapjaaGreatDoor

/- Contract of text.Print: a line for each right directive. It makes new memory alone. -/
namespace Go.Proofs.YtcclfmaockapjaaGreatDoor
open Go.ChangeShapes Go.WideShapes Go.ChangeAt Go.RowKit Go.Sort
set_option linter.unusedSimpArgs false
set_option linter.unusedVariables false
theorem builder_below {T e : TypeId} {B b : Nat} {bs : List Value} {w w' : World} (h : Lib.IsBuilder T e B b bs w) (hb : Below w.heap.size w w') : Lib.IsBuilder T e B b bs w' := by
  rcases h with h | h
  · obtain ⟨h1, v, h2, h3, h4⟩ := h
    exact .inl ⟨h1, v, by rw [hb.block b (Lib.BuilderAt.lt ⟨h1, v, h2, h3, h4⟩)]; exact h2, own_below h3 hb, h4⟩
  · obtain ⟨h1, v, h2, h3, h4⟩ := h
    exact .inr ⟨h1, v, by rw [hb.block b (Lib.BuilderAt.lt ⟨h1, v, h2, h3, h4⟩)]; exact h2, own_below h3 hb, h4⟩
def printV : Option Bytes → Value
  | some s => .tuple #[.string (bs s), .bool true]
  | none => .tuple #[.string (bs []), .bool false]
theorem strCells_bs (s : Bytes) : Lib.strCells (bs s) = Lib.byteCells s := by unfold Lib.strCells; rw [bs_list]; rfl
theorem lnD_len {d : Dr} (h : rightD d = true) : (lineL (wordsD d)).length ≤ 200 := by
  have h1 := jn_len (B := 21) (wordsD d) (words_small h)
  rw [words_len_eq] at h1
  have h2 := nums_le d
  rw [lineL_eq, List.length_append]
  have h3 : (2 + (numsD d).length) * (21 + 1) ≤ 8 * 22 := Nat.mul_le_mul (by omega) (by omega)
  simp
  omega
set_option maxHeartbeats 8000000 in
set_option maxRecDepth 100000 in
theorem tprint_any (A : Option Addr) (n c : Nat) (ds : List Dr) (hd : ds.length = n) (hn : n ≤ 10000) (hwf : ∀ x ∈ ds, (Lit.int .i64 x.op).wf = true ∧ (Lit.int .i64 x.kd).wf = true) (w : World) (ht : TenTab w) (h : Sl w w.heap.size 13 A n c (flatDr ds)) (r : Option Bytes) (hr : printF ds = r) :
    Calls Tryz.prog 7 #[.slice A n c] w fun e w' => e = .returned (printV r) ∧ Below w.heap.size w w' := by
  have HD := Lib.hid hd
  have HR := Lib.hid hr
  have HWF := Lib.hid hwf
  have HL := Lib.hid h
  have HT := Lib.hid ht
  clear hd hr hwf h ht
  go_enter Tryz.func7, Tryz.ntmps7
  go_wp2_with fail
  have hb0 := Lib.fresh_isBuilder 49 5 w
  have hB0 : Below w.heap.size w (w.alloc (.cells #[.pointer none, .slice none 0 0] 49)) := by (repeat (first | exact Below.refl _ _ | refine Below.alloc ?_ (by first | omega | (simp; done) | (simp; omega)) _ | refine Below.setCell ?_ (by first | omega | (simp; done) | (simp; omega)) _ | refine Below.drew ?_))
  go_loopw [11] (fun iv wr => ∃ (i : Nat) (s : Bytes), iv = .int .i64 i ∧ i ≤ n ∧ Hid (printF ds = (printF (ds.drop i)).map (s ++ ·)) ∧ s.length ≤ i * 200 ∧ Lib.IsBuilder 49 5 w.heap.size w.heap.size (Lib.byteCells s) wr ∧ Below w.heap.size w wr) (fun iv _ => n - (intOf iv).toNat)
  case atStart => exact ⟨0, [], rfl, by omega, by simp [Hid], by simp, hb0, hB0⟩
  case round =>
    clear hb0 hB0
    obtain ⟨i, s, rfl, hi, HF, hsl, hbd, hB⟩ := hrel
    have hsz := hB.size
    by_cases hin : i < n
    · have hil : i < ds.length := by rw [HD.out]; exact hin
      obtain ⟨ad, rfl, hab, c_0, c_1, c_2, c_3, c_4, c_5, c_6, c_7, c_8, c_9, c_10, c_11, c_12⟩ := (HL.out.below hB).lst.atDr HD.out hin
      have hw1 := HWF.out _ (gDr_mem hil)
      have HIL := Lib.hid hil
      clear hil
      obtain ⟨x, hx⟩ : ∃ x, gDr ds i = x := ⟨_, rfl⟩
      rw [hx] at c_0 c_1 c_2 c_3 c_4 c_5 c_6 c_7 c_8 c_9 c_10 c_11 c_12 hw1
      obtain ⟨w1, w2⟩ := hw1
      have HX := Lib.hid hx
      clear hx
      have hX := Blok.new wr 41 #[.int .i64 x.op, .int .i64 x.kd, .int .i64 x.id, .int .i64 x.fr, .int .i64 x.tn, .int .i64 x.st, .int .i64 x.en, .int .i64 x.rt, .int .i64 x.rf, .int .i64 x.rn, .int .i64 x.rs, .int .i64 x.re, .int .i64 x.ro]
      have hb : Below wr.heap.size wr (wr.alloc (.cells #[.int .i64 x.op, .int .i64 x.kd, .int .i64 x.id, .int .i64 x.fr, .int .i64 x.tn, .int .i64 x.st, .int .i64 x.en, .int .i64 x.rt, .int .i64 x.rf, .int .i64 x.rn, .int .i64 x.rs, .int .i64 x.re, .int .i64 x.ro] 41)) := by (repeat (first | exact Below.refl _ _ | refine Below.alloc ?_ (by first | omega | (simp; done) | (simp; omega)) _ | refine Below.setCell ?_ (by first | omega | (simp; done) | (simp; omega)) _ | refine Below.drew ?_))
      replace hbd := builder_below hbd hb
      replace hB := hB.trans (hb.mono hsz)
      replace hsz := hB.size
      clear hb
      go_upto_region 5 with fail
      clear c_0 c_1 c_2 c_3 c_4 c_5 c_6 c_7 c_8 c_9 c_10 c_11 c_12
      generalize wr.alloc (.cells #[.int .i64 x.op, .int .i64 x.kd, .int .i64 x.id, .int .i64 x.fr, .int .i64 x.tn, .int .i64 x.st, .int .i64 x.en, .int .i64 x.rt, .int .i64 x.rf, .int .i64 x.rn, .int .i64 x.rs, .int .i64 x.re, .int .i64 x.ro] 41) = x0 at *
      generalize hbx : wr.heap.size = bx at *
      clear hbx
      have y0 : x0.cell? ⟨bx, 0, none⟩ = some (.int .i64 x.op) := hX.cell 0
      have y1 : x0.cell? ⟨bx, 1, none⟩ = some (.int .i64 x.kd) := hX.cell 1
      have y2 : x0.cell? ⟨bx, 2, none⟩ = some (.int .i64 x.id) := hX.cell 2
      have y3 : x0.cell? ⟨bx, 3, none⟩ = some (.int .i64 x.fr) := hX.cell 3
      have y4 : x0.cell? ⟨bx, 4, none⟩ = some (.int .i64 x.tn) := hX.cell 4
      have y5 : x0.cell? ⟨bx, 5, none⟩ = some (.int .i64 x.st) := hX.cell 5
      have y6 : x0.cell? ⟨bx, 6, none⟩ = some (.int .i64 x.en) := hX.cell 6
      have y7 : x0.cell? ⟨bx, 7, none⟩ = some (.int .i64 x.rt) := hX.cell 7
      have y8 : x0.cell? ⟨bx, 8, none⟩ = some (.int .i64 x.rf) := hX.cell 8
      have y9 : x0.cell? ⟨bx, 9, none⟩ = some (.int .i64 x.rn) := hX.cell 9
      have y10 : x0.cell? ⟨bx, 10, none⟩ = some (.int .i64 x.rs) := hX.cell 10
      have y11 : x0.cell? ⟨bx, 11, none⟩ = some (.int .i64 x.re) := hX.cell 11
      have y12 : x0.cell? ⟨bx, 12, none⟩ = some (.int .i64 x.ro) := hX.cell 12
      have lt_y := hX.lt
      go_wp2_with fail
      clear y0 y1 y2 y3 y4 y5 y6 y7 y8 y9 y10 y11 y12 lt_y hX
      cases hrx : rightD x
      · have HRX := Lib.hid hrx
        clear hrx
        refine (dwords_no x x0 w1 w2 HRX.out).mono ?_
        rintro e x1 ⟨rfl, hb⟩
        replace hB := hB.trans (hb.mono hsz)
        clear hb hbd
        have hf : printF ds = none := by rw [HF.out, print_no HIL.out (by rw [HX.out]; exact HRX.out)]; rfl
        rw [HR.out] at hf
        subst hf
        go_wp2_with fail
        go_ret2
        exact ⟨rfl, hB⟩
      · have HRX := Lib.hid hrx
        clear hrx
        refine (dwords_yes x x0 w1 w2 HRX.out (HT.out.below hB)).mono ?_
        rintro e x1 ⟨v, rfl, hv, hb⟩
        replace hbd := builder_below hbd hb
        replace hB := hB.trans (hb.mono hsz)
        replace hsz := hB.size
        obtain ⟨k, hk⟩ : ∃ k, 2 + (numsD x).length = k := ⟨_, rfl⟩
        rw [hk] at hv
        have hkb : k ≤ 10 := by have := nums_le x; omega
        have HK := Lib.hid (show (wordsD x).length = k by rw [words_len_eq]; exact hk)
        clear hk hb
        obtain ⟨A1, c1, rfl⟩ := slice_of_own hv
        have h1 := Sl.of_own hv
        clear hv
        go_wp2_with fail
        refine (line_any A1 k c1 (wordsD x) x1 HK.out (by omega) (fun y hy => Nat.le_trans (words_small HRX.out y hy) (by omega)) h1).mono ?_
        rintro e x2 ⟨rfl, hb⟩
        replace hbd := builder_below hbd hb
        replace hB := hB.trans (hb.mono hsz)
        replace hsz := hB.size
        clear hb h1
        have hll := lnD_len HRX.out
        obtain ⟨y, hy⟩ : ∃ y, lineL (wordsD x) = y := ⟨_, rfl⟩
        rw [hy] at hll
        have hn2 : printF ds = (printF (ds.drop (i + 1))).map ((s ++ y) ++ ·) := by
          rw [HF.out, print_ok HIL.out (by rw [HX.out]; exact HRX.out), HX.out, hy, Option.map_map]
          congr 1
          funext t
          simp
        have HN2 := Lib.hid hn2
        rw [hy]
        clear hy hn2
        go_wp2_with fail
        have hlen : (Lib.byteCells s).length + (bs y).size ≤ 140737488355328 := by rw [bs_size]; unfold Lib.byteCells; rw [List.length_map]; have : i * 200 ≤ 10000 * 200 := Nat.mul_le_mul (by omega) (by omega); omega
        refine (writeS_any w.heap.size w.heap.size (Lib.byteCells s) (bs y) x2 hbd hlen hsz).mono ?_
        rintro e x3 ⟨rfl, hbd2, hb⟩
        replace hB := hB.trans hb
        have hbd3 : Lib.IsBuilder 49 5 w.heap.size w.heap.size (Lib.byteCells (s ++ y)) x3 := .inr (by rw [strCells_bs] at hbd2; have h := hbd2; unfold Lib.byteCells at h ⊢; rw [List.map_append]; exact h)
        clear hbd2 hb hbd hlen
        go_wp2_with fail
        go_roundw
        case rel => exact ⟨i + 1, s ++ y, by go_num, by omega, HN2, by rw [List.length_append]; omega, hbd3, hB⟩
        case measure => simp [intOf]; omega
    · obtain rfl : n = i := by omega
      have hf : printF ds = some s := by rw [HF.out, List.drop_eq_nil_of_le (by rw [HD.out]; omega)]; simp [printF]
      rw [HR.out] at hf
      subst hf
      go_wp2_with fail
      refine (Tryz.Builder_String_any w.heap.size w.heap.size s wr hbd hsz).mono ?_
      rintro e x3 ⟨rfl, hb⟩
      replace hB := hB.trans hb
      clear hbd
      go_wp2_with fail
      go_ret2
      exact ⟨rfl, hB⟩
end Go.Proofs.YtcclfmaockapjaaGreatDoor

/- Equality of two faults. No condition. -/
namespace Go.Proofs.YtcclfmaockapjaaGreatDoor
open Go.ChangeShapes Go.WideShapes Go.ChangeAt Go.RowKit Go.Sort
set_option linter.unusedSimpArgs false
set_option linter.unusedVariables false
theorem eqlFt (a b c d : Int) (w : World) : (binOp .eql 26 (.agg #[.int .i64 a, .int .i64 b]) (.agg #[.int .i64 c, .int .i64 d])).run Tryz.prog w = .ok (.bool (decide (a = c ∧ b = d))) w := by
  have u3 := Tryz.underlying3
  have a3 := Tryz.isAgg3
  have z3 := Tryz.sizeOf3
  have u4 := Tryz.underlying24
  have a4 := Tryz.isAgg24
  have z4 := Tryz.sizeOf24
  have hS : Tryz.prog.underlying 26 = some (.struct (Tryz.prog.fieldsOf 26)) := by kernel_rfl
  have hp : Tryz.prog.stoodInHeld 26 = false := by kernel_rfl
  rw [run_eql_struct, show (10000 : Nat) = 9999 + 1 from rfl, run_equalIn_agg w 9999 26 _ _ hS hp]
  simp only [Program.fieldsOf, Tryz.underlying26]
  go_simp
  by_cases h0 : a = c
  · by_cases h1 : b = d
    · simp [h0, h1]
    · simp [h0, h1]
  · simp [h0]
theorem neqFt (a b c d : Int) (w : World) : (binOp .neq 26 (.agg #[.int .i64 a, .int .i64 b]) (.agg #[.int .i64 c, .int .i64 d])).run Tryz.prog w = .ok (.bool (!decide (a = c ∧ b = d))) w := by
  have u3 := Tryz.underlying3
  have a3 := Tryz.isAgg3
  have z3 := Tryz.sizeOf3
  have u4 := Tryz.underlying24
  have a4 := Tryz.isAgg24
  have z4 := Tryz.sizeOf24
  have hS : Tryz.prog.underlying 26 = some (.struct (Tryz.prog.fieldsOf 26)) := by kernel_rfl
  have hp : Tryz.prog.stoodInHeld 26 = false := by kernel_rfl
  rw [run_neq_struct, show (10000 : Nat) = 9999 + 1 from rfl, run_equalIn_agg w 9999 26 _ _ hS hp]
  simp only [Program.fieldsOf, Tryz.underlying26]
  go_simp
  by_cases h0 : a = c
  · by_cases h1 : b = d
    · simp [h0, h1]
    · simp [h0, h1]
  · simp [h0]
end Go.Proofs.YtcclfmaockapjaaGreatDoor

/- The document's own answers for layer 5: lines with words, directives of texts, texts of directives. No condition but on sizes. -/
namespace Go.Proofs.YtcclfmaockapjaaGreatDoor
open Go.ChangeShapes Go.WideShapes Go.ChangeAt Go.RowKit Go.Sort
set_option linter.unusedSimpArgs false
set_option linter.unusedVariables false
set_option maxHeartbeats 8000000 in
set_option maxRecDepth 100000 in
theorem rtlines_any (s0 : ByteArray) (rows : List Bytes) (n : Nat) (hr : linesL s0.data.toList = rows) (hn : rows.length = n) (w : World) (hs : s0.data.toList.length ≤ 50000) :
    Calls Tryz.prog 12 #[.string s0] w fun e w' => ∃ v, e = .returned v ∧ w'.ownsRow w.heap.size 3 1 v (lnoF rows 1).length ((lnoF rows 1).map (Value.int .i64)) ∧ Below w.heap.size w w' := by
  obtain ⟨i0, hi0, hz0, hz1, hz2⟩ := info_parts infoI04
  have hnb : n ≤ 50001 := by rw [← hn, ← hr]; have := lines_len s0.data.toList; omega
  have HSZ := Lib.hid (fun x (hx : x ∈ rows) => Nat.le_trans (lines_mem (s := s0.data.toList) (by rw [hr]; exact hx)) hs)
  have HN := Lib.hid hn
  have HR := Lib.hid hr
  have HS := Lib.hid hs
  clear hn hr hs
  go_enter Tryz.func12, Tryz.ntmps12
  go_wp2_with fail
  refine (rlines_is s0 rows n HR.out HN.out w (by have := HS.out; omega)).mono ?_
  rintro e w1 ⟨A, c, rfl, hrow, hB1⟩
  have HL := Lib.hid (Sl.of_own hrow)
  clear hrow
  go_wp2
  go_loopw [4, 5] (fun ev iv wr => ∃ (i m : Nat) (ns : List Int), iv = .int .i64 i ∧ i ≤ n ∧ m ≤ i ∧ Hid (ns.length = m) ∧ Hid (lnoF rows 1 = ns ++ lnoF (rows.drop i) ((i : Int) + 1)) ∧ wr.ownsRow w1.heap.size 3 1 ev m (ns.map (Value.int .i64)) ∧ Below w1.heap.size w1 wr) (fun _ iv _ => n - (intOf iv).toNat)
  case atStart => exact ⟨0, 0, [], rfl, by omega, by omega, rfl, rfl, World.ownsRow_nil _ _ _ _, Below.refl _ _⟩
  case round =>
    obtain ⟨i, m, ns, rfl, hi, hmi, HLN, HF, hown, hB⟩ := hrel
    have hsz := hB.size
    obtain ⟨Ae, ce, rfl⟩ := slice_of_own hown
    by_cases hin : i < n
    · obtain ⟨ad, rfl, hab, c0⟩ := (HL.out.below hB).lst.atS HN.out hin
      have hil : i < rows.length := by rw [HN.out]; exact hin
      have hxs : (gS rows i).length ≤ 50000 := HSZ.out _ (by rw [gS_eq hil]; exact List.getElem_mem _)
      have HIL := Lib.hid hil
      clear hil
      obtain ⟨x, hx⟩ : ∃ x, gS rows i = x := ⟨_, rfl⟩
      rw [hx] at c0 hxs
      obtain ⟨k, hk⟩ : ∃ k, (wordsL x).length = k := ⟨_, rfl⟩
      have HX := Lib.hid hx
      have HK := Lib.hid hk
      have HXS := Lib.hid hxs
      clear hx hk hxs
      go_wp2_with fail
      clear c0
      refine (rwords_is (bs x) (wordsL x) k (by rw [bs_list]) HK.out wr (by rw [bs_list]; have := HXS.out; omega)).mono ?_
      rintro e w2 ⟨A2, c2, rfl, hw2, hb⟩
      replace hown := own_below hown hb
      replace hB := hB.trans (hb.mono hsz)
      replace hsz := hB.size
      clear hb hw2
      by_cases hk0 : k = 0
      · subst hk0
        have HN2 : Hid (lnoF rows 1 = ns ++ lnoF (rows.drop (i + 1)) ((i : Int) + 1 + 1)) := by
          show _ = _
          rw [HF.out, lno_blank HIL.out (by rw [HX.out]; exact HK.out)]
        go_wp2_with fail
        go_roundw
        case rel => exact ⟨i + 1, m, ns, by go_num, by omega, by omega, HLN, by have h := HN2.out; simpa [Hid] using h, hown, hB⟩
        case measure => simp [intOf]; omega
      · have hk1 : (0 : Int) < (k : Int) := by omega
        have HN2 : Hid (lnoF rows 1 = (ns ++ [(i : Int) + 1]) ++ lnoF (rows.drop (i + 1)) ((i : Int) + 1 + 1)) := by
          show _ = _
          rw [HF.out, lno_word HIL.out (by rw [HX.out, HK.out]; exact hk0), List.append_assoc]; rfl
        have hwr : IntKind.i64.wrap ((i : Int) + 1) = (i : Int) + 1 := IntWalk.i64_in _ (by omega)
        go_wp2_with (first | (at_builtin; refine wpList_append_own _ rfl _ _ 33 rfl w1.heap.size 3 i0 _ 1 8 Tryz.underlying33 hi0 hz0 hz1 hz2 rfl (by decide) _ _ _ rfl (hown.alloc _) ⟨w2.heap.size, 0, none⟩ 1 1 [.int .i64 ((i : Int) + 1)] rfl rfl (by exact lit_cells w2 #[.int .i64 ((i : Int) + 1)] _ _ rfl) (by simp [Value.oneCell']) (by unfold maxLen; omega) (by omega) (by simp; omega) ?_; intro v' w3 hown' hgrow3 hnil3))
        have hbN : Below w1.heap.size w1 w3 := (hB.alloc hsz _).grown hgrow3 (by simp; omega) (fun q hq => (hown.lt q hq).1)
        clear hgrow3 hnil3
        go_wp2_with fail
        go_roundw
        case rel => exact ⟨i + 1, m + 1, ns ++ [(i : Int) + 1], by go_num, by omega, by omega, by simp [Hid, HLN.out], by have h := HN2.out; simpa [Hid] using h, (by rw [ints_app04]; exact hown'), hbN⟩
        case measure => simp [intOf]; omega
    · obtain rfl : n = i := by omega
      have hf : lnoF rows 1 = ns := by rw [HF.out, List.drop_eq_nil_of_le (by rw [HN.out]; omega)]; simp [lnoF]
      have HFX := Lib.hid hf
      clear hf
      go_wp2_with fail
      go_ret
      exact ⟨_, rfl, by rw [HFX.out, HLN.out]; exact own_down hown hB1.size, hB1.trans (hB.mono hB1.size)⟩
set_option maxHeartbeats 8000000 in
set_option maxRecDepth 100000 in
theorem rtparse_any (s0 : ByteArray) (rows : List Bytes) (n : Nat) (hr : linesL s0.data.toList = rows) (hn : rows.length = n) (w : World) (hs : s0.data.toList.length ≤ 50000) (ds : List Dr) (ln cd : Int) (hz : textF rows 1 = (ds, ln, cd)) :
    Calls Tryz.prog 6 #[.string s0] w fun e w' => ∃ v, e = .returned (.tuple #[v, .agg #[.int .i64 ln, .int .i64 cd]]) ∧ w'.ownsRow w.heap.size 41 13 v ds.length (flatDr ds) ∧ Below w.heap.size w w' := by
  obtain ⟨i0, hi0, hz0, hz1, hz2⟩ := info_parts infoDr
  have hnb : n ≤ 50001 := by rw [← hn, ← hr]; have := lines_len s0.data.toList; omega
  have HSZ := Lib.hid (fun x (hx : x ∈ rows) => Nat.le_trans (lines_mem (s := s0.data.toList) (by rw [hr]; exact hx)) hs)
  have HN := Lib.hid hn
  have HR := Lib.hid hr
  have HS := Lib.hid hs
  have HZ := Lib.hid hz
  clear hn hr hs hz
  have hX := Blok.new w 26 #[.int .i64 0, .int .i64 0]
  have hB0 : Below w.heap.size w (w.alloc (.cells #[.int .i64 0, .int .i64 0] 26)) := by (repeat (first | exact Below.refl _ _ | refine Below.alloc ?_ (by first | omega | (simp; done) | (simp; omega)) _ | refine Below.setCell ?_ (by first | omega | (simp; done) | (simp; omega)) _ | refine Below.drew ?_))
  have hs0 := hB0.size
  go_enter Tryz.func6, Tryz.ntmps6
  go_wp2_with fail
  generalize w.alloc (.cells #[.int .i64 0, .int .i64 0] 26) = w0 at *
  refine (rlines_is s0 rows n HR.out HN.out w0 (by have := HS.out; omega)).mono ?_
  rintro e w1 ⟨A, c, rfl, hrow, hb⟩
  have hX1 := hX.below hb hX.lt
  have hB1 := hB0.trans (hb.mono hs0)
  have hs1 := hB1.size
  have hx1 := hX1.lt
  have HL := Lib.hid (Sl.of_own hrow)
  have HX1 := Lib.hid hX1
  clear hrow hX hb hX1 hB0 hs0
  go_wp2
  go_loopw [5, 6] (fun ev iv wr => ∃ (i m : Nat) (es : List Dr), iv = .int .i64 i ∧ i ≤ n ∧ m ≤ i ∧ Hid (es.length = m) ∧ Hid (textF rows 1 = addF es (textF (rows.drop i) ((i : Int) + 1))) ∧ wr.ownsRow w1.heap.size 41 13 ev m (flatDr es) ∧ Below w1.heap.size w1 wr) (fun _ iv _ => n - (intOf iv).toNat)
  case atStart => exact ⟨0, 0, [], rfl, by omega, by omega, rfl, by simp [Hid, addF_nil], World.ownsRow_nil _ _ _ _, Below.refl _ _⟩
  case round =>
    obtain ⟨i, m, es, rfl, hi, hmi, HLN, HF, hown, hB⟩ := hrel
    have hsz := hB.size
    obtain ⟨Ae, ce, rfl⟩ := slice_of_own hown
    by_cases hin : i < n
    · obtain ⟨ad, rfl, hab, c0⟩ := (HL.out.below hB).lst.atS HN.out hin
      have hil : i < rows.length := by rw [HN.out]; exact hin
      have hxs : (gS rows i).length ≤ 50000 := HSZ.out _ (by rw [gS_eq hil]; exact List.getElem_mem _)
      have HIL := Lib.hid hil
      clear hil
      obtain ⟨x, hx⟩ : ∃ x, gS rows i = x := ⟨_, rfl⟩
      rw [hx] at c0 hxs
      obtain ⟨k, hk⟩ : ∃ k, (wordsL x).length = k := ⟨_, rfl⟩
      have HX := Lib.hid hx
      have HK := Lib.hid hk
      have HXS := Lib.hid hxs
      clear hx hk hxs
      go_wp2_with fail
      clear c0
      refine (rwords_is (bs x) (wordsL x) k (by rw [bs_list]) HK.out wr (by rw [bs_list]; have := HXS.out; omega)).mono ?_
      rintro e w2 ⟨A2, c2, rfl, hw2, hb⟩
      replace hown := own_below hown hb
      replace hB := hB.trans (hb.mono hsz)
      replace hsz := hB.size
      clear hb
      by_cases hk0 : k = 0
      · subst hk0
        have HN2 : Hid (textF rows 1 = addF es (textF (rows.drop (i + 1)) ((i : Int) + 1 + 1))) := by
          show _ = _
          rw [HF.out, text_blank HIL.out (by rw [HX.out]; exact HK.out)]
        clear hw2
        go_wp2_with fail
        go_roundw
        case rel => exact ⟨i + 1, m, es, by go_num, by omega, by omega, HLN, by have h := HN2.out; simpa [Hid] using h, hown, hB⟩
        case measure => simp [intOf]; omega
      · have hk1 : ((k : Int) == 0) = false := by simp; omega
        have hkb : k ≤ 100000 := by rw [← HK.out]; have := words_len x; have := HXS.out; omega
        obtain ⟨z, q, hzq⟩ : ∃ z q, parseD (wordsL x) = (z, q) := ⟨_, _, rfl⟩
        have HZQ := Lib.hid hzq
        have hSW := Sl.of_own hw2
        clear hzq hw2
        go_wp2_with fail
        refine (rparse04_any A2 k c2 (wordsL x) w2 HK.out hkb (fun y hy => by have := words_mem hy; have := HXS.out; unfold maxLen; omega) hSW z q HZQ.out).mono ?_
        rintro e w3 ⟨rfl, hb⟩
        replace hown := own_below hown hb
        replace hB := hB.trans (hb.mono hsz)
        replace hsz := hB.size
        clear hSW hb
        by_cases hq : q = 0
        · subst hq
          have HN2 : Hid (textF rows 1 = addF (es ++ [z]) (textF (rows.drop (i + 1)) ((i : Int) + 1 + 1))) := by
            show _ = _
            rw [HF.out, text_ok HIL.out (by rw [HX.out, HK.out]; exact hk0) (by rw [HX.out]; exact HZQ.out), addF_addF]
          go_upto_region 11 with fail
          have hZ := Blok.new w3 41 #[.int .i64 z.op, .int .i64 z.kd, .int .i64 z.id, .int .i64 z.fr, .int .i64 z.tn, .int .i64 z.st, .int .i64 z.en, .int .i64 z.rt, .int .i64 z.rf, .int .i64 z.rn, .int .i64 z.rs, .int .i64 z.re, .int .i64 z.ro]
          have hb : Below w3.heap.size w3 (w3.alloc (.cells #[.int .i64 z.op, .int .i64 z.kd, .int .i64 z.id, .int .i64 z.fr, .int .i64 z.tn, .int .i64 z.st, .int .i64 z.en, .int .i64 z.rt, .int .i64 z.rf, .int .i64 z.rn, .int .i64 z.rs, .int .i64 z.re, .int .i64 z.ro] 41)) := by (repeat (first | exact Below.refl _ _ | refine Below.alloc ?_ (by first | omega | (simp; done) | (simp; omega)) _ | refine Below.setCell ?_ (by first | omega | (simp; done) | (simp; omega)) _ | refine Below.drew ?_))
          replace hown := own_below hown hb
          replace hB := hB.trans (hb.mono hsz)
          replace hsz := hB.size
          clear hb
          generalize w3.alloc (.cells #[.int .i64 z.op, .int .i64 z.kd, .int .i64 z.id, .int .i64 z.fr, .int .i64 z.tn, .int .i64 z.st, .int .i64 z.en, .int .i64 z.rt, .int .i64 z.rf, .int .i64 z.rn, .int .i64 z.rs, .int .i64 z.re, .int .i64 z.ro] 41) = w4 at *
          generalize hbz : w3.heap.size = bz at *
          clear hbz
          have y0 : w4.cell? ⟨bz, 0, none⟩ = some (.int .i64 z.op) := hZ.cell 0
          have y1 : w4.cell? ⟨bz, 1, none⟩ = some (.int .i64 z.kd) := hZ.cell 1
          have y2 : w4.cell? ⟨bz, 2, none⟩ = some (.int .i64 z.id) := hZ.cell 2
          have y3 : w4.cell? ⟨bz, 3, none⟩ = some (.int .i64 z.fr) := hZ.cell 3
          have y4 : w4.cell? ⟨bz, 4, none⟩ = some (.int .i64 z.tn) := hZ.cell 4
          have y5 : w4.cell? ⟨bz, 5, none⟩ = some (.int .i64 z.st) := hZ.cell 5
          have y6 : w4.cell? ⟨bz, 6, none⟩ = some (.int .i64 z.en) := hZ.cell 6
          have y7 : w4.cell? ⟨bz, 7, none⟩ = some (.int .i64 z.rt) := hZ.cell 7
          have y8 : w4.cell? ⟨bz, 8, none⟩ = some (.int .i64 z.rf) := hZ.cell 8
          have y9 : w4.cell? ⟨bz, 9, none⟩ = some (.int .i64 z.rn) := hZ.cell 9
          have y10 : w4.cell? ⟨bz, 10, none⟩ = some (.int .i64 z.rs) := hZ.cell 10
          have y11 : w4.cell? ⟨bz, 11, none⟩ = some (.int .i64 z.re) := hZ.cell 11
          have y12 : w4.cell? ⟨bz, 12, none⟩ = some (.int .i64 z.ro) := hZ.cell 12
          have lt_y := hZ.lt
          go_wp2_with (first | (at_builtin; refine wpList_append_own _ rfl _ _ 22 rfl w1.heap.size 41 i0 _ 13 104 Tryz.underlying22 hi0 hz0 hz1 hz2 rfl (by decide) _ _ _ rfl (hown.alloc _) ⟨w4.heap.size, 0, none⟩ 1 1 [.int .i64 z.op, .int .i64 z.kd, .int .i64 z.id, .int .i64 z.fr, .int .i64 z.tn, .int .i64 z.st, .int .i64 z.en, .int .i64 z.rt, .int .i64 z.rf, .int .i64 z.rn, .int .i64 z.rs, .int .i64 z.re, .int .i64 z.ro] rfl rfl (by exact lit_cells w4 #[.int .i64 z.op, .int .i64 z.kd, .int .i64 z.id, .int .i64 z.fr, .int .i64 z.tn, .int .i64 z.st, .int .i64 z.en, .int .i64 z.rt, .int .i64 z.rf, .int .i64 z.rn, .int .i64 z.rs, .int .i64 z.re, .int .i64 z.ro] _ _ rfl) (by simp [Value.oneCell']) (by unfold maxLen; omega) (by omega) (by simp; omega) ?_; intro v' w5 hown' hgrow5 hnil5))
          have hbN : Below w1.heap.size w1 w5 := (hB.alloc hsz _).grown hgrow5 (by simp; omega) (fun q hq => (hown.lt q hq).1)
          clear hgrow5 hnil5 y0 y1 y2 y3 y4 y5 y6 y7 y8 y9 y10 y11 y12 lt_y hZ
          go_wp2_with fail
          go_roundw
          case rel => exact ⟨i + 1, m + 1, es ++ [z], by go_num, by omega, by omega, by simp [Hid, HLN.out], by have h := HN2.out; simpa [Hid] using h, (by rw [flatDr_append, flatDr_one_]; exact hown'), hbN⟩
          case measure => simp [intOf]; omega
        · have hqb : (q != 0) = true := by simpa using hq
          have hf : textF rows 1 = ([], (i : Int) + 1, q) := by
            rw [HF.out, text_bad HIL.out (by rw [HX.out, HK.out]; exact hk0) (by rw [HX.out]; exact HZQ.out) hq]
            unfold addF
            rw [if_neg hq]
          rw [HZ.out] at hf
          injection hf with f1 f2
          injection f2 with f2 f3
          subst f1 f2 f3
          have hwr : IntKind.i64.wrap ((i : Int) + 1) = (i : Int) + 1 := IntWalk.i64_in _ (by omega)
          have hb : Below w3.heap.size w3 (w3.alloc (.cells #[.int .i64 z.op, .int .i64 z.kd, .int .i64 z.id, .int .i64 z.fr, .int .i64 z.tn, .int .i64 z.st, .int .i64 z.en, .int .i64 z.rt, .int .i64 z.rf, .int .i64 z.rn, .int .i64 z.rs, .int .i64 z.re, .int .i64 z.ro] 41)) := by (repeat (first | exact Below.refl _ _ | refine Below.alloc ?_ (by first | omega | (simp; done) | (simp; omega)) _ | refine Below.setCell ?_ (by first | omega | (simp; done) | (simp; omega)) _ | refine Below.drew ?_))
          replace hB := hB.trans (hb.mono hsz)
          replace hsz := hB.size
          have hX3 := HX1.out.below hB HX1.out.lt
          have hXlt := hX3.lt
          have r_0 : (w3.alloc (.cells #[.int .i64 z.op, .int .i64 z.kd, .int .i64 z.id, .int .i64 z.fr, .int .i64 z.tn, .int .i64 z.st, .int .i64 z.en, .int .i64 z.rt, .int .i64 z.rf, .int .i64 z.rn, .int .i64 z.rs, .int .i64 z.re, .int .i64 z.ro] 41)).cell? ⟨w.heap.size, 0, none⟩ = some (.int .i64 0) := hX3.cell 0
          have r_1 : (w3.alloc (.cells #[.int .i64 z.op, .int .i64 z.kd, .int .i64 z.id, .int .i64 z.fr, .int .i64 z.tn, .int .i64 z.st, .int .i64 z.en, .int .i64 z.rt, .int .i64 z.rf, .int .i64 z.rn, .int .i64 z.rs, .int .i64 z.re, .int .i64 z.ro] 41)).cell? ⟨w.heap.size, 1, none⟩ = some (.int .i64 0) := hX3.cell 1
          have f_0 := hX3.free 0
          have f_1 := hX3.free 1
          have hB9 := hB1.trans (hB.mono hs1)
          clear hb
          go_wp2_with fail
          generalize w3.alloc (.cells #[.int .i64 z.op, .int .i64 z.kd, .int .i64 z.id, .int .i64 z.fr, .int .i64 z.tn, .int .i64 z.st, .int .i64 z.en, .int .i64 z.rt, .int .i64 z.rf, .int .i64 z.rn, .int .i64 z.rs, .int .i64 z.re, .int .i64 z.ro] 41) = w4 at *
          clear r_0 r_1 f_0 f_1 hXlt
          have hF : Blok ((w4.setCell ⟨w.heap.size, 0, none⟩ (.int .i64 ((i : Int) + 1))).setCell ⟨w.heap.size, 1, none⟩ (.int .i64 cd)) w.heap.size 26 #[.int .i64 ((i : Int) + 1), .int .i64 cd] := by have h := ((hX3.set_ 0 (.int .i64 ((i : Int) + 1))).set_ 1 (.int .i64 cd)); simpa using h
          have hle0 : w.heap.size ≤ w.heap.size := by first | exact Nat.le_refl _ | omega
          have hWf : Below w.heap.size w ((w4.setCell ⟨w.heap.size, 0, none⟩ (.int .i64 ((i : Int) + 1))).setCell ⟨w.heap.size, 1, none⟩ (.int .i64 cd)) := ((hB9.setCell (p := ⟨w.heap.size, 0, none⟩) hle0 (.int .i64 ((i : Int) + 1))).setCell (p := ⟨w.heap.size, 1, none⟩) hle0 (.int .i64 cd))
          have hlF := hF.lt
          generalize ((w4.setCell ⟨w.heap.size, 0, none⟩ (.int .i64 ((i : Int) + 1))).setCell ⟨w.heap.size, 1, none⟩ (.int .i64 cd)) = wf at *
          have r0 : wf.cell? ⟨w.heap.size, 0, none⟩ = some (.int .i64 ((i : Int) + 1)) := hF.cell 0
          have r1 : wf.cell? ⟨w.heap.size, 1, none⟩ = some (.int .i64 cd) := hF.cell 1
          refine bodyPost_ret (v := .tuple #[(.slice none 0 0), .agg #[.int .i64 ((i : Int) + 1), .int .i64 cd]]) (by simp [results, Tryz.results6, go_sem, r0, r1, hlF]) rfl ?_
          exact ⟨_, rfl, World.ownsRow_nil _ _ _ _, hWf⟩
    · obtain rfl : n = i := by omega
      have hf : textF rows 1 = (es, 0, 0) := by rw [HF.out, List.drop_eq_nil_of_le (by rw [HN.out]; omega)]; simp [textF, addF]
      rw [HZ.out] at hf
      injection hf with f1 f2
      injection f2 with f2 f3
      subst f1 f2 f3
      have hX3 := HX1.out.below hB HX1.out.lt
      have hXlt := hX3.lt
      have r_0 : wr.cell? ⟨w.heap.size, 0, none⟩ = some (.int .i64 0) := hX3.cell 0
      have r_1 : wr.cell? ⟨w.heap.size, 1, none⟩ = some (.int .i64 0) := hX3.cell 1
      have f_0 := hX3.free 0
      have f_1 := hX3.free 1
      have hB9 := hB1.trans (hB.mono hs1)
      have hown9 := hown
      go_wp2_with fail
      clear r_0 r_1 f_0 f_1 hXlt
      have hown1 := own_low (own_low hown (grown_set (g := w.heap.size) wr 0 (.int .i64 0)) (fun q hq => by injection hq with hq; omega)) (grown_set (g := w.heap.size) (wr.setCell ⟨w.heap.size, 0, none⟩ (.int .i64 0)) 1 (.int .i64 0)) (fun q hq => by injection hq with hq; omega)
      clear hown9
      have hF : Blok ((wr.setCell ⟨w.heap.size, 0, none⟩ (.int .i64 0)).setCell ⟨w.heap.size, 1, none⟩ (.int .i64 0)) w.heap.size 26 #[.int .i64 0, .int .i64 0] := by have h := ((hX3.set_ 0 (.int .i64 0)).set_ 1 (.int .i64 0)); simpa using h
      have hle0 : w.heap.size ≤ w.heap.size := by first | exact Nat.le_refl _ | omega
      have hWf : Below w.heap.size w ((wr.setCell ⟨w.heap.size, 0, none⟩ (.int .i64 0)).setCell ⟨w.heap.size, 1, none⟩ (.int .i64 0)) := ((hB9.setCell (p := ⟨w.heap.size, 0, none⟩) hle0 (.int .i64 0)).setCell (p := ⟨w.heap.size, 1, none⟩) hle0 (.int .i64 0))
      have hlF := hF.lt
      generalize ((wr.setCell ⟨w.heap.size, 0, none⟩ (.int .i64 0)).setCell ⟨w.heap.size, 1, none⟩ (.int .i64 0)) = wf at *
      have r0 : wf.cell? ⟨w.heap.size, 0, none⟩ = some (.int .i64 0) := hF.cell 0
      have r1 : wf.cell? ⟨w.heap.size, 1, none⟩ = some (.int .i64 0) := hF.cell 1
      refine bodyPost_ret (v := .tuple #[(.slice Ae m ce), .agg #[.int .i64 0, .int .i64 0]]) (by simp [results, Tryz.results6, go_sem, r0, r1, hlF]) rfl ?_
      exact ⟨_, rfl, by rw [HLN.out]; exact own_down hown1 hs1, hWf⟩
set_option maxHeartbeats 8000000 in
set_option maxRecDepth 100000 in
theorem rtprint_any (A : Option Addr) (n c : Nat) (ds : List Dr) (hd : ds.length = n) (hn : n ≤ 1000) (w : World) (h : Sl w w.heap.size 13 A n c (flatDr ds)) (r : Option Bytes) (hr : printF ds = r) :
    Calls Tryz.prog 8 #[.slice A n c] w fun e w' => e = .returned (printV r) ∧ Below w.heap.size w w' := by
  have HD := Lib.hid hd
  have HR := Lib.hid hr
  have HL := Lib.hid h
  clear hd hr h
  go_enter Tryz.func8, Tryz.ntmps8
  go_wp2_with fail
  go_loopw [4, 5] (fun sv iv wr => ∃ (i : Nat) (s : Bytes), sv = .string (bs s) ∧ iv = .int .i64 i ∧ i ≤ n ∧ Hid (printF ds = (printF (ds.drop i)).map (s ++ ·)) ∧ s.length ≤ i * 200 ∧ Below w.heap.size w wr) (fun _ iv _ => n - (intOf iv).toNat)
  case atStart => exact ⟨0, [], rfl, rfl, by omega, by simp [Hid], by simp, Below.refl _ _⟩
  case round =>
    obtain ⟨i, s, rfl, rfl, hi, HF, hsl, hB⟩ := hrel
    have hsz := hB.size
    by_cases hin : i < n
    · have hil : i < ds.length := by rw [HD.out]; exact hin
      obtain ⟨ad, rfl, hab, c_0, c_1, c_2, c_3, c_4, c_5, c_6, c_7, c_8, c_9, c_10, c_11, c_12⟩ := (HL.out.below hB).lst.atDr HD.out hin
      have HIL := Lib.hid hil
      clear hil
      obtain ⟨x, hx⟩ : ∃ x, gDr ds i = x := ⟨_, rfl⟩
      rw [hx] at c_0 c_1 c_2 c_3 c_4 c_5 c_6 c_7 c_8 c_9 c_10 c_11 c_12
      have HX := Lib.hid hx
      clear hx
      go_wp2_with fail
      clear c_0 c_1 c_2 c_3 c_4 c_5 c_6 c_7 c_8 c_9 c_10 c_11 c_12
      cases hrx : rightD x
      · have HRX := Lib.hid hrx
        clear hrx
        refine (rwords04_no x wr HRX.out).mono ?_
        rintro e x1 ⟨rfl, hb⟩
        replace hB := hB.trans (hb.mono hsz)
        clear hb
        have hf : printF ds = none := by rw [HF.out, print_no HIL.out (by rw [HX.out]; exact HRX.out)]; rfl
        rw [HR.out] at hf
        subst hf
        go_wp2_with fail
        go_ret2
        exact ⟨rfl, hB⟩
      · have HRX := Lib.hid hrx
        clear hrx
        refine (rwords04_yes x wr HRX.out).mono ?_
        rintro e x1 ⟨v, rfl, hv, hb⟩
        replace hB := hB.trans (hb.mono hsz)
        replace hsz := hB.size
        obtain ⟨k, hk⟩ : ∃ k, 2 + (numsD x).length = k := ⟨_, rfl⟩
        rw [hk] at hv
        have hkb : k ≤ 10 := by have := nums_le x; omega
        have HK := Lib.hid (show (wordsD x).length = k by rw [words_len_eq]; exact hk)
        clear hk hb
        obtain ⟨A1, c1, rfl⟩ := slice_of_own hv
        have h1 := Sl.of_own hv
        clear hv
        go_wp2_with fail
        refine (rline_any A1 k c1 (wordsD x) x1 HK.out (by omega) (fun y hy => Nat.le_trans (words_small HRX.out y hy) (by omega)) h1).mono ?_
        rintro e x2 ⟨rfl, hb⟩
        replace hB := hB.trans (hb.mono hsz)
        replace hsz := hB.size
        clear hb h1
        have hll := lnD_len HRX.out
        obtain ⟨y, hy⟩ : ∃ y, lineL (wordsD x) = y := ⟨_, rfl⟩
        rw [hy] at hll
        have hn2 : printF ds = (printF (ds.drop (i + 1))).map ((s ++ y) ++ ·) := by
          rw [HF.out, print_ok HIL.out (by rw [HX.out]; exact HRX.out), HX.out, hy, Option.map_map]
          congr 1
          funext t
          simp
        have HN2 := Lib.hid hn2
        have hsz2 : (bs s).size ≤ 200000 := by rw [bs_size]; have : i * 200 ≤ 1000 * 200 := Nat.mul_le_mul (by omega) (by omega); omega
        have hsz3 : (bs y).size ≤ 200 := by rw [bs_size]; exact hll
        have hcat : bs s ++ bs y = bs (s ++ y) := bs_append s y
        have HC := Lib.hid hcat
        rw [hy]
        clear hy hn2 hcat
        go_wp2_with fail
        go_roundw
        case rel => exact ⟨i + 1, s ++ y, by first | (rw [← HC.out]; done) | (rw [← HC.out]; rfl), by go_num, by omega, HN2, by rw [List.length_append]; omega, hB⟩
        case measure => simp [intOf]; omega
    · obtain rfl : n = i := by omega
      have hf : printF ds = some s := by rw [HF.out, List.drop_eq_nil_of_le (by rw [HD.out]; omega)]; simp [printF]
      rw [HR.out] at hf
      subst hf
      go_wp2_with fail
      go_ret2
      exact ⟨rfl, hB⟩
end Go.Proofs.YtcclfmaockapjaaGreatDoor

/- Layer 5's small case comes out right. It reads a table of the library's. -/
namespace Go.Proofs.YtcclfmaockapjaaGreatDoor
open Go.ChangeShapes Go.WideShapes Go.ChangeAt Go.RowKit Go.Sort
set_option linter.unusedSimpArgs false
set_option linter.unusedVariables false
def s05_m : List Dr := [⟨1, 2, 0, 0, 0, 0, 0, 0, 1, 2, 0, 9, 4⟩, ⟨2, 1, 7, 0, 0, 0, 0, 0, 0, 0, 0, 0, 0⟩]
theorem s05_t0 : textF (linesL [35, 32, 120, 10, 10, 97, 32, 114, 97, 110, 103, 101, 32, 49, 32, 50, 32, 48, 32, 57, 32, 52, 32, 35, 32, 121, 10, 32, 100, 32, 32, 99, 111, 110, 116, 97, 99, 116, 32, 55, 13, 10]) 1 = ([⟨1, 2, 0, 0, 0, 0, 0, 0, 1, 2, 0, 9, 4⟩, ⟨2, 1, 7, 0, 0, 0, 0, 0, 0, 0, 0, 0, 0⟩], 0, 0) := by decide +kernel
theorem s05_n0 : (linesL [35, 32, 120, 10, 10, 97, 32, 114, 97, 110, 103, 101, 32, 49, 32, 50, 32, 48, 32, 57, 32, 52, 32, 35, 32, 121, 10, 32, 100, 32, 32, 99, 111, 110, 116, 97, 99, 116, 32, 55, 13, 10]).length = 4 := by decide +kernel
theorem s05_c0 (w : World) (hm : MaxAt w) : Calls Tryz.prog 5 #[.string ⟨#[35, 32, 120, 10, 10, 97, 32, 114, 97, 110, 103, 101, 32, 49, 32, 50, 32, 48, 32, 57, 32, 52, 32, 35, 32, 121, 10, 32, 100, 32, 32, 99, 111, 110, 116, 97, 99, 116, 32, 55, 13, 10]⟩] w fun e w' => ∃ A c, e = .returned (.tuple #[.slice A 2 c, .agg #[.int .i64 0, .int .i64 0]]) ∧ w'.ownsRow w.heap.size 41 13 (.slice A 2 c) 2 (flatDr s05_m) ∧ Below w.heap.size w w' := by
  refine (tparse_any ⟨#[35, 32, 120, 10, 10, 97, 32, 114, 97, 110, 103, 101, 32, 49, 32, 50, 32, 48, 32, 57, 32, 52, 32, 35, 32, 121, 10, 32, 100, 32, 32, 99, 111, 110, 116, 97, 99, 116, 32, 55, 13, 10]⟩ (linesL [35, 32, 120, 10, 10, 97, 32, 114, 97, 110, 103, 101, 32, 49, 32, 50, 32, 48, 32, 57, 32, 52, 32, 35, 32, 121, 10, 32, 100, 32, 32, 99, 111, 110, 116, 97, 99, 116, 32, 55, 13, 10]) 4 rfl s05_n0 w hm (by decide) _ _ _ s05_t0).mono ?_
  rintro e w1 ⟨v, rfl, hv, hb⟩
  obtain ⟨A, c, rfl⟩ := slice_of_own hv
  exact ⟨A, c, rfl, hv, hb⟩
theorem s05_t1 : textF (linesL [10, 100, 32, 99, 111, 110, 116, 97, 99, 116, 32, 55, 10, 120, 10]) 1 = ([], 3, 2) := by decide +kernel
theorem s05_n1 : (linesL [10, 100, 32, 99, 111, 110, 116, 97, 99, 116, 32, 55, 10, 120, 10]).length = 3 := by decide +kernel
theorem s05_c1 (w : World) (hm : MaxAt w) : Calls Tryz.prog 5 #[.string ⟨#[10, 100, 32, 99, 111, 110, 116, 97, 99, 116, 32, 55, 10, 120, 10]⟩] w fun e w' => ∃ A c, e = .returned (.tuple #[.slice A 0 c, .agg #[.int .i64 3, .int .i64 2]]) ∧ w'.ownsRow w.heap.size 41 13 (.slice A 0 c) 0 (flatDr []) ∧ Below w.heap.size w w' := by
  refine (tparse_any ⟨#[10, 100, 32, 99, 111, 110, 116, 97, 99, 116, 32, 55, 10, 120, 10]⟩ (linesL [10, 100, 32, 99, 111, 110, 116, 97, 99, 116, 32, 55, 10, 120, 10]) 3 rfl s05_n1 w hm (by decide) _ _ _ s05_t1).mono ?_
  rintro e w1 ⟨v, rfl, hv, hb⟩
  obtain ⟨A, c, rfl⟩ := slice_of_own hv
  exact ⟨A, c, rfl, hv, hb⟩
theorem s05_t2 : textF (linesL [100, 32, 99, 111, 110, 116, 97, 99, 116, 32, 48]) 1 = ([], 1, 1) := by decide +kernel
theorem s05_n2 : (linesL [100, 32, 99, 111, 110, 116, 97, 99, 116, 32, 48]).length = 1 := by decide +kernel
theorem s05_c2 (w : World) (hm : MaxAt w) : Calls Tryz.prog 5 #[.string ⟨#[100, 32, 99, 111, 110, 116, 97, 99, 116, 32, 48]⟩] w fun e w' => ∃ A c, e = .returned (.tuple #[.slice A 0 c, .agg #[.int .i64 1, .int .i64 1]]) ∧ w'.ownsRow w.heap.size 41 13 (.slice A 0 c) 0 (flatDr []) ∧ Below w.heap.size w w' := by
  refine (tparse_any ⟨#[100, 32, 99, 111, 110, 116, 97, 99, 116, 32, 48]⟩ (linesL [100, 32, 99, 111, 110, 116, 97, 99, 116, 32, 48]) 1 rfl s05_n2 w hm (by decide) _ _ _ s05_t2).mono ?_
  rintro e w1 ⟨v, rfl, hv, hb⟩
  obtain ⟨A, c, rfl⟩ := slice_of_own hv
  exact ⟨A, c, rfl, hv, hb⟩
theorem s05_p0 : printF s05_m = some [97, 32, 114, 97, 110, 103, 101, 32, 49, 32, 50, 32, 48, 32, 57, 32, 52, 10, 100, 32, 99, 111, 110, 116, 97, 99, 116, 32, 55, 10] := by decide +kernel
theorem s05_p1 : printF [zeroDr] = none := by decide +kernel
theorem s05_l : lnoF (linesL [97, 10, 32, 35, 10, 98]) 1 = [1, 3] := by decide +kernel
theorem s05_ln : (linesL [97, 10, 32, 35, 10, 98]).length = 3 := by decide +kernel
theorem s05_lc (w : World) (hm : MaxAt w) : Calls Tryz.prog 11 #[.string ⟨#[97, 10, 32, 35, 10, 98]⟩] w fun e w' => ∃ A c, e = .returned (.slice A 2 c) ∧ w'.ownsRow w.heap.size 3 1 (.slice A 2 c) 2 ([1, 3].map (Value.int .i64)) ∧ Below w.heap.size w w' := by
  refine (tlines_any ⟨#[97, 10, 32, 35, 10, 98]⟩ (linesL [97, 10, 32, 35, 10, 98]) 3 rfl s05_ln w hm (by decide)).mono ?_
  rw [s05_l]
  rintro e w1 ⟨v, rfl, hv, hb⟩
  obtain ⟨A, c, rfl⟩ := slice_of_own hv
  exact ⟨A, c, rfl, hv, hb⟩
theorem fints_is (A A' : Option Addr) (n c n' c' : Nat) (d d' : List Int) (b : Bool) (hb : decide (d = d') = b) (w : World) (hd : d.length = n) (hd' : d'.length = n') (hn : n ≤ 100000) (h : Sl w w.heap.size 1 A n c (d.map (Value.int .i64))) (h' : Sl w w.heap.size 1 A' n' c' (d'.map (Value.int .i64))) :
    Calls Tryz.prog 10 #[.slice A n c, .slice A' n' c'] w fun e w' => e = .returned (.bool b) ∧ Below w.heap.size w w' := by
  subst hb; exact fints_any A A' n c n' c' d d' w hd hd' hn h h'
theorem fsame_is (A A' : Option Addr) (n c n' c' : Nat) (d d' : List Dr) (b : Bool) (hb : decide (d = d') = b) (w : World) (hd : d.length = n) (hd' : d'.length = n') (hn : n ≤ 100000) (h : Sl w w.heap.size 13 A n c (flatDr d)) (h' : Sl w w.heap.size 13 A' n' c' (flatDr d')) :
    Calls Tryz.prog 9 #[.slice A n c, .slice A' n' c'] w fun e w' => e = .returned (.bool b) ∧ Below w.heap.size w w' := by
  subst hb; exact fsame_any A A' n c n' c' d d' w hd hd' hn h h'

set_option maxHeartbeats 16000000 in
set_option maxRecDepth 100000 in
theorem small05_any (w : World) (ht : TenTab w) (hm : MaxAt w) : Calls Tryz.prog 4 #[] w fun e w' => e = .returned (.bool true) ∧ Below w.heap.size w w' := by
  have q1 : ∀ w0 : World, (binOp .eql 26 (.agg #[.int .i64 0, .int .i64 0]) (.agg #[.int .i64 0, .int .i64 0])).run Tryz.prog w0 = .ok (.bool true) w0 := fun w0 => by have h := eqlFt 0 0 0 0 w0; simpa using h
  have q2 : ∀ w0 : World, (binOp .eql 26 (.agg #[.int .i64 3, .int .i64 2]) (.agg #[.int .i64 3, .int .i64 2])).run Tryz.prog w0 = .ok (.bool true) w0 := fun w0 => by have h := eqlFt 3 2 3 2 w0; simpa using h
  have q3 : ∀ w0 : World, (binOp .eql 26 (.agg #[.int .i64 1, .int .i64 1]) (.agg #[.int .i64 1, .int .i64 1])).run Tryz.prog w0 = .ok (.bool true) w0 := fun w0 => by have h := eqlFt 1 1 1 1 w0; simpa using h
  have HT := Lib.hid (fun w' (hb : Below w.heap.size w w') => ht.below hb)
  have HM := Lib.hid (fun w' (hb : Below w.heap.size w w') => hm.below hb)
  have hB := Below.refl w.heap.size w
  have hs := Nat.le_refl w.heap.size
  clear ht hm
  go_enter Tryz.func4, Tryz.ntmps4
  go_wp2_with fail
  refine (s05_c0 w (HM.out w hB)).mono ?_
  rintro e y0 ⟨A1, c1, rfl, h1, hb⟩
  have l1 := Sl.of_own h1
  clear h1
  replace hB := hB.trans (hb.mono hs)
  replace hs := hB.size
  clear hb
  go_upto_region 2 with fail
  have hf := Blok.new y0 26 #[.int .i64 0, .int .i64 0]
  have hb : Below y0.heap.size y0 (y0.alloc (.cells #[.int .i64 0, .int .i64 0] 26)) := by (repeat (first | exact Below.refl _ _ | refine Below.alloc ?_ (by first | omega | (simp; done) | (simp; omega)) _ | refine Below.setCell ?_ (by first | omega | (simp; done) | (simp; omega)) _ | refine Below.drew ?_))
  replace l1 := l1.up hb
  replace hB := hB.trans (hb.mono hs)
  replace hs := hB.size
  clear hb
  generalize y0.alloc (.cells #[.int .i64 0, .int .i64 0] 26) = y1 at *
  generalize hzz : y0.heap.size = bf at *
  clear hzz
  go_wp2_with fail
  have hom := own_lit y1 0 41 13 2 #[.int .i64 1, .int .i64 2, .int .i64 0, .int .i64 0, .int .i64 0, .int .i64 0, .int .i64 0, .int .i64 0, .int .i64 1, .int .i64 2, .int .i64 0, .int .i64 9, .int .i64 4, .int .i64 2, .int .i64 1, .int .i64 7, .int .i64 0, .int .i64 0, .int .i64 0, .int .i64 0, .int .i64 0, .int .i64 0, .int .i64 0, .int .i64 0, .int .i64 0, .int .i64 0] (Nat.zero_le _) rfl (by simp [maxLen])
  have lm : Sl (y1.alloc (.cells #[.int .i64 1, .int .i64 2, .int .i64 0, .int .i64 0, .int .i64 0, .int .i64 0, .int .i64 0, .int .i64 0, .int .i64 1, .int .i64 2, .int .i64 0, .int .i64 9, .int .i64 4, .int .i64 2, .int .i64 1, .int .i64 7, .int .i64 0, .int .i64 0, .int .i64 0, .int .i64 0, .int .i64 0, .int .i64 0, .int .i64 0, .int .i64 0, .int .i64 0, .int .i64 0] 41)) (y1.alloc (.cells #[.int .i64 1, .int .i64 2, .int .i64 0, .int .i64 0, .int .i64 0, .int .i64 0, .int .i64 0, .int .i64 0, .int .i64 1, .int .i64 2, .int .i64 0, .int .i64 9, .int .i64 4, .int .i64 2, .int .i64 1, .int .i64 7, .int .i64 0, .int .i64 0, .int .i64 0, .int .i64 0, .int .i64 0, .int .i64 0, .int .i64 0, .int .i64 0, .int .i64 0, .int .i64 0] 41)).heap.size 13 (some ⟨y1.heap.size, 0, none⟩) 2 2 (flatDr s05_m) := Sl.of_own hom
  have hb : Below y1.heap.size y1 (y1.alloc (.cells #[.int .i64 1, .int .i64 2, .int .i64 0, .int .i64 0, .int .i64 0, .int .i64 0, .int .i64 0, .int .i64 0, .int .i64 1, .int .i64 2, .int .i64 0, .int .i64 9, .int .i64 4, .int .i64 2, .int .i64 1, .int .i64 7, .int .i64 0, .int .i64 0, .int .i64 0, .int .i64 0, .int .i64 0, .int .i64 0, .int .i64 0, .int .i64 0, .int .i64 0, .int .i64 0] 41)) := by (repeat (first | exact Below.refl _ _ | refine Below.alloc ?_ (by first | omega | (simp; done) | (simp; omega)) _ | refine Below.setCell ?_ (by first | omega | (simp; done) | (simp; omega)) _ | refine Below.drew ?_))
  clear hom
  replace l1 := l1.up hb
  replace hf := hf.below hb hf.lt
  replace hB := hB.trans (hb.mono hs)
  replace hs := hB.size
  clear hb
  generalize y1.alloc (.cells #[.int .i64 1, .int .i64 2, .int .i64 0, .int .i64 0, .int .i64 0, .int .i64 0, .int .i64 0, .int .i64 0, .int .i64 1, .int .i64 2, .int .i64 0, .int .i64 9, .int .i64 4, .int .i64 2, .int .i64 1, .int .i64 7, .int .i64 0, .int .i64 0, .int .i64 0, .int .i64 0, .int .i64 0, .int .i64 0, .int .i64 0, .int .i64 0, .int .i64 0, .int .i64 0] 41) = y2 at *
  generalize hzz : y1.heap.size = bm at *
  clear hzz
  refine (s05_c1 y2 (HM.out y2 hB)).mono ?_
  rintro e y3 ⟨A3, c3, rfl, h3, hb⟩
  clear h3
  replace l1 := l1.up hb
  replace lm := lm.up hb
  replace hf := hf.below hb hf.lt
  replace hB := hB.trans (hb.mono hs)
  replace hs := hB.size
  clear hb
  go_upto_region 4 with fail
  have hg := Blok.new y3 26 #[.int .i64 3, .int .i64 2]
  have hb : Below y3.heap.size y3 (y3.alloc (.cells #[.int .i64 3, .int .i64 2] 26)) := by (repeat (first | exact Below.refl _ _ | refine Below.alloc ?_ (by first | omega | (simp; done) | (simp; omega)) _ | refine Below.setCell ?_ (by first | omega | (simp; done) | (simp; omega)) _ | refine Below.drew ?_))
  replace l1 := l1.up hb
  replace lm := lm.up hb
  replace hf := hf.below hb hf.lt
  replace hB := hB.trans (hb.mono hs)
  replace hs := hB.size
  clear hb
  generalize y3.alloc (.cells #[.int .i64 3, .int .i64 2] 26) = y4 at *
  generalize hzz : y3.heap.size = bg at *
  clear hzz
  go_wp2_with fail
  refine (s05_c2 y4 (HM.out y4 hB)).mono ?_
  rintro e y5 ⟨A5, c5, rfl, h5, hb⟩
  clear h5
  replace l1 := l1.up hb
  replace lm := lm.up hb
  replace hf := hf.below hb hf.lt
  replace hg := hg.below hb hg.lt
  replace hB := hB.trans (hb.mono hs)
  replace hs := hB.size
  clear hb
  go_upto_region 5 with fail
  have hh := Blok.new y5 26 #[.int .i64 1, .int .i64 1]
  have hb : Below y5.heap.size y5 (y5.alloc (.cells #[.int .i64 1, .int .i64 1] 26)) := by (repeat (first | exact Below.refl _ _ | refine Below.alloc ?_ (by first | omega | (simp; done) | (simp; omega)) _ | refine Below.setCell ?_ (by first | omega | (simp; done) | (simp; omega)) _ | refine Below.drew ?_))
  replace l1 := l1.up hb
  replace lm := lm.up hb
  replace hf := hf.below hb hf.lt
  replace hg := hg.below hb hg.lt
  replace hB := hB.trans (hb.mono hs)
  replace hs := hB.size
  clear hb
  generalize y5.alloc (.cells #[.int .i64 1, .int .i64 1] 26) = y6 at *
  generalize hzz : y5.heap.size = bh at *
  clear hzz
  go_wp2_with fail
  refine (tprint_any (some ⟨bm, 0, none⟩) 2 2 s05_m rfl (by omega) (by decide) y6 (HT.out y6 hB) lm _ s05_p0).mono ?_
  rintro e y7 ⟨rfl, hb⟩
  replace l1 := l1.up hb
  replace lm := lm.up hb
  replace hf := hf.below hb hf.lt
  replace hg := hg.below hb hg.lt
  replace hh := hh.below hb hh.lt
  replace hB := hB.trans (hb.mono hs)
  replace hs := hB.size
  clear hb
  dsimp only [printV]
  rw [show bs [97, 32, 114, 97, 110, 103, 101, 32, 49, 32, 50, 32, 48, 32, 57, 32, 52, 10, 100, 32, 99, 111, 110, 116, 97, 99, 116, 32, 55, 10] = (⟨#[97, 32, 114, 97, 110, 103, 101, 32, 49, 32, 50, 32, 48, 32, 57, 32, 52, 10, 100, 32, 99, 111, 110, 116, 97, 99, 116, 32, 55, 10]⟩ : ByteArray) from rfl]
  go_wp2_with fail
  have hoz := own_lit y7 0 41 13 1 #[.int .i64 0, .int .i64 0, .int .i64 0, .int .i64 0, .int .i64 0, .int .i64 0, .int .i64 0, .int .i64 0, .int .i64 0, .int .i64 0, .int .i64 0, .int .i64 0, .int .i64 0] (Nat.zero_le _) rfl (by simp [maxLen])
  have lz : Sl (y7.alloc (.cells #[.int .i64 0, .int .i64 0, .int .i64 0, .int .i64 0, .int .i64 0, .int .i64 0, .int .i64 0, .int .i64 0, .int .i64 0, .int .i64 0, .int .i64 0, .int .i64 0, .int .i64 0] 41)) (y7.alloc (.cells #[.int .i64 0, .int .i64 0, .int .i64 0, .int .i64 0, .int .i64 0, .int .i64 0, .int .i64 0, .int .i64 0, .int .i64 0, .int .i64 0, .int .i64 0, .int .i64 0, .int .i64 0] 41)).heap.size 13 (some ⟨y7.heap.size, 0, none⟩) 1 1 (flatDr [zeroDr]) := Sl.of_own hoz
  have hb : Below y7.heap.size y7 (y7.alloc (.cells #[.int .i64 0, .int .i64 0, .int .i64 0, .int .i64 0, .int .i64 0, .int .i64 0, .int .i64 0, .int .i64 0, .int .i64 0, .int .i64 0, .int .i64 0, .int .i64 0, .int .i64 0] 41)) := by (repeat (first | exact Below.refl _ _ | refine Below.alloc ?_ (by first | omega | (simp; done) | (simp; omega)) _ | refine Below.setCell ?_ (by first | omega | (simp; done) | (simp; omega)) _ | refine Below.drew ?_))
  clear hoz
  replace l1 := l1.up hb
  replace lm := lm.up hb
  replace hf := hf.below hb hf.lt
  replace hg := hg.below hb hg.lt
  replace hh := hh.below hb hh.lt
  replace hB := hB.trans (hb.mono hs)
  replace hs := hB.size
  clear hb
  generalize y7.alloc (.cells #[.int .i64 0, .int .i64 0, .int .i64 0, .int .i64 0, .int .i64 0, .int .i64 0, .int .i64 0, .int .i64 0, .int .i64 0, .int .i64 0, .int .i64 0, .int .i64 0, .int .i64 0] 41) = y8 at *
  refine (tprint_any (some ⟨y7.heap.size, 0, none⟩) 1 1 [zeroDr] rfl (by omega) (by decide) y8 (HT.out y8 hB) lz _ s05_p1).mono ?_
  rintro e y9 ⟨rfl, hb⟩
  clear lz
  replace l1 := l1.up hb
  replace lm := lm.up hb
  replace hf := hf.below hb hf.lt
  replace hg := hg.below hb hg.lt
  replace hh := hh.below hb hh.lt
  replace hB := hB.trans (hb.mono hs)
  replace hs := hB.size
  clear hb
  dsimp only [printV]
  go_wp2_with fail
  refine (fsame_is A1 (some ⟨bm, 0, none⟩) 2 c1 2 2 s05_m s05_m true (decide_eq_true rfl) y9 rfl rfl (by omega) l1 lm).mono ?_
  rintro e u0 ⟨rfl, hb⟩
  clear l1 lm
  replace hf := hf.below hb hf.lt
  replace hg := hg.below hb hg.lt
  replace hh := hh.below hb hh.lt
  replace hB := hB.trans (hb.mono hs)
  replace hs := hB.size
  clear hb
  have kf0 : u0.cell? ⟨bf, 0, none⟩ = some (.int .i64 0) := hf.cell 0
  have kf1 : u0.cell? ⟨bf, 1, none⟩ = some (.int .i64 0) := hf.cell 1
  have lt_f := hf.lt
  have kg0 : u0.cell? ⟨bg, 0, none⟩ = some (.int .i64 3) := hg.cell 0
  have kg1 : u0.cell? ⟨bg, 1, none⟩ = some (.int .i64 2) := hg.cell 1
  have lt_g := hg.lt
  have kh0 : u0.cell? ⟨bh, 0, none⟩ = some (.int .i64 1) := hh.cell 0
  have kh1 : u0.cell? ⟨bh, 1, none⟩ = some (.int .i64 1) := hh.cell 1
  have lt_h := hh.lt
  clear hf hg hh
  go_wp2_with fail
  clear kf0 kf1 kg0 kg1 kh0 kh1 lt_f lt_g lt_h
  refine (s05_lc u0 (HM.out u0 hB)).mono ?_
  rintro e u1 ⟨A6, c6, rfl, h6, hb⟩
  have l6 := Sl.of_own h6
  clear h6
  replace hB := hB.trans (hb.mono hs)
  replace hs := hB.size
  clear hb
  go_wp2_with fail
  have hoi := own_lit u1 0 3 1 2 #[.int .i64 1, .int .i64 3] (Nat.zero_le _) rfl (by simp [maxLen])
  have li : Sl (u1.alloc (.cells #[.int .i64 1, .int .i64 3] 3)) (u1.alloc (.cells #[.int .i64 1, .int .i64 3] 3)).heap.size 1 (some ⟨u1.heap.size, 0, none⟩) 2 2 ([1, 3].map (Value.int .i64)) := Sl.of_own hoi
  have hb : Below u1.heap.size u1 (u1.alloc (.cells #[.int .i64 1, .int .i64 3] 3)) := by (repeat (first | exact Below.refl _ _ | refine Below.alloc ?_ (by first | omega | (simp; done) | (simp; omega)) _ | refine Below.setCell ?_ (by first | omega | (simp; done) | (simp; omega)) _ | refine Below.drew ?_))
  clear hoi
  replace l6 := l6.up hb
  replace hB := hB.trans (hb.mono hs)
  replace hs := hB.size
  clear hb
  refine (fints_is A6 (some ⟨u1.heap.size, 0, none⟩) 2 c6 2 2 [1, 3] [1, 3] true (decide_eq_true rfl) _ rfl rfl (by omega) l6 li).mono ?_
  rintro e u2 ⟨rfl, hb⟩
  clear l6 li
  replace hB := hB.trans (hb.mono hs)
  replace hs := hB.size
  clear hb
  go_wp2_with fail
  go_ret
  exact ⟨rfl, hB⟩
end Go.Proofs.YtcclfmaockapjaaGreatDoor

/- From a row's list of package-level variables to the facts that the walks want. -/
namespace Go.Proofs.YtcclfmaockapjaaGreatDoor
open Go.ChangeShapes Go.WideShapes Go.ChangeAt Go.RowKit Go.Sort
set_option linter.unusedSimpArgs false
set_option linter.unusedVariables false

theorem ten_max {W : World} (h : laidMetH Tryz.prog Rows.textTellsRow.laid W) (hs : W.ShapedOpen Tryz.prog) : TenTab W ∧ MaxAt W := by
  refine ⟨?_, max_of_shaped hs⟩
  have h1 := laidMetH.filter (fun x => x.1 == "internal/strconv.uint64pow10") h
  rw [MakeChecks.laidMetH_plain _ _ _ (by kernel_rfl)] at h1
  have h2 : laidMet Tryz.prog [("internal/strconv.uint64pow10", Lib.tabData .u64 Lib.pow10Tab)] W := h1
  exact Lib.tabIs_of_head (g := 3) (t := 123) (e := 113) (n := 20) (by kernel_rfl) (by kernel_rfl) Tryz.underlying123 Tryz.underlying113 (by kernel_rfl) (by kernel_rfl) h2
end Go.Proofs.YtcclfmaockapjaaGreatDoor
