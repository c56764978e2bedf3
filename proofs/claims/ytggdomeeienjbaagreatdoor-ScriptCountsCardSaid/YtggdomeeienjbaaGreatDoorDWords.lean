
/- Package direct: the words of a deed, where a word stands, numbers of words. They make new memory alone. -/
import Derived.Test.YtggdomeeienjbaaGreatDoorWRef
import Derived.Test.YtggdomeeienjbaaGreatDoorParse
import Derived.Test.YtggdomeeienjbaaGreatDoorInts
import Derived.Test.YtggdomeeienjbaaGreatDoorStep
import Derived.Test.YtggdomeeienjbaaGreatDoorWOpen
namespace Go.Proofs.YtggdomeeienjbaaGreatDoor
open Go.ChangeShapes Go.WideShapes Go.ChangeAt Go.RowKit Go.Sort
set_option linter.unusedSimpArgs false
set_option linter.unusedVariables false
def opW : List Bytes := [[], [97], [100], [99]]
def kdW : List Bytes := [[], [99, 111, 110, 116, 97, 99, 116], [114, 97, 110, 103, 101]]
theorem opw_any (w : World) : Calls Tryz.prog 25 #[] w fun e w' => e = .returned (.slice (some ⟨w.heap.size, 0, none⟩) 4 4) ∧ Sl w' w'.heap.size 1 (some ⟨w.heap.size, 0, none⟩) 4 4 (vs opW) ∧ Below w.heap.size w w' := by
  have ho := own_lit w w.heap.size 9 1 4 #[.string (bs []), .string (bs [97]), .string (bs [100]), .string (bs [99])] (Nat.le_refl _) rfl (by simp [maxLen])
  have hB : Below w.heap.size w (w.alloc (.cells #[.string (bs []), .string (bs [97]), .string (bs [100]), .string (bs [99])] 9)) := by (repeat (first | exact Below.refl _ _ | refine Below.alloc ?_ (by first | omega | (simp; done) | (simp; omega)) _ | refine Below.setCell ?_ (by first | omega | (simp; done) | (simp; omega)) _ | refine Below.drew ?_))
  go_enter Tryz.func25, Tryz.ntmps25
  go_wp2_with fail
  go_ret
  exact ⟨rfl, Sl.of_own ho, hB⟩
theorem kdw_any (w : World) : Calls Tryz.prog 26 #[] w fun e w' => e = .returned (.slice (some ⟨w.heap.size, 0, none⟩) 3 3) ∧ Sl w' w'.heap.size 1 (some ⟨w.heap.size, 0, none⟩) 3 3 (vs kdW) ∧ Below w.heap.size w w' := by
  have ho := own_lit w w.heap.size 9 1 3 #[.string (bs []), .string (bs [99, 111, 110, 116, 97, 99, 116]), .string (bs [114, 97, 110, 103, 101])] (Nat.le_refl _) rfl (by simp [maxLen])
  have hB : Below w.heap.size w (w.alloc (.cells #[.string (bs []), .string (bs [99, 111, 110, 116, 97, 99, 116]), .string (bs [114, 97, 110, 103, 101])] 9)) := by (repeat (first | exact Below.refl _ _ | refine Below.alloc ?_ (by first | omega | (simp; done) | (simp; omega)) _ | refine Below.setCell ?_ (by first | omega | (simp; done) | (simp; omega)) _ | refine Below.drew ?_))
  go_enter Tryz.func26, Tryz.ntmps26
  go_wp2_with fail
  go_ret
  exact ⟨rfl, Sl.of_own ho, hB⟩
/-- Where a word stands; 0 if it does not. -/
def placeF (d : List Bytes) (x : Bytes) : Int := match (List.range d.length).find? (fun i => decide (1 ≤ i) && decide (gS d i = x)) with
  | some i => (i : Int)
  | none => 0
theorem place_at {d : List Bytes} {x : Bytes} {i : Nat} (h1 : 1 ≤ i) (hi : i < d.length) (hx : gS d i = x) (hn : ∀ j, 1 ≤ j → j < i → gS d j ≠ x) : placeF d x = (i : Int) := by
  unfold placeF
  have h : (List.range d.length).find? (fun i => decide (1 ≤ i) && decide (gS d i = x)) = some i := by
    rw [List.find?_eq_some_iff_getElem]
    refine ⟨by simp [h1, hx], i, by simpa using hi, by simp, fun j hj => ?_⟩
    simp only [List.getElem_range, Bool.not_eq_true', Bool.and_eq_false_iff, decide_eq_false_iff_not]
    by_cases hj1 : 1 ≤ j
    · exact .inr (hn j hj1 hj)
    · exact .inl hj1
  rw [h]
theorem place_none {d : List Bytes} {x : Bytes} (hn : ∀ j, 1 ≤ j → j < d.length → gS d j ≠ x) : placeF d x = 0 := by
  unfold placeF
  have h : (List.range d.length).find? (fun i => decide (1 ≤ i) && decide (gS d i = x)) = none := by
    rw [List.find?_eq_none]
    intro j hj
    have hj' := List.mem_range.1 hj
    simp only [Bool.and_eq_true, decide_eq_true_eq, not_and]
    intro h1
    exact hn j h1 hj'
  rw [h]
def opF (x : Bytes) : Int := if x = [97] then 1 else if x = [100] then 2 else if x = [99] then 3 else 0
def kdF (x : Bytes) : Int := if x = [99, 111, 110, 116, 97, 99, 116] then 1 else if x = [114, 97, 110, 103, 101] then 2 else 0
theorem place_op (x : Bytes) : placeF opW x = opF x := by
  unfold opF
  split
  · rename_i h; subst h
    exact place_at (i := 1) (by omega) (by decide) rfl (fun j h1 h2 => by omega)
  · rename_i h1
    split
    · rename_i h; subst h
      refine place_at (i := 2) (by omega) (by decide) rfl ?_
      intro j h1 h2
      obtain rfl : j = 1 := by omega
      decide
    · rename_i h2
      split
      · rename_i h; subst h
        refine place_at (i := 3) (by omega) (by decide) rfl ?_
        intro j h1 h2
        have hj : j = 1 ∨ j = 2 := by omega
        rcases hj with rfl | rfl <;> decide
      · rename_i h3
        refine place_none fun j hj1 hj2 => ?_
        have hj : j = 1 ∨ j = 2 ∨ j = 3 := by
          have : opW.length = 4 := rfl
          omega
        rcases hj with rfl | rfl | rfl
        · exact fun e => h1 e.symm
        · exact fun e => h2 e.symm
        · exact fun e => h3 e.symm
theorem place_kd (x : Bytes) : placeF kdW x = kdF x := by
  unfold kdF
  split
  · rename_i h; subst h
    exact place_at (i := 1) (by omega) (by decide) rfl (fun j h1 h2 => by omega)
  · rename_i h1
    split
    · rename_i h; subst h
      refine place_at (i := 2) (by omega) (by decide) rfl ?_
      intro j h1 h2
      obtain rfl : j = 1 := by omega
      decide
    · rename_i h2
      refine place_none fun j hj1 hj2 => ?_
      have hj : j = 1 ∨ j = 2 := by
        have : kdW.length = 3 := rfl
        omega
      rcases hj with rfl | rfl
      · exact fun e => h1 e.symm
      · exact fun e => h2 e.symm
set_option maxHeartbeats 1000000 in
set_option maxRecDepth 100000 in
theorem place_any (A : Option Addr) (n c : Nat) (d : List Bytes) (x : Bytes) (w : World) (hd : d.length = n) (hn : n ≤ 100000) (h : Sl w w.heap.size 1 A n c (vs d)) (r : Int) (hr : placeF d x = r) :
    Calls Tryz.prog 24 #[.slice A n c, .string (bs x)] w fun e w' => e = .returned (.int .i64 r) ∧ Below w.heap.size w w' := by
  have HD := Lib.hid hd
  have HL := Lib.hid h
  have HR := Lib.hid hr
  clear hd h hr
  go_enter Tryz.func24, Tryz.ntmps24
  go_wp2
  go_loopw [5] (fun iv wr => ∃ (i : Nat), iv = .int .i64 i ∧ 1 ≤ i ∧ Hid (∀ j, 1 ≤ j → j < i → gS d j ≠ x) ∧ Below w.heap.size w wr) (fun iv _ => n - (intOf iv).toNat)
  case atStart => exact ⟨1, rfl, by omega, fun j h1 h2 => by omega, Below.refl _ _⟩
  case round =>
    obtain ⟨i, rfl, hi1, HN, hB⟩ := hrel
    by_cases hin : i < n
    · obtain ⟨ad, rfl, hab, c0⟩ := (HL.out.below hB).lst.atS HD.out hin
      have hin2 : (i : Int) < (n : Int) := by omega
      by_cases he : gS d i = x
      · rw [he] at c0
        have HE := Lib.hid he
        clear he
        go_wp2_with fail
        go_ret
        exact ⟨by rw [← HR.out, place_at hi1 (by rw [HD.out]; exact hin) HE.out HN.out]; rfl, hB⟩
      · have hsb : ((bs (gS d i)).toList == (bs x).toList) = false := by
          rw [beq_eq_false_iff_ne]
          intro e
          exact he ((str_ne _ _).1 e)
        have HN2 : Hid (∀ j, 1 ≤ j → j < i + 1 → gS d j ≠ x) := fun j h1 h2 => by
          rcases Nat.lt_or_ge j i with h3 | h3
          · exact HN.out j h1 h3
          · have : j = i := by omega
            rw [this]; exact he
        clear he
        generalize bs (gS d i) = s1 at *
        go_wp2_with fail
        go_roundw
        case rel => exact ⟨i + 1, by go_num, by omega, HN2, hB⟩
        case measure => simp [intOf]; omega
    · have hin2 : ¬ (i : Int) < (n : Int) := by omega
      go_wp2_with fail
      go_ret
      exact ⟨by rw [← HR.out, place_none (fun j h1 h2 => HN.out j h1 (by rw [HD.out] at h2; omega))]; rfl, hB⟩
theorem infoI04 : (Tryz.prog.info? 3).map (fun i => (i.zero, i.size, i.bytes)) = some (some (.int .i64 0), 1, 8) := by kernel_rfl
theorem ints_app04 (a : List Int) (x : Int) : (a ++ [x]).map (Value.int .i64) = a.map (Value.int .i64) ++ [.int .i64 x] := by simp
/-- The numbers of words, if all are. -/
def numsF (d : List Bytes) : Option (List Int) := d.mapM (fun x => parseF x 2147483647)
theorem mapM_snoc {α β : Type} (f : α → Option β) : ∀ (l : List α) (x : α), (l ++ [x]).mapM f = (l.mapM f).bind fun a => (f x).map fun b => a ++ [b]
  | [], x => by cases h : f x <;> simp [h]
  | y :: l, x => by
    rw [List.cons_append, List.mapM_cons, List.mapM_cons, mapM_snoc f l x]
    cases f y <;> simp
    cases l.mapM f <;> simp
    cases f x <;> simp
theorem mapM_stop {α β : Type} (f : α → Option β) : ∀ (l : List α) (x : α), x ∈ l → f x = none → l.mapM f = none
  | [], _, h, _ => by cases h
  | y :: l, x, h, hx => by
    rw [List.mapM_cons]
    rcases List.mem_cons.1 h with rfl | h
    · simp [hx]
    · rw [mapM_stop f l x h hx]
      cases f y <;> simp
theorem numsF_len : ∀ {d : List Bytes} {ns : List Int}, numsF d = some ns → ns.length = d.length
  | [], ns, h => by simp [numsF] at h; subst h; rfl
  | x :: d, ns, h => by
    unfold numsF at h
    rw [List.mapM_cons] at h
    cases h1 : parseF x 2147483647 with
    | none => rw [h1] at h; simp at h
    | some a =>
      rw [h1] at h
      cases h2 : d.mapM (fun x => parseF x 2147483647) with
      | none => rw [h2] at h; simp at h
      | some b =>
        rw [h2] at h
        simp at h
        subst h
        have := numsF_len (d := d) (ns := b) h2
        simp [this]
theorem numV_some (n : Int) : numV (some n) = .tuple #[.int .i64 n, .bool true] := rfl
theorem numV_none : numV none = .tuple #[.int .i64 0, .bool false] := rfl
/-- What direct.numbers tells. -/
def NumsRet (base : Nat) (d : List Bytes) (w : World) (e : Ending) (w' : World) : Prop :=
  match numsF d with
  | some ns => ∃ v, e = .returned (.tuple #[v, .bool true]) ∧ w'.ownsRow base 3 1 v d.length (ns.map (Value.int .i64)) ∧ Below w.heap.size w w'
  | none => e = .returned (.tuple #[.slice none 0 0, .bool false]) ∧ Below w.heap.size w w'
set_option maxHeartbeats 1000000 in
set_option maxRecDepth 100000 in
theorem nums_any (A : Option Addr) (n c : Nat) (d : List Bytes) (w : World) (hd : d.length = n) (hn : n ≤ 100000) (hs : ∀ x ∈ d, x.length ≤ maxLen) (h : Sl w w.heap.size 1 A n c (vs d)) :
    Calls Tryz.prog 28 #[.slice A n c] w (NumsRet w.heap.size d w) := by
  obtain ⟨i0, hi0, hz0, hz1, hz2⟩ := info_parts infoI04
  have HD := Lib.hid hd
  have HL := Lib.hid h
  have HS := Lib.hid hs
  clear hd h hs
  go_enter Tryz.func28, Tryz.ntmps28
  go_wp2
  go_loopw [4, 11] (fun ev iv wr => ∃ (i : Nat) (ns : List Int), iv = .int .i64 i ∧ i ≤ n ∧ Hid (numsF (d.take i) = some ns) ∧ Hid (ns.length = i) ∧ wr.ownsRow w.heap.size 3 1 ev i (ns.map (Value.int .i64)) ∧ Below w.heap.size w wr) (fun _ iv _ => n - (intOf iv).toNat)
  case atStart => exact ⟨0, [], rfl, by omega, rfl, rfl, World.ownsRow_nil _ _ _ _, Below.refl _ _⟩
  case round =>
    obtain ⟨i, ns, rfl, hi, HF, HLN, hown, hB⟩ := hrel
    have hsz := hB.size
    obtain ⟨Ae, ce, rfl⟩ := slice_of_own hown
    by_cases hin : i < n
    · obtain ⟨ad, rfl, hab, c0⟩ := (HL.out.below hB).lst.atS HD.out hin
      have hin2 : (i : Int) < (n : Int) := by omega
      obtain ⟨x, hx⟩ : ∃ x, gS d i = x := ⟨_, rfl⟩
      rw [hx] at c0
      have hxl : x.length ≤ maxLen := by
        rw [← hx, gS_eq (by rw [HD.out]; exact hin)]
        exact HS.out _ (List.getElem_mem _)
      have hsx : (bs x).size ≤ maxLen := by rw [bs_size]; exact hxl
      have hnx := take_nextS (l := d) (k := i) (by rw [HD.out]; exact hin)
      rw [hx] at hnx
      have HNX := Lib.hid hnx
      have HSX := Lib.hid hsx
      clear hnx hsx hxl hx
      go_wp2_with fail
      clear c0
      obtain ⟨q, hq⟩ : ∃ q, parseF x 2147483647 = q := ⟨_, rfl⟩
      refine (parse_any (bs x) 2147483647 HSX.out wr).mono ?_
      rw [bs_list, hq]
      have HQ := Lib.hid hq
      clear hq
      rintro e w2 ⟨rfl, hb⟩
      replace hown := own_below hown hb
      replace hB := hB.trans (hb.mono hsz)
      replace hsz := hB.size
      clear hb
      cases q with
      | none =>
        rw [numV_none]
        have hnone : numsF d = none := mapM_stop _ d x (by
          have : x ∈ d.take (i + 1) := by rw [HNX.out]; simp
          exact List.mem_of_mem_take this) HQ.out
        have HNO := Lib.hid hnone
        clear hnone
        go_wp2_with fail
        go_ret2
        show NumsRet _ _ _ _ _
        unfold NumsRet
        rw [HNO.out]
        exact ⟨rfl, hB⟩
      | some m =>
        rw [numV_some]
        have hf2 : numsF (d.take (i + 1)) = some (ns ++ [m]) := by
          rw [HNX.out]
          unfold numsF
          rw [mapM_snoc]
          have := HF.out
          unfold numsF at this
          rw [this]
          simp [HQ.out]
        have HF2 := Lib.hid hf2
        clear hf2
        go_wp2_with (first | (at_builtin; refine wpList_append_own _ rfl _ _ 40 rfl w.heap.size 3 i0 _ 1 8 Tryz.underlying40 hi0 hz0 hz1 hz2 rfl (by decide) _ _ _ rfl (hown.alloc _) ⟨w2.heap.size, 0, none⟩ 1 1 [.int .i64 m] rfl rfl (by exact lit_cells w2 #[.int .i64 m] _ _ rfl) (by simp [Value.oneCell']) (by unfold maxLen; omega) (by omega) (by simp; omega) ?_; intro v' w3 hown' hgrow3 hnil3))
        have hbN : Below w.heap.size w w3 := (hB.alloc hsz _).grown hgrow3 (by simp; omega) (fun q hq => (hown.lt q hq).1)
        clear hgrow3 hnil3
        go_wp2_with fail
        go_roundw
        case rel => exact ⟨i + 1, ns ++ [m], by go_num, by omega, HF2, by simp [Hid, HLN.out], (by rw [ints_app04]; exact hown'), hbN⟩
        case measure => simp [intOf]; omega
    · obtain rfl : i = n := by omega
      have hf := HF.out
      rw [List.take_of_length_le (by rw [HD.out]; omega)] at hf
      have HF2 := Lib.hid hf
      have HOWN := Lib.hid hown
      clear hown hf
      go_wp2_with fail
      go_ret2
      show NumsRet _ _ _ _ _
      unfold NumsRet
      rw [HF2.out]
      exact ⟨_, rfl, by rw [HD.out]; exact HOWN.out, hB⟩
end Go.Proofs.YtggdomeeienjbaaGreatDoor
