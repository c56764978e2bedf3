/- The document's own earliest times: Times, Reaches. They make new memory alone. -/
import Derived.Test.YtblihpghalhjoaaRef15c
import Derived.Test.YtblihpghalhjoaaGE
namespace Go.Proofs.Ytblihpghalhjoaa
open Go.ChangeShapes Go.WideShapes Go.ChangeAt Go.RowKit Go.Sort Hp
set_option linter.unusedSimpArgs false
set_option linter.unusedVariables false
theorem infoI15 : (Try.prog.info? 3).map (fun i => (i.zero, i.size, i.bytes)) = some (some (.int .i64 0), 1, 8) := by kernel_rfl
theorem ints_one15 (l : List Int) : ∀ u ∈ l.map (Value.int .i64), u.oneCell' = true := by
  intro u hu
  obtain ⟨x, _, rfl⟩ := List.mem_map.1 hu
  rfl
/-- Nodes to which no edge is taken. -/
def shutE (sh : List Int) (q : Int) : Int → Bool := fun y => (sh ++ [q]).contains y
theorem rnds_next {size : Int} {no : Int → Bool} {l : List Ed} {k : Nat} {T : Int → Option Int} : rndsE size no l (k + 1) T = rndE size no l (rndsE size no l k T) := rfl
theorem atR_one (q now : Int) : atR [(q, now)] = oneT q now := by
  funext n
  rw [atR_cons, atR_nil]
  unfold oneT
  by_cases e : q = n
  · rw [if_pos e, if_pos e.symm]
  · rw [if_neg e, if_neg (fun h => e h.symm)]
/-- The times: none, if it is not right to ask, else the earliest ones, by rising nodes. -/
structure IsTimes (l : List Ed) (q now size : Int) (sh : List Int) (r : List (Int × Int)) : Prop where
  srt : Srt r
  no : askE l q now size = false → r = []
  yes : askE l q now size = true → Early l size (shutE sh q) q now (atR r)
theorem IsTimes.one {l : List Ed} {q now size : Int} {sh : List Int} {r r' : List (Int × Int)} (h : IsTimes l q now size sh r) (h' : IsTimes l q now size sh r') : r = r' := by
  cases ha : askE l q now size with
  | false => rw [h.no ha, h'.no ha]
  | true => exact Srt.ext h.srt h'.srt fun n => congrFun ((h.yes ha).one (h'.yes ha)) n
set_option maxHeartbeats 8000000 in
set_option maxRecDepth 100000 in
theorem rtimes15_any (Ae : Option Addr) (ne ce : Nat) (l : List Ed) (q now size : Int) (As : Option Addr) (ns cs : Nat) (sh : List Int) (w : World) (hde : l.length = ne) (hne : ne ≤ 200) (hds : sh.length = ns) (hns : ns ≤ 100000) (hle : Sl w w.heap.size 8 Ae ne ce (flatEd l)) (hls : Sl w w.heap.size 1 As ns cs (sh.map (Value.int .i64))) :
    Calls Try.prog 13 #[.slice Ae ne ce, .int .i64 q, .int .i64 now, .int .i64 size, .slice As ns cs] w fun e w' => ∃ A' n' c' r, e = .returned (.slice A' n' c') ∧ r.length = n' ∧ n' ≤ 50000 ∧ IsTimes l q now size sh r ∧ Sl w' w'.heap.size 2 A' n' c' (flat2 r) ∧ Below w.heap.size w w' := by
  obtain ⟨i0, hi0, hz0, hz1, hz2⟩ := info_parts infoI15
  have HI := Lib.hid (And.intro hi0 (And.intro hz0 (And.intro hz1 hz2)))
  have HDE := Lib.hid hde
  have HDS := Lib.hid hds
  obtain ⟨ab, hab⟩ : ∃ b, askE l q now size = b := ⟨_, rfl⟩
  have HAB := Lib.hid hab
  have HAK := Lib.hid (show (askE l q now size && nodeB q) = ab by
    rw [hab]
    cases ab with
    | false => rfl
    | true =>
      have h1 := (askE_spec.1 hab).1
      show nodeB q = true
      unfold nodeB inB
      exact decide_eq_true h1)
  clear hde hds hi0 hz0 hz1 hz2 hab
  go_enter Try.func13, Try.ntmps13
  go_wp2_with fail
  refine (rasked12_any Ae ne ce l q q now size w HDE.out (by omega) hle ab HAK.out).mono ?_
  rintro e w1 ⟨rfl, hb⟩
  have hB := hb
  replace hle := hle.up hb
  replace hls := hls.up hb
  clear hb
  cases ab with
  | false =>
    go_wp2_with fail
    go_ret
    exact ⟨none, 0, 0, [], rfl, rfl, by omega, ⟨List.Pairwise.nil, fun _ => rfl, fun h => by rw [HAB.out] at h; cases h⟩, Sl.nil0 _ _ _, hB⟩
  | true =>
    have hE : (w1.alloc (.cells #[] 3)).ownsRow w1.heap.size 3 1 (.slice (some ⟨w1.heap.size, 0, none⟩) 0 0) 0 [] := own_lit w1 w1.heap.size 3 1 0 #[] (Nat.le_refl _) rfl (by simp)
    have hb1 : Below w1.heap.size w1 (w1.alloc (.cells #[] 3)) := by (repeat (first | exact Below.refl _ _ | refine Below.alloc ?_ (by first | omega | (simp; done) | (simp; omega)) _ | refine Below.setCell ?_ (by first | omega | (simp; done) | (simp; omega)) _ | refine Below.drew ?_))
    have hls1 := hls.up hb1
    have HLE0 := Lib.hid hle
    have HB0 := Lib.hid hB
    have hs := hB.size
    obtain ⟨hi0, hz0, hz1, hz2⟩ := HI.out
    clear hle hls hB
    go_upto_region 4 with (first
      | (at_builtin; refine wpList_append_lst _ rfl (.tmp 21) (.tmp 22) 23 rfl w1.heap.size 3 i0 _ 1 8 Try.underlying23 hi0 hz0 hz1 hz2 rfl (by decide) (.slice (some ⟨w1.heap.size, 0, none⟩) 0 0) 0 [] rfl hE _ As ns cs (sh.map (Value.int .i64)) rfl hls1.lst (ints_one15 sh) (by unfold maxLen; omega) (by omega) (by simp) ?_; intro v3 w3 hown3 hg3 hl3; clear hl3; have hb3 : Below w1.heap.size w1 w3 := hb1.grown hg3 hb1.size (fun g hg => (hE.lt g hg).1); clear hg3; have hs3 := hb3.size)
      | (at_builtin; refine wpList_append_own _ rfl (.tmp 23) (.tmp 25) 23 rfl w1.heap.size 3 i0 _ 1 8 Try.underlying23 hi0 hz0 hz1 hz2 rfl (by decide) _ _ _ rfl (hown3.alloc _) ⟨w3.heap.size, 0, none⟩ 1 1 [.int .i64 q] rfl rfl (by exact lit_cells w3 #[.int .i64 q] _ _ rfl) (by simp [Value.oneCell']) (by unfold maxLen; omega) (by omega) (by simp; omega) ?_; intro v5 w5 hown5 hg5 hn5; clear hn5; have hb5 : Below w1.heap.size w1 w5 := (hb3.alloc hs3 _).grown hg5 (by simp; omega) (fun g hg => (hown3.lt g hg).1); clear hg5))
    clear hb1 hls1 hE hi0 hz0 hz1 hz2
    simp only [Nat.zero_add] at hown5
    obtain ⟨A5, c5, rfl⟩ := slice_of_own hown5
    have hall : Sl w5 w5.heap.size 1 A5 (ns + 1) c5 ((sh ++ [q]).map (Value.int .i64)) := by
      have h := Sl.of_own hown5
      simpa using h
    have hlen : (sh ++ [q]).length = ns + 1 := by simp [HDS.out]
    have HLN := Lib.hid hlen
    clear hown5 hown3 hlen
    have hR := own_lit w5 w1.heap.size 46 2 1 #[.int .i64 q, .int .i64 now] hb5.size rfl (by unfold maxLen; omega)
    have hb6 : Below w5.heap.size w5 (w5.alloc (.cells #[.int .i64 q, .int .i64 now] 46)) := by (repeat (first | exact Below.refl _ _ | refine Below.alloc ?_ (by first | omega | (simp; done) | (simp; omega)) _ | refine Below.setCell ?_ (by first | omega | (simp; done) | (simp; omega)) _ | refine Below.drew ?_))
    have hb7 := hb5.trans (hb6.mono hb5.size)
    replace hall := hall.up hb6
    have hR1 := Sl.of_own hR
    go_upto_region 5 with fail
    clear hb6 hb5 hR
    generalize w5.alloc (.cells #[.int .i64 q, .int .i64 now] 46) = w6 at *
    have hB := HB0.out.trans (hb7.mono hs)
    have hle := HLE0.out.up hb7
    clear hb7 HLE0 HB0 hs hs3 hb3
    have hs := hB.size
    have HLE := Lib.hid (fun w' (hb : Below w6.heap.size w6 w') => hle.up hb)
    have HLA := Lib.hid (fun w' (hb : Below w6.heap.size w6 w') => hall.up hb)
    have HBB := Lib.hid hB
    clear hle hall hB
    go_wp2_with fail
    go_loopw [12, 13] (fun rv iv wr => ∃ (i : Nat) (A' : Option Addr) (n' c' : Nat) (r : List (Int × Int)), rv = .slice A' n' c' ∧ iv = .int .i64 i ∧ i ≤ ne + 1 ∧ n' ≤ 1 + i * ne ∧ Hid (r.length = n') ∧ Hid (Srt r) ∧ Hid (atR r = rndsE size (shutE sh q) l i (oneT q now)) ∧ Sl wr wr.heap.size 2 A' n' c' (flat2 r) ∧ Below w6.heap.size w6 wr) (fun rv iv _ => ne + 1 - (intOf iv).toNat)
    case atStart => exact ⟨0, _, 1, 1, [(q, now)], rfl, rfl, by omega, by omega, rfl, by simp [Hid, Srt], atR_one q now, hR1, Below.refl _ _⟩
    case round =>
      clear hR1
      obtain ⟨i, A', n', c', r, rfl, rfl, hi, hn', HR, HS, HT, hr, hB⟩ := hrel
      by_cases hin : i < ne + 1
      · have g0 : decide ((i : Int) ≤ (ne : Int)) = true := decide_eq_true (by omega)
        have hne2 : i * ne ≤ 200 * 200 := Nat.mul_le_mul (by omega) hne
        have hmul : (i + 1) * ne = i * ne + ne := by rw [Nat.add_mul, Nat.one_mul]
        have HMU := Lib.hid hmul
        clear hmul
        go_wp2_with fail
        refine (rstep15_any A' n' c' r Ae ne ce l size A5 (ns + 1) c5 (sh ++ [q]) (shutE sh q) wr HR.out (by omega) HDE.out (by omega) HLN.out (by omega) hr (HLE.out _ hB) (HLA.out _ hB) HS.out rfl).mono ?_
        rintro e w7 ⟨A7, n7, c7, r7, rfl, hr7, hn7, hs7, ht7, hl7, hb⟩
        have HR7 := Lib.hid hr7
        have HS7 := Lib.hid hs7
        have HT7 : Hid (atR r7 = rndsE size (shutE sh q) l (i + 1) (oneT q now)) := by
          show atR r7 = _
          rw [ht7, HT.out]; rfl
        replace hB := hB.trans (hb.mono hB.size)
        clear hr7 hs7 ht7 hb hr
        go_wp2_with fail
        go_roundw
        case rel => exact ⟨i + 1, A7, n7, c7, r7, rfl, by go_num, by omega, by rw [HMU.out]; omega, HR7, HS7, HT7, hl7, hB⟩
        case measure => simp [intOf]; omega
      · obtain rfl : i = ne + 1 := by omega
        have g0 : decide (((ne : Int) + 1) ≤ (ne : Int)) = false := decide_eq_false (by omega)
        have hne2 : (ne + 1) * ne ≤ 201 * 200 := Nat.mul_le_mul (by omega) hne
        have h0 := (askE_spec.1 HAB.out).2.1.1
        have HE : Hid (IsTimes l q now size sh r) := ⟨HS.out, (fun h => by rw [HAB.out] at h; cases h), fun _ => by rw [HT.out]; exact rndsE_early h0 (by rw [HDE.out]; omega)⟩
        clear h0
        go_wp2_with fail
        go_ret
        exact ⟨A', n', c', r, rfl, HR.out, by omega, HE.out, hr, HBB.out.trans (hB.mono HBB.out.size)⟩
end Go.Proofs.Ytblihpghalhjoaa
