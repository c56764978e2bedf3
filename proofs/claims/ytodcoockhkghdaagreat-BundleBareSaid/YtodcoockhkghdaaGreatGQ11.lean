/- Several texts of mine in one: Ref15b, Ref03, Ref10, Ref15c, Ref12, Ref12b, Ref15d, Early3, Early4, RtRow, Ref13b. No condition. -/
import Derived.Test.YtodcoockhkghdaaGreatGQ3
import Derived.Test.YtodcoockhkghdaaGreatGQ4
import Derived.Test.YtodcoockhkghdaaGreatGQ8
import Derived.Test.YtodcoockhkghdaaGreatPath5
import Derived.Test.YtodcoockhkghdaaGreatShelfIter
import Derived.Test.YtodcoockhkghdaaGreatGQ9
import Derived.Test.YtodcoockhkghdaaGreatGQ28
import Derived.Deep.RegionLaw

/- The document's own earliest times: with. It makes new memory alone. -/
namespace Go.Proofs.YtodcoockhkghdaaGreat
open Go.ChangeShapes Go.WideShapes Go.ChangeAt Go.RowKit Go.Sort Hp
set_option linter.unusedSimpArgs false
set_option linter.unusedVariables false
end Go.Proofs.YtodcoockhkghdaaGreat

/- Contracts of the document's answer for layer 3: it answers what package check answers, at all arguments. -/
namespace Go.Proofs.YtodcoockhkghdaaGreat
open Go.ChangeShapes Go.WideShapes Go.ChangeAt Go.RowKit Go.Sort
set_option linter.unusedSimpArgs false
set_option linter.unusedVariables false

theorem ret_bool {a b:Bool} (h:a = b):Ending.returned (.bool a) = .returned (.bool b):=by rw [h]

theorem rnode_any (n:Int) (w:World) :
  Calls Tryz.prog 41 #[.int .i64 n] w fun e w' => e = .returned (.bool (nodeB n)) ∧ w = w':=by
 by_cases h1:1 ≤ n <;> by_cases h2:n ≤ 255 <;>
 ·go_enter Tryz.func41,Tryz.ntmps41
  go_wp2
  go_ret
  exact ⟨by simp [nodeB,inB,h1,h2],rfl⟩

def pairB (fr tn st en:Int):Bool:=wayB fr tn && spanB st en
theorem pairB_spec {fr tn st en:Int}:pairB fr tn st en = true ↔ (1 ≤ fr ∧ fr ≤ 255) ∧ (1 ≤ tn ∧ tn ≤ 255) ∧ fr ≠ tn ∧ 0 ≤ st ∧ st < en ∧ en ≤ 2147483647:=by
 simp [pairB,wayB,nodeB,spanB,inB,and_assoc]

theorem pair_any (fr tn st en:Int) (w:World) :
  Calls Tryz.prog 147 #[.int .i64 fr,.int .i64 tn,.int .i64 st,.int .i64 en] w fun e w' => e = .returned (.bool (pairB fr tn st en)) ∧ w = w':=by
 go_enter Tryz.func147,Tryz.ntmps147
 go_wp2_with (go_at_call 41; refine (rnode_any _ _).mono ?_; rintro e w' ⟨rfl,rfl⟩)
 all_goals go_ret
 all_goals refine ⟨ret_bool ?_,rfl⟩
 all_goals first
  | (simp [pairB,wayB,spanB, *]; done)
  | (simp [pairB,wayB,spanB, *]; omega)
theorem pair_is {fr tn st en:Int} (b:Bool) (h:pairB fr tn st en = b) (w:World) :
  Calls Tryz.prog 147 #[.int .i64 fr,.int .i64 tn,.int .i64 st,.int .i64 en] w fun e w' => e = .returned (.bool b) ∧ w = w':=h ▸ pair_any fr tn st en w
theorem rcontact_any (id fr tn st en ra:Int) (w:World) :
  Calls Tryz.prog 99 #[.agg #[.int .i64 id,.int .i64 fr,.int .i64 tn,.int .i64 st,.int .i64 en,.int .i64 ra]] w fun e w' => e = .returned (.bool (contactB id fr tn st en ra)) ∧ Below w.heap.size w w':=by
 by_cases hp:pairB fr tn st en = true
 ·have HP:=Lib.hid hp
  have Hp:=Lib.hid (pairB_spec.1 hp)
  clear hp
  go_enter Tryz.func99,Tryz.ntmps99
  go_wp2_with (go_at_call 147; refine (pair_is true HP.out _).mono ?_; rintro e w' ⟨rfl,rfl⟩)
  all_goals go_ret
  all_goals refine ⟨ret_bool ?_,(Below.refl _ _).alloc (Nat.le_refl _) _⟩
  all_goals
   have hp:=Hp.out
   rw [Bool.eq_iff_iff,contactB_spec]
   simp only [decide_eq_true_eq,Bool.false_eq_true,iff_true,false_iff,true_iff]
   omega
 ·have HP:=Lib.hid (show pairB fr tn st en = false by simpa using hp)
  rw [pairB_spec] at hp
  have Hp:=Lib.hid hp
  clear hp
  go_enter Tryz.func99,Tryz.ntmps99
  go_wp2_with (go_at_call 147; refine (pair_is false HP.out _).mono ?_; rintro e w' ⟨rfl,rfl⟩)
  go_ret
  have hp:=Hp.out
  exact ⟨ret_bool (by symm; rw [Bool.eq_false_iff,ne_eq,contactB_spec]; omega),(Below.refl _ _).alloc (Nat.le_refl _) _⟩
theorem rcontact_is {id fr tn st en ra:Int} (b:Bool) (h:contactB id fr tn st en ra = b) (w:World) :
  Calls Tryz.prog 99 #[.agg #[.int .i64 id,.int .i64 fr,.int .i64 tn,.int .i64 st,.int .i64 en,.int .i64 ra]] w fun e w' => e = .returned (.bool b) ∧ Below w.heap.size w w':=h ▸ rcontact_any id fr tn st en ra w
theorem rrange_any (fr tn st en ow:Int) (w:World) :
  Calls Tryz.prog 102 #[.agg #[.int .i64 fr,.int .i64 tn,.int .i64 st,.int .i64 en,.int .i64 ow]] w fun e w' => e = .returned (.bool (rangeB fr tn st en ow)) ∧ Below w.heap.size w w':=by
 by_cases hp:pairB fr tn st en = true
 ·have HP:=Lib.hid hp
  have Hp:=Lib.hid (pairB_spec.1 hp)
  clear hp
  go_enter Tryz.func102,Tryz.ntmps102
  go_wp2_with (go_at_call 147; refine (pair_is true HP.out _).mono ?_; rintro e w' ⟨rfl,rfl⟩)
  all_goals go_ret
  all_goals refine ⟨ret_bool ?_,(Below.refl _ _).alloc (Nat.le_refl _) _⟩
  all_goals
   have hp:=Hp.out
   rw [Bool.eq_iff_iff,rangeB_spec]
   simp only [decide_eq_true_eq,Bool.false_eq_true,iff_true,false_iff,true_iff]
   omega
 ·have HP:=Lib.hid (show pairB fr tn st en = false by simpa using hp)
  rw [pairB_spec] at hp
  have Hp:=Lib.hid hp
  clear hp
  go_enter Tryz.func102,Tryz.ntmps102
  go_wp2_with (go_at_call 147; refine (pair_is false HP.out _).mono ?_; rintro e w' ⟨rfl,rfl⟩)
  go_ret
  have hp:=Hp.out
  exact ⟨ret_bool (by symm; rw [Bool.eq_false_iff,ne_eq,rangeB_spec]; omega),(Below.refl _ _).alloc (Nat.le_refl _) _⟩
end Go.Proofs.YtodcoockhkghdaaGreat

/- Contracts of the document's answer for layer 10: it answers what package hop answers, at all arguments. No condition. -/
namespace Go.Proofs.YtodcoockhkghdaaGreat
open Go.ChangeShapes Go.WideShapes Go.ChangeAt Go.RowKit Go.Sort
set_option linter.unusedSimpArgs false
set_option linter.unusedVariables false

end Go.Proofs.YtodcoockhkghdaaGreat

/- The document's own earliest times: step, Times. They make new memory alone. -/
namespace Go.Proofs.YtodcoockhkghdaaGreat
open Go.ChangeShapes Go.WideShapes Go.ChangeAt Go.RowKit Go.Sort Hp
set_option linter.unusedSimpArgs false
set_option linter.unusedVariables false
end Go.Proofs.YtodcoockhkghdaaGreat

/- The document's own path: Same, Hops, IDs. They make new memory alone. -/
namespace Go.Proofs.YtodcoockhkghdaaGreat
open Go.ChangeShapes Go.WideShapes Go.ChangeAt Go.RowKit Go.Sort
set_option linter.unusedSimpArgs false
set_option linter.unusedVariables false
set_option maxHeartbeats 4000000 in
set_option maxRecDepth 100000 in
theorem rsame12_any (A A' : Option Addr) (n c n' c' : Nat) (d d' : List Hp) (t t' : Int) (w : World) (hd : d.length = n) (hd' : d'.length = n') (hn : n ≤ 1000000) (hn' : n' ≤ 1000000) (h : Sl w w.heap.size 3 A n c (flatHp d)) (h' : Sl w w.heap.size 3 A' n' c' (flatHp d')) (b : Bool) (hb : (decide (t = t') && decide (d = d')) = b) :
    Calls Tryz.prog 15 #[.agg #[.slice A n c, .int .i64 t], .agg #[.slice A' n' c', .int .i64 t']] w fun e w' => e = .returned (.bool b) ∧ Below w.heap.size w w' := by
  have hB1 : Below w.heap.size w (w.alloc (.cells #[.slice A n c, .int .i64 t] 31)) := by (repeat (first | exact Below.refl _ _ | refine Below.alloc ?_ (by first | omega | (simp; done) | (simp; omega)) _ | refine Below.setCell ?_ (by first | omega | (simp; done) | (simp; omega)) _ | refine Below.drew ?_))
  have hB : Below w.heap.size w ((w.alloc (.cells #[.slice A n c, .int .i64 t] 31)).alloc (.cells #[.slice A' n' c', .int .i64 t'] 31)) := by (repeat (first | exact Below.refl _ _ | refine Below.alloc ?_ (by first | omega | (simp; done) | (simp; omega)) _ | refine Below.setCell ?_ (by first | omega | (simp; done) | (simp; omega)) _ | refine Below.drew ?_))
  have hX := (Blok.new w 31 #[.slice A n c, .int .i64 t]).alloc (.cells #[.slice A' n' c', .int .i64 t'] 31)
  have hY := Blok.new (w.alloc (.cells #[.slice A n c, .int .i64 t] 31)) 31 #[.slice A' n' c', .int .i64 t']
  rw [World.size_alloc] at hY
  have HL := Lib.hid (h.below hB)
  have HL' := Lib.hid (h'.below hB)
  have HD := Lib.hid hd
  have HD' := Lib.hid hd'
  have HBB := Lib.hid hb
  clear hd hd' h h' hb hB1
  by_cases hne : n ≠ n' ∨ t ≠ t'
  · have hf : b = false := by
      rw [← HBB.out]
      rcases hne with h1 | h1
      · have : d ≠ d' := fun e => by rw [e] at HD; exact h1 (HD.out.symm.trans HD'.out)
        simp [this]
      · simp [h1]
    subst hf
    by_cases hnn : n = n'
    · subst hnn
      have ht : t ≠ t' := by rcases hne with h1 | h1; · exact absurd rfl h1
                             · exact h1
      have g1 : (t != t') = true := by simp [ht]
      have g2 : ((n : Int) != (n : Int)) = false := by simp
      clear hne ht
      go_enter Tryz.func15, Tryz.ntmps15
      go_wp2
      go_ret
      exact ⟨rfl, hB⟩
    · have g2 : ((n : Int) != (n' : Int)) = true := by simp; omega
      clear hne
      go_enter Tryz.func15, Tryz.ntmps15
      go_wp2
      go_ret
      exact ⟨rfl, hB⟩
  · obtain rfl : n = n' := by omega
    obtain rfl : t = t' := by omega
    have g1 : (t != t) = false := by simp
    have g2 : ((n : Int) != (n : Int)) = false := by simp
    clear hne
    go_enter Tryz.func15, Tryz.ntmps15
    go_wp2
    clear g1 g2
    generalize (w.alloc (.cells #[.slice A n c, .int .i64 t] 31)).alloc (.cells #[.slice A' n c', .int .i64 t] 31) = w2 at *
    have HX := Lib.hid hX
    have HY := Lib.hid hY
    have HB := Lib.hid hB
    clear hX hY hB
    go_loopw [5] (fun iv wr => ∃ (i : Nat), iv = .int .i64 i ∧ i ≤ n ∧ Hid (d.take i = d'.take i) ∧ Below w2.heap.size w2 wr) (fun iv _ => n - (intOf iv).toNat)
    case atStart => exact ⟨0, rfl, by omega, by simp [Hid], Below.refl _ _⟩
    case round =>
      obtain ⟨i, rfl, hi, HE, hBr⟩ := hrel
      have hX := HX.out.below hBr HX.out.lt
      have hY := HY.out.below hBr HY.out.lt
      have x0 : wr.cell? ⟨w.heap.size, 0, none⟩ = some (.slice A n c) := hX.cell 0
      have x1 : wr.cell? ⟨w.heap.size, 1, none⟩ = some (.int .i64 t) := hX.cell 1
      have y0 : wr.cell? ⟨w.heap.size + 1, 0, none⟩ = some (.slice A' n c') := hY.cell 0
      have y1 : wr.cell? ⟨w.heap.size + 1, 1, none⟩ = some (.int .i64 t) := hY.cell 1
      have lt_x := hX.lt
      have lt_y := hY.lt
      clear hX hY
      have hbw := hBr.mono HB.out.size
      by_cases hin : i < n
      · obtain ⟨ad, rfl, hab, c0, c1, c2⟩ := (HL.out.below hbw).lst.atHp HD.out hin
        obtain ⟨ad', rfl, hab', c0', c1', c2'⟩ := (HL'.out.below hbw).lst.atHp HD'.out hin
        have hrun : ∀ w0, (binOp .neq 67 (.agg #[.int .i64 (gHp d i).id, .int .i64 (gHp d i).se, .int .i64 (gHp d i).ar]) (.agg #[.int .i64 (gHp d' i).id, .int .i64 (gHp d' i).se, .int .i64 (gHp d' i).ar])).run Tryz.prog w0 = .ok (.bool (!decide (gHp d i = gHp d' i))) w0 := fun w0 => neqHp (gHp d i) (gHp d' i) w0
        by_cases he : gHp d i = gHp d' i
        · have HE2 : Hid (d.take (i + 1) = d'.take (i + 1)) := by
            show d.take (i + 1) = d'.take (i + 1)
            rw [take_nextHp (by rw [HD.out]; exact hin), take_nextHp (by rw [HD'.out]; exact hin), HE.out, he]
          rw [decide_eq_true he] at hrun
          simp only [Bool.not_true] at hrun
          clear HE he hbw
          go_wp2_with fail
          have q_c0 := fun d os => cell_regrown c0 d os
          have q_c1 := fun d os => cell_regrown c1 d os
          have q_c2 := fun d os => cell_regrown c2 d os
          have q_c0' := fun d os => cell_regrown c0' d os
          have q_c1' := fun d os => cell_regrown c1' d os
          have q_c2' := fun d os => cell_regrown c2' d os
          have q_x0 := fun d os => cell_regrown x0 d os
          have q_x1 := fun d os => cell_regrown x1 d os
          have q_y0 := fun d os => cell_regrown y0 d os
          have q_y1 := fun d os => cell_regrown y1 d os
          try simp only [List.append]
          first | refine wp_region_text_below ?_ | refine wp_region_quiet_below (by kernel_rfl) (by kernel_rfl) ?_
          repeat (go_big_quiet_step ((fail)))
          refine wpQuiet_nil ?_
          intro _ hqw
          obtain ⟨pq, hqw⟩ := hqw
          subst hqw
          clear q_c0 q_c1 q_c2 q_c0' q_c1' q_c2' q_x0 q_x1 q_y0 q_y1
          have hbq := hBr.trans ((below_regrown wr pq.d pq.os).mono hBr.size)
          clear c0 c1 c2 c0' c1' c2' x0 x1 y0 y1 hrun lt_x lt_y hBr
          generalize grow (redrawn wr pq.d) pq.os = wq at *
          go_wp2_with fail
          go_roundw
          case rel => exact ⟨i + 1, by go_num, by omega, HE2, hbq⟩
          case measure => simp [intOf]; omega
        · have hf : b = false := by
            have : d ≠ d' := fun e => he (by rw [e])
            rw [← HBB.out]; simp [this]
          subst hf
          rw [decide_eq_false he] at hrun
          simp only [Bool.not_false] at hrun
          clear he hbw
          go_wp2_with fail
          have q_c0 := fun d os => cell_regrown c0 d os
          have q_c1 := fun d os => cell_regrown c1 d os
          have q_c2 := fun d os => cell_regrown c2 d os
          have q_c0' := fun d os => cell_regrown c0' d os
          have q_c1' := fun d os => cell_regrown c1' d os
          have q_c2' := fun d os => cell_regrown c2' d os
          have q_x0 := fun d os => cell_regrown x0 d os
          have q_x1 := fun d os => cell_regrown x1 d os
          have q_y0 := fun d os => cell_regrown y0 d os
          have q_y1 := fun d os => cell_regrown y1 d os
          try simp only [List.append]
          first | refine wp_region_text_below ?_ | refine wp_region_quiet_below (by kernel_rfl) (by kernel_rfl) ?_
          repeat (go_big_quiet_step ((fail)))
          refine wpQuiet_nil ?_
          intro _ hqw
          obtain ⟨pq, hqw⟩ := hqw
          subst hqw
          clear q_c0 q_c1 q_c2 q_c0' q_c1' q_c2' q_x0 q_x1 q_y0 q_y1
          have hbq := hBr.trans ((below_regrown wr pq.d pq.os).mono hBr.size)
          clear c0 c1 c2 c0' c1' c2' x0 x1 y0 y1 hrun lt_x lt_y hBr
          generalize grow (redrawn wr pq.d) pq.os = wq at *
          go_wp2_with fail
          go_ret
          exact ⟨rfl, HB.out.trans (hbq.mono HB.out.size)⟩
      · have hie : i = n := by omega
        have hf : b = true := by
          have he := HE.out
          rw [List.take_of_length_le (by rw [HD.out]; omega), List.take_of_length_le (by rw [HD'.out]; omega)] at he
          rw [← HBB.out, he]; simp
        subst hf
        subst hie
        go_wp2_with fail
        go_ret
        exact ⟨rfl, HB.out.trans hbw⟩
set_option maxHeartbeats 4000000 in
set_option maxRecDepth 100000 in
theorem rids12_any (A : Option Addr) (n c : Nat) (d : List Hp) (t : Int) (w : World) (hd : d.length = n) (hn : n ≤ 1000000) (h : Sl w w.heap.size 3 A n c (flatHp d)) :
    Calls Tryz.prog 30 #[.agg #[.slice A n c, .int .i64 t]] w fun e w' => ∃ v, e = .returned v ∧ w'.ownsRow w.heap.size 3 1 v n ((d.map Hp.id).map (Value.int .i64)) ∧ Below w.heap.size w w' := by
  obtain ⟨i0, hi0, hz0, hz1, hz2⟩ := info_parts infoI12
  have hB0 : Below w.heap.size w (w.alloc (.cells #[.slice A n c, .int .i64 t] 31)) := by (repeat (first | exact Below.refl _ _ | refine Below.alloc ?_ (by first | omega | (simp; done) | (simp; omega)) _ | refine Below.setCell ?_ (by first | omega | (simp; done) | (simp; omega)) _ | refine Below.drew ?_))
  have hX0 := Blok.new w 31 #[.slice A n c, .int .i64 t]
  have hl := h.below hB0
  obtain ⟨b1, hb1⟩ : ∃ q, (w.alloc (.cells #[.slice A n c, .int .i64 t] 31)).heap.size = q := ⟨_, rfl⟩
  have hwb : w.heap.size < b1 := by rw [← hb1, World.size_alloc]; omega
  have HD := Lib.hid hd
  clear hd h
  go_enter Tryz.func30, Tryz.ntmps30
  go_wp2
  generalize w.alloc (.cells #[.slice A n c, .int .i64 t] 31) = w0 at *
  have HL := Lib.hid hl
  have HB0 := Lib.hid hB0
  have HX := Lib.hid hX0
  have HB1 := Lib.hid hb1
  clear hl hB0 hX0 hb1
  go_loopw [3, 4] (fun ev iv wr => ∃ (i : Nat), iv = .int .i64 i ∧ i ≤ n ∧ wr.ownsRow b1 3 1 ev i (((d.take i).map Hp.id).map (Value.int .i64)) ∧ Below w.heap.size w wr ∧ b1 ≤ wr.heap.size ∧ Hid (Sl wr w.heap.size 3 A n c (flatHp d)) ∧ Hid (Blok wr w.heap.size 31 #[.slice A n c, .int .i64 t])) (fun _ iv _ => n - (intOf iv).toNat)
  case atStart => exact ⟨0, rfl, by omega, World.ownsRow_nil _ _ _ _, HB0.out, by rw [HB1.out]; omega, HL.out, HX.out⟩
  case round =>
    clear HB0 HL HX HB1
    obtain ⟨i, rfl, hi, hown, hB, hs1, HL, HX⟩ := hrel
    have hsz := hB.size
    obtain ⟨Ae, ce, rfl⟩ := slice_of_own hown
    have x0 : wr.cell? ⟨w.heap.size, 0, none⟩ = some (.slice A n c) := HX.out.cell 0
    have x1 : wr.cell? ⟨w.heap.size, 1, none⟩ = some (.int .i64 t) := HX.out.cell 1
    have lt_x := HX.out.lt
    by_cases hin : i < n
    · obtain ⟨ad, rfl, hab, c0, c1, c2⟩ := HL.out.lst.atHp HD.out hin
      have hnx : ((d.take (i + 1)).map Hp.id).map (Value.int .i64) = ((d.take i).map Hp.id).map (Value.int .i64) ++ [.int .i64 (gHp d i).id] := by
        rw [take_nextHp (by rw [HD.out]; exact hin)]; simp
      obtain ⟨x, hx⟩ : ∃ x, gHp d i = x := ⟨_, rfl⟩
      rw [hx] at c0 c1 c2 hnx
      have HNX := Lib.hid hnx
      clear hx hnx
      go_wp2_with (first | (at_builtin; refine wpList_append_own _ rfl _ _ 44 rfl b1 3 i0 _ 1 8 Tryz.underlying44 hi0 hz0 hz1 hz2 rfl (by decide) _ _ _ rfl (hown.alloc _) ⟨wr.heap.size, 0, none⟩ 1 1 [.int .i64 x.id] rfl rfl (by exact lit_cells wr #[.int .i64 x.id] _ _ rfl) (by simp [Value.oneCell']) (by unfold maxLen; omega) (by omega) (by simp; omega) ?_; intro v' w3 hown' hgrow3 hnil3))
      have hbN : Below w.heap.size w w3 := (hB.alloc hsz _).grown hgrow3 (by simp; omega) (fun q hq => by have := (hown.lt q hq).1; omega)
      have hLN := Lib.hid (HL.out.below (((Below.refl _ _).alloc hsz (.cells #[.int .i64 x.id] 3)).grown hgrow3 (by simp; omega) (fun q hq => by have := (hown.lt q hq).1; omega)))
      have hXN := Lib.hid ((HX.out.alloc (.cells #[.int .i64 x.id] 3)).grown hgrow3 (fun e => by have := (hown.lt _ e.symm).1; omega))
      have hs3 : b1 ≤ w3.heap.size := by have h1 := hgrow3.size; rw [World.size_alloc] at h1; omega
      clear hgrow3 hnil3 x0 x1 lt_x HL HX
      go_wp2_with fail
      go_roundw
      case rel => exact ⟨i + 1, by go_num, by omega, (by rw [HNX.out]; exact hown'), hbN, hs3, hLN, hXN⟩
      case measure => simp [intOf]; omega
    · obtain rfl : i = n := by omega
      rw [List.take_of_length_le (by rw [HD.out]; omega)] at hown
      have HOWN := Lib.hid (own_down (base' := w.heap.size) hown (by omega))
      clear hown
      go_wp2_with fail
      go_ret
      exact ⟨_, rfl, HOWN.out, hB⟩
end Go.Proofs.YtodcoockhkghdaaGreat

/- The document's own path: Right, Asked; Find of view. They make new memory alone. -/
namespace Go.Proofs.YtodcoockhkghdaaGreat
open Go.ChangeShapes Go.WideShapes Go.ChangeAt Go.RowKit Go.Sort
set_option linter.unusedSimpArgs false
set_option linter.unusedVariables false
end Go.Proofs.YtodcoockhkghdaaGreat

/- The document's own earliest times: Times, Reaches. They make new memory alone. -/
namespace Go.Proofs.YtodcoockhkghdaaGreat
open Go.ChangeShapes Go.WideShapes Go.ChangeAt Go.RowKit Go.Sort Hp
set_option linter.unusedSimpArgs false
set_option linter.unusedVariables false
/-- Nodes to which no edge is taken. -/
def shutE (sh:List Int) (q:Int):Int → Bool:=fun y => (sh ++ [q]).contains y
/-- The times: none, if it is not right to ask, else the earliest ones, by rising nodes. -/
structure IsTimes (l:List Ed) (q now size:Int) (sh:List Int) (r:List (Int × Int)):Prop where
 srt:Srt r
 no:askE l q now size = false → r = []
 yes:askE l q now size = true → Early l size (shutE sh q) q now (atR r)
theorem IsTimes.one {l:List Ed} {q now size:Int} {sh:List Int} {r r':List (Int × Int)} (h:IsTimes l q now size sh r) (h':IsTimes l q now size sh r'):r = r':=by
 cases ha:askE l q now size with
 | false => rw [h.no ha,h'.no ha]
 | true => exact Srt.ext h.srt h'.srt fun n => congrFun ((h.yes ha).one (h'.yes ha)) n
end Go.Proofs.YtodcoockhkghdaaGreat

/- slices.Sorted(maps.Keys(m)) at ints, by the library's contracts: the keys of a map that is not nil, rising, in a new row. -/
namespace Go.Proofs
open Go.RowKit Go.Maps Go.Sort Go.Shelf
set_option linter.unusedSimpArgs false
set_option linter.unusedVariables false
theorem Tryz.sortsA (m : Nat) : AnyZI.SortsIn Tryz.prog Tryz.sortedA_ren Fence.wide m :=
  ⟨fun blk off cap ss W hH hblk hsz => callsIn_wide.2 (AnyM.slices_Sort_int Tryz.sortA blk off cap ss W hH hblk hsz),
   fun p cap W => callsIn_wide.2 (AnyM.slices_Sort_int_none Tryz.sortA p cap W)⟩
theorem Tryz.ekeys (mb : Option Nat) (W : World) : Calls Tryz.prog 149 #[.map mb] W fun e w' => e = .returned (.func (.func 177) #[] #[.pointer (some ⟨W.heap.size, 0, none⟩)]) ∧ w' = W.alloc (.cells #[.map mb] 152) :=
  callsIn_wide.1 (AnyZI.keys_in Tryz.keysA Fence.wide 5 trivial rfl mb W)
set_option maxHeartbeats 1000000 in
theorem Tryz.esorted {H : Type} (b nn : Nat) (D0 : DataW H) (R : Value → Option (DataW H × List MemPlace)) (w : World) (hown : w.ownsMap Tryz.prog 3 R b nn D0) (hmax : Maps.size D0 ≤ maxLen) (hbytes : Maps.size D0 * 8 ≤ 140737488355328) :
    Calls Tryz.prog 148 #[.func (.func 177) #[] #[.pointer (some ⟨w.heap.size, 0, none⟩)]] (w.alloc (.cells #[.map (some b)] 152)) fun e w' => ∃ (v : Value) (ss : List Int), e = .returned v ∧ ss.Perm (intKeys D0) ∧
      w'.ownsRow w.heap.size 3 1 v ss.length ((ss.mergeSort (fun x y => decide (x ≤ y))).map encZ) ∧ (v = .slice none 0 0 ↔ ss = []) ∧ Below w.heap.size w w' := by
  have hbl := hown.lt
  have hseq : SeqGives Fence.wide 2 Tryz.prog 177 #[.pointer (some ⟨w.heap.size, 0, none⟩)] encZ (fun ss => ss.Perm (intKeys D0)) (Maps.size D0) (w.alloc (.cells #[.map (some b)] 152)) :=
    AnyZI.keys_gives (ρ := Tryz.keysA_ren) { Tryz.keysA with } Fence.wide _ trivial rfl (by omega) w.heap.size b nn D0 _ (by simp) (by simp) (by
      obtain ⟨es, clock, hb, Ft, hs, hD⟩ := hown
      exact ⟨es, clock, (Below.heap_alloc _ _ b hbl).trans hb, Ft, hs, hD⟩)
  have cS := AnyZI.sorted_in Tryz.sortedA Fence.wide 5 trivial trivial trivial trivial rfl (by omega) (Tryz.sortsA _) (enters_of Tryz.func176 (by kernel_rfl) rfl) 177 #[.pointer (some ⟨w.heap.size, 0, none⟩)] trivial (enters_of Tryz.func177 (by kernel_rfl) rfl) _ _ hmax hbytes _ hseq
  change CallsIn _ _ Tryz.prog 148 _ _ _ at cS
  refine (callsIn_wide.1 cS).mono ?_
  rintro e w' ⟨v, ss, rfl, hS, hrow, hnil, hb⟩
  exact ⟨v, ss, rfl, hS, ownsRow_base_a hrow (by simp), hnil, ((Below.refl _ w).alloc (Nat.le_refl _) _).trans (hb.mono (by simp))⟩
end Go.Proofs

/- The keys of a map of ints: each once, just those that it holds. Plain facts. -/
namespace Go.Proofs.YtodcoockhkghdaaGreat
open Go.ChangeShapes Go.WideShapes Go.ChangeAt Go.RowKit Go.Sort Go.Maps
set_option linter.unusedSimpArgs false
set_option linter.unusedVariables false
theorem intKeys_facts {H:Type} {D:DataW H} {P:Program} {k:TypeId} {R:Value → Option (DataW H × List MemPlace)} {w:World} {b n:Nat} (hown:w.ownsMap P k R b n D) (K:Keyed P k) (hk:P.underlying k = some (.int .i64)):(intKeys D).Nodup ∧ ∀ x,x ∈ intKeys D ↔ Maps.has D (.int .i64 x) = true:=by
 obtain ⟨es,hD,hpw,_⟩:=hown.entries K
 obtain ⟨es',hD',hko⟩:=hown.keysOf
 obtain rfl:es = es':=by rw [hD] at hD'; simpa using hD'
 subst hD
 have hi:∀ p ∈ es,∃ x,p.1 = .int .i64 x:=fun p hp => by
  obtain ⟨v,hv⟩:=hko p hp
  obtain ⟨x,_,hx,_⟩:=Maps.keyOf_i64 hk hv
  exact ⟨x,hx⟩
 refine ⟨?_,fun x => ?_⟩
 ·unfold intKeys
  rw [List.nodup_iff_pairwise_ne,List.pairwise_map]
  refine hpw.imp_of_mem ?_
  intro p q hp hq hne e
  obtain ⟨a,ha⟩:=hi p hp
  obtain ⟨c,hc⟩:=hi q hq
  rw [ha,hc] at e hne
  exact hne (by simpa [Go.intOf] using e)
 ·unfold intKeys
  rw [Maps.has_eq,List.any_eq_true,List.mem_map]
  refine exists_congr fun p => and_congr_right fun hp => ?_
  obtain ⟨a,ha⟩:=hi p hp
  rw [ha]
  simp [Go.intOf,Lit.sameKey]
end Go.Proofs.YtodcoockhkghdaaGreat

/- Rows of routes in memory of the call's own. No condition. -/
namespace Go.Proofs.YtodcoockhkghdaaGreat
open Go.ChangeShapes Go.WideShapes Go.ChangeAt Go.RowKit Go.Sort
set_option linter.unusedSimpArgs false
set_option linter.unusedVariables false
def Rx.offP (g:Nat) (x:Rx):Prop:=0 < x.h.n → ∀ ad,x.h.A = some ad → ad.block ≠ g
theorem Rx.ok.keptP {S:Nat → Prop} {w w':World} {x:Rx} (h:x.ok w) (hk:Kept S w w') (ho:∀ g,S g → x.offP g):x.ok w':=⟨h.1,h.2.1,h.2.2.keptJ hk (fun hn ad e hS => ho _ hS hn ad e rfl)⟩
theorem Rx.ok.offP_new {w:World} {x:Rx} (h:x.ok w) {g:Nat} (hg:w.heap.size ≤ g):x.offP g:=fun hn ad e => by
 have:=h.2.2.off_newJ hn e
 omega
structure RtRow (w:World) (base:Nat) (rv:Value) (L:List Rx):Prop where
 row:w.ownsRow base 31 2 rv L.length (flatRh (hdRx L))
 ok:∀ x ∈ L,x.ok w
 off:∀ x ∈ L,∀ g,rv.ownBlock = some g → x.offP g
theorem RtRow.kept {S:Nat → Prop} {w w':World} {base:Nat} {rv:Value} {L:List Rx} (h:RtRow w base rv L) (hk:Kept S w w') (ho:∀ x ∈ L,∀ g,S g → x.offP g) (hv:∀ g,rv.ownBlock = some g → ¬ S g):RtRow w' base rv L:=⟨own_keptJ h.row hk hv,fun x hx => (h.ok x hx).keptP hk (ho x hx),h.off⟩
theorem RtRow.below {w w':World} {base:Nat} {rv:Value} {L:List Rx} (h:RtRow w base rv L) (hb:Below w.heap.size w w'):RtRow w' base rv L:=h.kept (S:=fun _ => False) (Kept.of_below hb) (fun _ _ _ f => f.elim) (fun _ _ f => f)
/-- A row of those routes in memory of the call's own. -/
def RO (w:World) (base:Nat) (v:Value) (R:List (List Hp × Int)):Prop:=∃ L:List Rx,w.ownsRow base 31 2 v L.length (flatRh (hdRx L)) ∧ L.map Rx.rt = R ∧ ∀ x ∈ L,x.ok w
theorem RO.nil (w:World) (base:Nat):RO w base (.slice none 0 0) []:=⟨[],World.ownsRow_nil _ _ _ _,rfl,fun x hx => by cases hx⟩
theorem RO.below {w w':World} {base:Nat} {v:Value} {R:List (List Hp × Int)} (h:RO w base v R) (hb:Below w.heap.size w w'):RO w' base v R:=by
 obtain ⟨L,h1,h2,h3⟩:=h
 exact ⟨L,own_belowK h1 hb,h2,fun x hx => (h3 x hx).below hb⟩
theorem RO.rl {w:World} {base:Nat} {v:Value} {R:List (List Hp × Int)} (h:RO w base v R):RL w v R:=by
 obtain ⟨L,h1,h2,h3⟩:=h
 obtain ⟨A',c',rfl⟩:=slice_of_own h1
 exact ⟨A',_,c',L,rfl,rfl,h2,Sl.of_own h1,h3⟩
/-- As a slice. -/
theorem RO.sl {w:World} {base:Nat} {v:Value} {R:List (List Hp × Int)} (h:RO w base v R):∃ A c,v = .slice A R.length c:=by
 obtain ⟨L,h1,rfl,h3⟩:=h
 obtain ⟨A',c',rfl⟩:=slice_of_own h1
 rw [List.length_map]
 exact ⟨_,_,rfl⟩
/-- Its address. -/
theorem RO.addr {w:World} {base n c:Nat} {A:Option Addr} {R:List (List Hp × Int)} (h:RO w base (.slice A n c) R) (hn:0 < n):∃ g,A = some ⟨g,0,none⟩ ∧ base ≤ g ∧ g < w.heap.size ∧ n ≤ c:=by
 obtain ⟨L,h1,rfl,h3⟩:=h
 have hnL:n = L.length:=by
  obtain ⟨A',c',e⟩:=slice_of_own h1
  simp only [Value.slice.injEq] at e
  exact e.2.1
 obtain ⟨g,c',e,hc⟩:=own_posJ h1 (by omega)
 simp only [Value.slice.injEq] at e
 obtain ⟨rfl,rfl,rfl⟩:=e
 exact ⟨g,rfl,(h1.lt g rfl).1,(h1.lt g rfl).2,hc⟩
/-- One of its routes. -/
theorem RO.cells {w:World} {base g n c k:Nat} {R:List (List Hp × Int)} (h:RO w base (.slice (some ⟨g,0,none⟩) n c) R) (hk:k < n):∃ An nn cn,w.cell? ⟨g,k * 2,none⟩ = some (.slice An nn cn) ∧ w.cell? ⟨g,k * 2 + 1,none⟩ = some (.int .i64 (R.getD k ([],0)).2) ∧ (R.getD k ([],0)).1.length = nn ∧ nn ≤ 1000000 ∧ Sl w w.heap.size 3 An nn cn (flatHp (R.getD k ([],0)).1):=by
 obtain ⟨L,h1,rfl,h3⟩:=h
 have hnL:n = L.length:=by
  obtain ⟨A',c',e⟩:=slice_of_own h1
  simp only [Value.slice.injEq] at e
  exact e.2.1
 subst hnL
 have hl:(hdRx L).length = L.length:=by simp [hdRx]
 obtain ⟨a1,a2⟩:=ownRh_at h1 hl hk
 rw [gRx_hd hk] at a1 a2
 have e2:(L.map Rx.rt).getD k ([],0) = (gRx L k).rt:=by
  unfold gRx
  rw [List.getD_eq_getElem?_getD,List.getD_eq_getElem?_getD,List.getElem?_map,List.getElem?_eq_getElem hk]
  rfl
 rw [e2]
 obtain ⟨b1,b2,b3⟩:=h3 _ (gRx_mem hk)
 exact ⟨_,_,_,a1,a2,b1,b2,b3⟩
/-- Its first ones. -/
theorem RO.first {w:World} {base n c m:Nat} {A:Option Addr} {R:List (List Hp × Int)} (h:RO w base (.slice A n c) R) (hm:m ≤ n):RL w (.slice A m c) (R.take m):=by
 obtain ⟨L,h1,rfl,h3⟩:=h
 have hnL:n = L.length:=by
  obtain ⟨A',c',e⟩:=slice_of_own h1
  simp only [Value.slice.injEq] at e
  exact e.2.1
 subst hnL
 refine ⟨A,m,c,L.take m,rfl,by rw [List.length_take]; omega,by rw [List.map_take],?_,fun x hx => h3 x (List.mem_of_mem_take hx)⟩
 have hs:=(Sl.of_own h1).upto hm
 rw [flatRh_take] at hs
 have e:(hdRx L).take m = hdRx (L.take m):=by simp [hdRx,List.map_take]
 rw [e] at hs
 exact hs
end Go.Proofs.YtodcoockhkghdaaGreat

/- The document's order of routes: Copy, Sort, Same. They make new memory alone. -/
namespace Go.Proofs.YtodcoockhkghdaaGreat
open Go.ChangeShapes Go.WideShapes Go.ChangeAt Go.RowKit Go.Sort
set_option linter.unusedSimpArgs false
set_option linter.unusedVariables false
end Go.Proofs.YtodcoockhkghdaaGreat
