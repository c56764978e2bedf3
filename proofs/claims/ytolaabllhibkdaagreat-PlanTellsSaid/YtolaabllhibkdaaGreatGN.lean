/- Several texts of mine in one: Ref06, Ref03. No condition. -/
import Derived.Test.YtolaabllhibkdaaGreatGJ
import Derived.Test.YtolaabllhibkdaaGreatCheck

/- The document's own contacts: the same, a copy. -/
namespace Go.Proofs.YtolaabllhibkdaaGreat.Kc
open Go.ChangeShapes Go.WideShapes Go.ChangeAt Go.RowKit Go.Sort
set_option linter.unusedSimpArgs false
set_option linter.unusedVariables false
set_option maxHeartbeats 1000000 in
set_option maxRecDepth 100000 in
theorem rsame6_any (A A' : Option Addr) (n c n' c' : Nat) (d d' : List Co) (w : World) (hd : d.length = n) (hd' : d'.length = n') (hn : n ≤ 1000000) (h : Sl w w.heap.size 6 A n c (flatCo d)) (h' : Sl w w.heap.size 6 A' n' c' (flatCo d')) :
    Calls Tryz.prog 43 #[.slice A n c, .slice A' n' c'] w fun e w' => e = .returned (.bool (decide (d = d'))) ∧ Below w.heap.size w w' := by
  have HD := Lib.hid hd
  have HD' := Lib.hid hd'
  clear hd hd'
  by_cases hl : n = n'
  · subst hl
    have HL := Lib.hid h
    have HL' := Lib.hid h'
    clear h h'
    go_enter Tryz.func43, Tryz.ntmps43
    go_wp2
    go_loopw [5] (fun iv wr => ∃ (i : Nat), iv = .int .i64 i ∧ i ≤ n ∧ Hid (d.take i = d'.take i) ∧ Below w.heap.size w wr) (fun iv _ => n - (intOf iv).toNat)
    case atStart => exact ⟨0, rfl, by omega, by simp [Hid], Below.refl _ _⟩
    case round =>
      obtain ⟨i, rfl, hi, HE, hB⟩ := hrel
      by_cases hin : i < n
      · obtain ⟨ad, rfl, hab, c0, c1, c2, c3, c4, c5⟩ := (HL.out.below hB).lst.atCo HD.out hin
        obtain ⟨ad', rfl, hab', c0', c1', c2', c3', c4', c5'⟩ := (HL'.out.below hB).lst.atCo HD'.out hin
        have hrun : ∀ w0, (binOp .neq 33 (.agg #[.int .i64 (gCo d i).id, .int .i64 (gCo d i).fr, .int .i64 (gCo d i).tn, .int .i64 (gCo d i).st, .int .i64 (gCo d i).en, .int .i64 (gCo d i).rt]) (.agg #[.int .i64 (gCo d' i).id, .int .i64 (gCo d' i).fr, .int .i64 (gCo d' i).tn, .int .i64 (gCo d' i).st, .int .i64 (gCo d' i).en, .int .i64 (gCo d' i).rt])).run Tryz.prog w0 = .ok (.bool (!decide (gCo d i = gCo d' i))) w0 := fun w0 => neqCo (gCo d i) (gCo d' i) w0
        by_cases he : gCo d i = gCo d' i
        · have HE2 : Hid (d.take (i + 1) = d'.take (i + 1)) := by
            show d.take (i + 1) = d'.take (i + 1)
            rw [take_nextCo (by rw [HD.out]; exact hin), take_nextCo (by rw [HD'.out]; exact hin), HE.out, he]
          rw [decide_eq_true he] at hrun
          simp only [Bool.not_true] at hrun
          clear HE he
          go_wp2_with fail
          have q_c0 := fun d os => cell_regrown c0 d os
          have q_c1 := fun d os => cell_regrown c1 d os
          have q_c2 := fun d os => cell_regrown c2 d os
          have q_c3 := fun d os => cell_regrown c3 d os
          have q_c4 := fun d os => cell_regrown c4 d os
          have q_c5 := fun d os => cell_regrown c5 d os
          have q_c0' := fun d os => cell_regrown c0' d os
          have q_c1' := fun d os => cell_regrown c1' d os
          have q_c2' := fun d os => cell_regrown c2' d os
          have q_c3' := fun d os => cell_regrown c3' d os
          have q_c4' := fun d os => cell_regrown c4' d os
          have q_c5' := fun d os => cell_regrown c5' d os
          try simp only [List.append]
          first | refine wp_region_text_below ?_ | refine wp_region_quiet_below (by kernel_rfl) (by kernel_rfl) ?_
          repeat (go_big_quiet_step ((fail)))
          refine wpQuiet_nil ?_
          intro _ hqw
          obtain ⟨pq, hqw⟩ := hqw
          subst hqw
          clear q_c0 q_c1 q_c2 q_c3 q_c4 q_c5 q_c0' q_c1' q_c2' q_c3' q_c4' q_c5'
          have hbq := hB.trans ((below_regrown wr pq.d pq.os).mono hB.size)
          clear c0 c1 c2 c3 c4 c5 c0' c1' c2' c3' c4' c5' hrun
          generalize grow (redrawn wr pq.d) pq.os = wq at *
          go_wp2_with fail
          go_roundw
          case rel => exact ⟨i + 1, by go_num, by omega, HE2, hbq⟩
          case measure => simp [intOf]; omega
        · have hne : d ≠ d' := fun e => he (by rw [e])
          have HNE := Lib.hid hne
          rw [decide_eq_false he] at hrun
          simp only [Bool.not_false] at hrun
          clear hne he
          go_wp2_with fail
          have q_c0 := fun d os => cell_regrown c0 d os
          have q_c1 := fun d os => cell_regrown c1 d os
          have q_c2 := fun d os => cell_regrown c2 d os
          have q_c3 := fun d os => cell_regrown c3 d os
          have q_c4 := fun d os => cell_regrown c4 d os
          have q_c5 := fun d os => cell_regrown c5 d os
          have q_c0' := fun d os => cell_regrown c0' d os
          have q_c1' := fun d os => cell_regrown c1' d os
          have q_c2' := fun d os => cell_regrown c2' d os
          have q_c3' := fun d os => cell_regrown c3' d os
          have q_c4' := fun d os => cell_regrown c4' d os
          have q_c5' := fun d os => cell_regrown c5' d os
          try simp only [List.append]
          first | refine wp_region_text_below ?_ | refine wp_region_quiet_below (by kernel_rfl) (by kernel_rfl) ?_
          repeat (go_big_quiet_step ((fail)))
          refine wpQuiet_nil ?_
          intro _ hqw
          obtain ⟨pq, hqw⟩ := hqw
          subst hqw
          clear q_c0 q_c1 q_c2 q_c3 q_c4 q_c5 q_c0' q_c1' q_c2' q_c3' q_c4' q_c5'
          have hbq := hB.trans ((below_regrown wr pq.d pq.os).mono hB.size)
          clear c0 c1 c2 c3 c4 c5 c0' c1' c2' c3' c4' c5' hrun
          generalize grow (redrawn wr pq.d) pq.os = wq at *
          go_wp2_with fail
          go_ret
          exact ⟨by rw [decide_eq_false HNE.out]; rfl, hbq⟩
      · have hie : i = n := by omega
        subst hie
        have hdd : d = d' := by
          have := HE.out
          rw [List.take_of_length_le (by rw [HD.out]; omega), List.take_of_length_le (by rw [HD'.out]; omega)] at this
          exact this
        have HDD := Lib.hid hdd
        clear hdd
        go_wp2_with fail
        go_ret
        exact ⟨by rw [decide_eq_true HDD.out]; rfl, hB⟩
  · have hne : d ≠ d' := fun e => hl (by rw [← HD.out, ← HD'.out, e])
    have hb : ((n : Int) != (n' : Int)) = true := by simp; omega
    have HNE := Lib.hid hne
    clear hl hne
    go_enter Tryz.func43, Tryz.ntmps43
    go_wp2
    go_ret
    exact ⟨by rw [decide_eq_false HNE.out]; rfl, Below.refl _ _⟩
set_option maxHeartbeats 1000000 in
set_option maxRecDepth 100000 in
theorem rcopy6_any (A : Option Addr) (n c : Nat) (d : List Co) (w : World) (hd : d.length = n) (hn : n ≤ 1000000) (h : Sl w w.heap.size 6 A n c (flatCo d)) :
    Calls Tryz.prog 84 #[.slice A n c] w fun e w' => ∃ v, e = .returned v ∧ w'.ownsRow w.heap.size 33 6 v n (flatCo d) ∧ Below w.heap.size w w' := by
  obtain ⟨i0, hi0, hz0, hz1, hz2⟩ := info_parts infoCo
  go_enter Tryz.func84, Tryz.ntmps84
  go_wp2_with (first
    | (at_builtin
       refine wpList_append_lst _ rfl (.tmp 3) (.tmp 4) 22 rfl w.heap.size 33 i0 _ 6 48 Tryz.underlying22 hi0 hz0 hz1 hz2 rfl (by decide) (.slice (some ⟨w.heap.size, 0, none⟩) 0 0) 0 [] rfl (World.ownsRow_made w #[] 0 (Nat.le_refl _) (by simp) (by simp)) w.heap.size A n c (flatCo d) rfl (h.lst.below ((Below.refl _ _).alloc (Nat.le_refl _) _)) (flatCo_one _) (by unfold maxLen; omega) (by omega) (by simp) ?_
       intro v1 w1 hown hg hat))
  go_ret
  refine ⟨_, rfl, by simpa using hown, Below.grown ((Below.refl _ _).alloc (Nat.le_refl _) _) hg (by simp) (fun k hk => ?_)⟩
  simp [Value.ownBlock] at hk
  omega
end Go.Proofs.YtolaabllhibkdaaGreat.Kc

/- Contracts of the document's answer for layer 3: it answers what package check answers, at all arguments. -/
namespace Go.Proofs.YtolaabllhibkdaaGreat
open Go.ChangeShapes Go.WideShapes Go.ChangeAt Go.RowKit Go.Sort
set_option linter.unusedSimpArgs false
set_option linter.unusedVariables false

theorem ret_bool {a b:Bool} (h:a = b):Ending.returned (.bool a) = .returned (.bool b):=by rw [h]

theorem rnode_any (n:Int) (w:World) :
  Calls Tryz.prog 112 #[.int .i64 n] w fun e w' => e = .returned (.bool (nodeB n)) ∧ w = w':=by
 by_cases h1:1 ≤ n <;> by_cases h2:n ≤ 255 <;>
 ·go_enter Tryz.func112,Tryz.ntmps112
  go_wp2
  go_ret
  exact ⟨by simp [nodeB,inB,h1,h2],rfl⟩

def pairB (fr tn st en:Int):Bool:=wayB fr tn && spanB st en
theorem pairB_spec {fr tn st en:Int}:pairB fr tn st en = true ↔ (1 ≤ fr ∧ fr ≤ 255) ∧ (1 ≤ tn ∧ tn ≤ 255) ∧ fr ≠ tn ∧ 0 ≤ st ∧ st < en ∧ en ≤ 2147483647:=by
 simp [pairB,wayB,nodeB,spanB,inB,and_assoc]

theorem pair_any (fr tn st en:Int) (w:World) :
  Calls Tryz.prog 99 #[.int .i64 fr,.int .i64 tn,.int .i64 st,.int .i64 en] w fun e w' => e = .returned (.bool (pairB fr tn st en)) ∧ w = w':=by
 go_enter Tryz.func99,Tryz.ntmps99
 go_wp2_with (go_at_call 112; refine (rnode_any _ _).mono ?_; rintro e w' ⟨rfl,rfl⟩)
 all_goals go_ret
 all_goals refine ⟨ret_bool ?_,rfl⟩
 all_goals first
  | (simp [pairB,wayB,spanB, *]; done)
  | (simp [pairB,wayB,spanB, *]; omega)
theorem pair_is {fr tn st en:Int} (b:Bool) (h:pairB fr tn st en = b) (w:World) :
  Calls Tryz.prog 99 #[.int .i64 fr,.int .i64 tn,.int .i64 st,.int .i64 en] w fun e w' => e = .returned (.bool b) ∧ w = w':=h ▸ pair_any fr tn st en w
theorem rcontact_any (id fr tn st en ra:Int) (w:World) :
  Calls Tryz.prog 71 #[.agg #[.int .i64 id,.int .i64 fr,.int .i64 tn,.int .i64 st,.int .i64 en,.int .i64 ra]] w fun e w' => e = .returned (.bool (contactB id fr tn st en ra)) ∧ Below w.heap.size w w':=by
 by_cases hp:pairB fr tn st en = true
 ·have HP:=Lib.hid hp
  have Hp:=Lib.hid (pairB_spec.1 hp)
  clear hp
  go_enter Tryz.func71,Tryz.ntmps71
  go_wp2_with (go_at_call 99; refine (pair_is true HP.out _).mono ?_; rintro e w' ⟨rfl,rfl⟩)
  all_goals go_ret
  all_goals refine ⟨ret_bool ?_,(Below.refl _ _).alloc (Nat.le_refl _) _⟩
  all_goals
   have hp:=Hp.out
   rw [Bool.eq_iff_iff,contactB_spec]
   simp only [decide_eq_true_eq,Bool.false_eq_true,iff_true,false_iff,true_iff]
   omega
 ·have HP:=Lib.hid (show pairB fr tn st en = false by simpa using hp)
  rw [pairB_spec] at hp
  have Hp:=Lib.hid hp
  clear hp
  go_enter Tryz.func71,Tryz.ntmps71
  go_wp2_with (go_at_call 99; refine (pair_is false HP.out _).mono ?_; rintro e w' ⟨rfl,rfl⟩)
  go_ret
  have hp:=Hp.out
  exact ⟨ret_bool (by symm; rw [Bool.eq_false_iff,ne_eq,contactB_spec]; omega),(Below.refl _ _).alloc (Nat.le_refl _) _⟩
theorem rcontact_is {id fr tn st en ra:Int} (b:Bool) (h:contactB id fr tn st en ra = b) (w:World) :
  Calls Tryz.prog 71 #[.agg #[.int .i64 id,.int .i64 fr,.int .i64 tn,.int .i64 st,.int .i64 en,.int .i64 ra]] w fun e w' => e = .returned (.bool b) ∧ Below w.heap.size w w':=h ▸ rcontact_any id fr tn st en ra w
theorem rrange_any (fr tn st en ow:Int) (w:World) :
  Calls Tryz.prog 74 #[.agg #[.int .i64 fr,.int .i64 tn,.int .i64 st,.int .i64 en,.int .i64 ow]] w fun e w' => e = .returned (.bool (rangeB fr tn st en ow)) ∧ Below w.heap.size w w':=by
 by_cases hp:pairB fr tn st en = true
 ·have HP:=Lib.hid hp
  have Hp:=Lib.hid (pairB_spec.1 hp)
  clear hp
  go_enter Tryz.func74,Tryz.ntmps74
  go_wp2_with (go_at_call 99; refine (pair_is true HP.out _).mono ?_; rintro e w' ⟨rfl,rfl⟩)
  all_goals go_ret
  all_goals refine ⟨ret_bool ?_,(Below.refl _ _).alloc (Nat.le_refl _) _⟩
  all_goals
   have hp:=Hp.out
   rw [Bool.eq_iff_iff,rangeB_spec]
   simp only [decide_eq_true_eq,Bool.false_eq_true,iff_true,false_iff,true_iff]
   omega
 ·have HP:=Lib.hid (show pairB fr tn st en = false by simpa using hp)
  rw [pairB_spec] at hp
  have Hp:=Lib.hid hp
  clear hp
  go_enter Tryz.func74,Tryz.ntmps74
  go_wp2_with (go_at_call 99; refine (pair_is false HP.out _).mono ?_; rintro e w' ⟨rfl,rfl⟩)
  go_ret
  have hp:=Hp.out
  exact ⟨ret_bool (by symm; rw [Bool.eq_false_iff,ne_eq,rangeB_spec]; omega),(Below.refl _ _).alloc (Nat.le_refl _) _⟩
end Go.Proofs.YtolaabllhibkdaaGreat
