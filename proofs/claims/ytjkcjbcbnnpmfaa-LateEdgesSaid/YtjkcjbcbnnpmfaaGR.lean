/- Several texts of mine in one: Ref15, Ref15b. No condition. -/
import Derived.Test.YtjkcjbcbnnpmfaaInts
import Derived.Test.YtjkcjbcbnnpmfaaGC
import Derived.Test.YtjkcjbcbnnpmfaaGL

/- The document's own earliest times: in, At, Same. They leave the world as it is, or make new memory alone. -/
namespace Go.Proofs.Ytjkcjbcbnnpmfaa
open Go.ChangeShapes Go.WideShapes Go.ChangeAt Go.RowKit Go.Sort Hp
set_option linter.unusedSimpArgs false
set_option linter.unusedVariables false
theorem atR_at : ∀ {d : List (Int × Int)} {i : Nat} {n : Int}, i < d.length → (gt d i).1 = n → (∀ j, j < i → (gt d j).1 ≠ n) → atR d n = some (gt d i).2
  | x :: r, 0, n, _, h, _ => by
    have h' : x.1 = n := h
    rw [atR_cons, if_pos h']; rfl
  | x :: r, i + 1, n, hi, h, hn => by
    have h0 : x.1 ≠ n := hn 0 (by omega)
    rw [atR_cons, if_neg h0]
    exact atR_at (d := r) (i := i) (by simpa using hi) h (fun j hj => hn (j + 1) (by omega))
theorem atR_off : ∀ {d : List (Int × Int)} {n : Int}, (∀ j, j < d.length → (gt d j).1 ≠ n) → atR d n = none
  | [], n, _ => rfl
  | x :: r, n, h => by
    have h0 : x.1 ≠ n := h 0 (by simp)
    rw [atR_cons, if_neg h0]
    exact atR_off (d := r) fun j hj => h (j + 1) (by simpa using hj)
set_option maxHeartbeats 1000000 in
set_option maxRecDepth 100000 in
theorem rat15_any (A : Option Addr) (n c : Nat) (d : List (Int × Int)) (q : Int) (w : World) (hd : d.length = n) (hn : n ≤ 1000000) (h : Sl w w.heap.size 2 A n c (flat2 d)) (u : Int) (b : Bool) (hu : (atR d q).getD 0 = u) (hb : (atR d q).isSome = b) :
    Calls Try.prog 24 #[.slice A n c, .int .i64 q] w fun e w' => e = .returned (.tuple #[.int .i64 u, .bool b]) ∧ Below w.heap.size w w' := by
  have HD := Lib.hid hd
  have HL := Lib.hid h
  have HU := Lib.hid hu
  have HB := Lib.hid hb
  clear hd h hu hb
  go_enter Try.func24, Try.ntmps24
  go_wp2
  go_loopw [6] (fun iv wr => ∃ (i : Nat), iv = .int .i64 i ∧ i ≤ n ∧ Hid (∀ j, j < i → (gt d j).1 ≠ q) ∧ w = wr) (fun iv _ => n - (intOf iv).toNat)
  case atStart => exact ⟨0, rfl, by omega, fun j hj => by omega, rfl⟩
  case round =>
    obtain ⟨i, rfl, hi, HN, rfl⟩ := hrel
    by_cases hin : i < n
    · obtain ⟨ad, rfl, hab, c0, c1⟩ := HL.out.lst.fst2 HD.out hin
      by_cases he : (gt d i).1 = q
      · have hff := atR_at (by rw [HD.out]; exact hin) he HN.out
        have f1 : (gt d i).2 = u := by rw [← HU.out, hff]; rfl
        have f2 : b = true := by rw [← HB.out, hff]; rfl
        clear hff
        subst f2
        have hq : ((gt d i).1 == q) = true := beq_iff_eq.2 he
        rw [f1] at c1
        clear he f1
        go_wp2
        exact bodyPost_ret (v := .tuple #[.int .i64 u, .bool true]) (by simp [results, Try.results24, go_sem]) rfl ⟨rfl, Below.refl _ _⟩
      · have hq : ((gt d i).1 == q) = false := beq_eq_false_iff_ne.2 he
        have HN2 : Hid (∀ j, j < i + 1 → (gt d j).1 ≠ q) := fun j hj => by
          by_cases e : j = i
          · subst e; exact he
          · exact HN.out j (by omega)
        clear he
        go_wp2_with fail
        go_roundw
        case rel => exact ⟨i + 1, by go_num, by omega, HN2, by first | rfl | trivial⟩
        case measure => simp [intOf]; omega
    · have hff := atR_off (d := d) (n := q) (fun j hj => HN.out j (by rw [HD.out] at hj; omega))
      have f1 : u = 0 := by rw [← HU.out, hff]; rfl
      have f2 : b = false := by rw [← HB.out, hff]; rfl
      clear hff
      subst f1 f2
      go_wp2
      exact bodyPost_ret (v := .tuple #[.int .i64 0, .bool false]) (by simp [results, Try.results24, go_sem]) rfl ⟨rfl, Below.refl _ _⟩
theorem take_next2 {l : List (Int × Int)} {i : Nat} (h : i < l.length) : l.take (i + 1) = l.take i ++ [gt l i] := by
  rw [List.take_succ_eq_append_getElem h]
  unfold gt
  rw [List.getD_eq_getElem?_getD, List.getElem?_eq_getElem h]; rfl
theorem neq2 (x y : Int × Int) (w : World) : (binOp .neq 36 (.agg #[.int .i64 x.1, .int .i64 x.2]) (.agg #[.int .i64 y.1, .int .i64 y.2])).run Try.prog w = .ok (.bool (!decide (x = y))) w := by
  have u3 := Try.underlying3
  have a3 := Try.isAgg3
  have z3 := Try.sizeOf3
  have hS : Try.prog.underlying 36 = some (.struct (Try.prog.fieldsOf 36)) := by kernel_rfl
  have hp : Try.prog.stoodInHeld 36 = false := by kernel_rfl
  rw [run_neq_struct, show (10000 : Nat) = 9999 + 1 from rfl, run_equalIn_agg w 9999 36 _ _ hS hp]
  simp only [Program.fieldsOf, Try.underlying36]
  go_simp
  obtain ⟨a, b⟩ := x
  obtain ⟨c, d⟩ := y
  by_cases h0 : a = c <;> by_cases h1 : b = d <;> simp_all
set_option maxHeartbeats 1000000 in
set_option maxRecDepth 100000 in
theorem rsame15_any (A A' : Option Addr) (n c n' c' : Nat) (d d' : List (Int × Int)) (w : World) (hd : d.length = n) (hd' : d'.length = n') (hn : n ≤ 1000000) (h : Sl w w.heap.size 2 A n c (flat2 d)) (h' : Sl w w.heap.size 2 A' n' c' (flat2 d')) :
    Calls Try.prog 11 #[.slice A n c, .slice A' n' c'] w fun e w' => e = .returned (.bool (decide (d = d'))) ∧ Below w.heap.size w w' := by
  have HD := Lib.hid hd
  have HD' := Lib.hid hd'
  clear hd hd'
  by_cases hl : n = n'
  · subst hl
    have HL := Lib.hid h
    have HL' := Lib.hid h'
    clear h h'
    go_enter Try.func11, Try.ntmps11
    go_wp2
    go_loopw [5] (fun iv wr => ∃ (i : Nat), iv = .int .i64 i ∧ i ≤ n ∧ Hid (d.take i = d'.take i) ∧ Below w.heap.size w wr) (fun iv _ => n - (intOf iv).toNat)
    case atStart => exact ⟨0, rfl, by omega, by simp [Hid], Below.refl _ _⟩
    case round =>
      obtain ⟨i, rfl, hi, HE, hB⟩ := hrel
      by_cases hin : i < n
      · obtain ⟨ad, rfl, hab, c0, c1⟩ := (HL.out.below hB).lst.fst2 HD.out hin
        obtain ⟨ad', rfl, hab', c0', c1'⟩ := (HL'.out.below hB).lst.fst2 HD'.out hin
        have hrun : ∀ w0, (binOp .neq 36 (.agg #[.int .i64 (gt d i).1, .int .i64 (gt d i).2]) (.agg #[.int .i64 (gt d' i).1, .int .i64 (gt d' i).2])).run Try.prog w0 = .ok (.bool (!decide (gt d i = gt d' i))) w0 := fun w0 => neq2 (gt d i) (gt d' i) w0
        by_cases he : gt d i = gt d' i
        · have HE2 : Hid (d.take (i + 1) = d'.take (i + 1)) := by
            show d.take (i + 1) = d'.take (i + 1)
            rw [take_next2 (by rw [HD.out]; exact hin), take_next2 (by rw [HD'.out]; exact hin), HE.out, he]
          rw [decide_eq_true he] at hrun
          simp only [Bool.not_true] at hrun
          clear HE he
          go_wp2_with fail
          have q_c0 := fun d os => cell_regrown c0 d os
          have q_c1 := fun d os => cell_regrown c1 d os
          have q_c0' := fun d os => cell_regrown c0' d os
          have q_c1' := fun d os => cell_regrown c1' d os
          try simp only [List.append]
          first | refine wp_region_text_below ?_ | refine wp_region_quiet_below (by kernel_rfl) (by kernel_rfl) ?_
          repeat (go_big_quiet_step ((fail)))
          refine wpQuiet_nil ?_
          intro _ hqw
          obtain ⟨pq, hqw⟩ := hqw
          subst hqw
          clear q_c0 q_c1 q_c0' q_c1'
          have hbq := hB.trans ((below_regrown wr pq.d pq.os).mono hB.size)
          clear c0 c1 c0' c1' hrun
          generalize grow (redrawn wr pq.d) pq.os = wq at *
          go_wp2_with fail
          go_roundw
          case rel => exact ⟨i + 1, by go_num, by omega, HE2, hbq⟩
          case measure => simp [intOf]; omega
        · have hne : d ≠ d' := fun e => he (by rw [e])
          have HNE := Lib.hid hne
          rw [decide_eq_false he] at hrun
          simp only [Bool.not_false] at hrun
          clear hne he
          go_wp2_with fail
          have q_c0 := fun d os => cell_regrown c0 d os
          have q_c1 := fun d os => cell_regrown c1 d os
          have q_c0' := fun d os => cell_regrown c0' d os
          have q_c1' := fun d os => cell_regrown c1' d os
          try simp only [List.append]
          first | refine wp_region_text_below ?_ | refine wp_region_quiet_below (by kernel_rfl) (by kernel_rfl) ?_
          repeat (go_big_quiet_step ((fail)))
          refine wpQuiet_nil ?_
          intro _ hqw
          obtain ⟨pq, hqw⟩ := hqw
          subst hqw
          clear q_c0 q_c1 q_c0' q_c1'
          have hbq := hB.trans ((below_regrown wr pq.d pq.os).mono hB.size)
          clear c0 c1 c0' c1' hrun
          generalize grow (redrawn wr pq.d) pq.os = wq at *
          go_wp2_with fail
          go_ret
          exact ⟨by rw [decide_eq_false HNE.out]; rfl, hbq⟩
      · have hie : i = n := by omega
        subst hie
        have hdd : d = d' := by
          have := HE.out
          rw [List.take_of_length_le (by rw [HD.out]; omega), List.take_of_length_le (by rw [HD'.out]; omega)] at this
          exact this
        have HDD := Lib.hid hdd
        clear hdd
        go_wp2_with fail
        go_ret
        exact ⟨by rw [decide_eq_true HDD.out]; rfl, hB⟩
  · have hne : d ≠ d' := fun e => hl (by rw [← HD.out, ← HD'.out, e])
    have hb : ((n : Int) != (n' : Int)) = true := by simp; omega
    have HNE := Lib.hid hne
    clear hl hne
    go_enter Try.func11, Try.ntmps11
    go_wp2
    go_ret
    exact ⟨by rw [decide_eq_false HNE.out]; rfl, Below.refl _ _⟩
end Go.Proofs.Ytjkcjbcbnnpmfaa

/- The document's own earliest times: with. It makes new memory alone. -/
namespace Go.Proofs.Ytjkcjbcbnnpmfaa
open Go.ChangeShapes Go.WideShapes Go.ChangeAt Go.RowKit Go.Sort Hp
set_option linter.unusedSimpArgs false
set_option linter.unusedVariables false
theorem drop_cons2 {d : List (Int × Int)} {i : Nat} (h : i < d.length) : d.drop i = gt d i :: d.drop (i + 1) := by
  rw [List.drop_eq_getElem_cons h]
  unfold gt
  rw [List.getD_eq_getElem?_getD, List.getElem?_eq_getElem h]; rfl
theorem withR_len {n a : Int} : ∀ (r : List (Int × Int)) (laid : Bool), (withR n a r laid).length ≤ r.length + 1
  | [], laid => by cases laid <;> simp [withR]
  | x :: r, laid => by
    have h1 := withR_len (n := n) (a := a) r true
    have h2 := withR_len (n := n) (a := a) r false
    have h3 : ∀ r : List (Int × Int), (withR n a r true).length ≤ r.length := by
      intro r
      induction r with
      | nil => simp [withR]
      | cons y s ih =>
        rw [withR, if_neg (by simp), List.nil_append, Bool.true_or, List.length_append]
        by_cases e : y.1 = n <;> simp [e] <;> omega
    have h4 := h3 r
    rw [withR, List.length_append, List.length_append]
    by_cases hc : n ≤ x.1 <;> by_cases e : x.1 = n <;> cases laid <;> simp [hc, e] <;> omega
end Go.Proofs.Ytjkcjbcbnnpmfaa
