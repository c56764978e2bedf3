
/- Unlike right directives have unlike words: DirectApart returns true, whatever two directives are given. It reads a table of the library's. -/
import Derived.Test.YtkdfloeglknmnaaDoorRows
import Derived.Test.YtkdfloeglknmnaaDoorTie
import Derived.Test.YtkdfloeglknmnaaDoorCards
import Derived.Test.YtkdfloeglknmnaaDoorDLaw
import Derived.Test.YtkdfloeglknmnaaDoorTen04
namespace Go.Proofs.YtkdfloeglknmnaaDoor
open Go.ChangeShapes Go.WideShapes Go.ChangeAt Go.RowKit Go.Sort
set_option linter.unusedSimpArgs false
set_option linter.unusedVariables false
set_option maxHeartbeats 16000000 in
set_option maxRecDepth 100000 in
theorem directApart_any (d x : Dr) (d1 : (Lit.int .i64 d.op).wf = true) (d2 : (Lit.int .i64 d.kd).wf = true) (x1 : (Lit.int .i64 x.op).wf = true) (x2 : (Lit.int .i64 x.kd).wf = true) (w : World) (ht : TenTab w) :
    Calls Tryd.prog 5 #[.agg #[.int .i64 d.op, .int .i64 d.kd, .int .i64 d.id, .int .i64 d.fr, .int .i64 d.tn, .int .i64 d.st, .int .i64 d.en, .int .i64 d.rt, .int .i64 d.rf, .int .i64 d.rn, .int .i64 d.rs, .int .i64 d.re, .int .i64 d.ro], .agg #[.int .i64 x.op, .int .i64 x.kd, .int .i64 x.id, .int .i64 x.fr, .int .i64 x.tn, .int .i64 x.st, .int .i64 x.en, .int .i64 x.rt, .int .i64 x.rf, .int .i64 x.rn, .int .i64 x.rs, .int .i64 x.re, .int .i64 x.ro]] w fun e w' => e = .returned (.bool true) ∧ Below w.heap.size w w' := by
  have hX := (Blok.new w 27 #[.int .i64 d.op, .int .i64 d.kd, .int .i64 d.id, .int .i64 d.fr, .int .i64 d.tn, .int .i64 d.st, .int .i64 d.en, .int .i64 d.rt, .int .i64 d.rf, .int .i64 d.rn, .int .i64 d.rs, .int .i64 d.re, .int .i64 d.ro]).alloc (.cells #[.int .i64 x.op, .int .i64 x.kd, .int .i64 x.id, .int .i64 x.fr, .int .i64 x.tn, .int .i64 x.st, .int .i64 x.en, .int .i64 x.rt, .int .i64 x.rf, .int .i64 x.rn, .int .i64 x.rs, .int .i64 x.re, .int .i64 x.ro] 27)
  have hY := Blok.new (w.alloc (.cells #[.int .i64 d.op, .int .i64 d.kd, .int .i64 d.id, .int .i64 d.fr, .int .i64 d.tn, .int .i64 d.st, .int .i64 d.en, .int .i64 d.rt, .int .i64 d.rf, .int .i64 d.rn, .int .i64 d.rs, .int .i64 d.re, .int .i64 d.ro] 27)) 27 #[.int .i64 x.op, .int .i64 x.kd, .int .i64 x.id, .int .i64 x.fr, .int .i64 x.tn, .int .i64 x.st, .int .i64 x.en, .int .i64 x.rt, .int .i64 x.rf, .int .i64 x.rn, .int .i64 x.rs, .int .i64 x.re, .int .i64 x.ro]
  simp only [World.size_alloc] at hY
  have hB : Below w.heap.size w ((w.alloc (.cells #[.int .i64 d.op, .int .i64 d.kd, .int .i64 d.id, .int .i64 d.fr, .int .i64 d.tn, .int .i64 d.st, .int .i64 d.en, .int .i64 d.rt, .int .i64 d.rf, .int .i64 d.rn, .int .i64 d.rs, .int .i64 d.re, .int .i64 d.ro] 27)).alloc (.cells #[.int .i64 x.op, .int .i64 x.kd, .int .i64 x.id, .int .i64 x.fr, .int .i64 x.tn, .int .i64 x.st, .int .i64 x.en, .int .i64 x.rt, .int .i64 x.rf, .int .i64 x.rn, .int .i64 x.rs, .int .i64 x.re, .int .i64 x.ro] 27)) := by (repeat (first | exact Below.refl _ _ | refine Below.alloc ?_ (by first | omega | (simp; done) | (simp; omega)) _ | refine Below.setCell ?_ (by first | omega | (simp; done) | (simp; omega)) _ | refine Below.drew ?_))
  have hs := hB.size
  have HT := Lib.hid (ht.below hB)
  clear ht
  go_enter Tryd.func5, Tryd.ntmps5
  go_wp2_with fail
  generalize (w.alloc (.cells #[.int .i64 d.op, .int .i64 d.kd, .int .i64 d.id, .int .i64 d.fr, .int .i64 d.tn, .int .i64 d.st, .int .i64 d.en, .int .i64 d.rt, .int .i64 d.rf, .int .i64 d.rn, .int .i64 d.rs, .int .i64 d.re, .int .i64 d.ro] 27)).alloc (.cells #[.int .i64 x.op, .int .i64 x.kd, .int .i64 x.id, .int .i64 x.fr, .int .i64 x.tn, .int .i64 x.st, .int .i64 x.en, .int .i64 x.rt, .int .i64 x.rf, .int .i64 x.rn, .int .i64 x.rs, .int .i64 x.re, .int .i64 x.ro] 27) = x0 at *
  refine (small04_any x0 HT.out).mono ?_
  rintro e y0 ⟨rfl, hb⟩
  replace HT := Lib.hid (HT.out.below hb)
  replace hX := hX.below hb hX.lt
  replace hY := hY.below hb hY.lt
  replace hB := hB.trans (hb.mono hs)
  replace hs := hB.size
  clear hb
  by_cases hdr : rightD d = true
  · have HD := Lib.hid hdr
    clear hdr
    have ca0 : y0.cell? ⟨w.heap.size, 0, none⟩ = some (.int .i64 d.op) := hX.cell 0
    have ca1 : y0.cell? ⟨w.heap.size, 1, none⟩ = some (.int .i64 d.kd) := hX.cell 1
    have ca2 : y0.cell? ⟨w.heap.size, 2, none⟩ = some (.int .i64 d.id) := hX.cell 2
    have ca3 : y0.cell? ⟨w.heap.size, 3, none⟩ = some (.int .i64 d.fr) := hX.cell 3
    have ca4 : y0.cell? ⟨w.heap.size, 4, none⟩ = some (.int .i64 d.tn) := hX.cell 4
    have ca5 : y0.cell? ⟨w.heap.size, 5, none⟩ = some (.int .i64 d.st) := hX.cell 5
    have ca6 : y0.cell? ⟨w.heap.size, 6, none⟩ = some (.int .i64 d.en) := hX.cell 6
    have ca7 : y0.cell? ⟨w.heap.size, 7, none⟩ = some (.int .i64 d.rt) := hX.cell 7
    have ca8 : y0.cell? ⟨w.heap.size, 8, none⟩ = some (.int .i64 d.rf) := hX.cell 8
    have ca9 : y0.cell? ⟨w.heap.size, 9, none⟩ = some (.int .i64 d.rn) := hX.cell 9
    have ca10 : y0.cell? ⟨w.heap.size, 10, none⟩ = some (.int .i64 d.rs) := hX.cell 10
    have ca11 : y0.cell? ⟨w.heap.size, 11, none⟩ = some (.int .i64 d.re) := hX.cell 11
    have ca12 : y0.cell? ⟨w.heap.size, 12, none⟩ = some (.int .i64 d.ro) := hX.cell 12
    have lt_ca := hX.lt
    go_wp2_with fail
    clear ca0 ca1 ca2 ca3 ca4 ca5 ca6 ca7 ca8 ca9 ca10 ca11 ca12 lt_ca
    refine (dwords_yes d y0 d1 d2 HD.out HT.out).mono ?_
    rintro e y1 ⟨v, rfl, hv, hb⟩
    replace HT := Lib.hid (HT.out.below hb)
    obtain ⟨n1, hn1⟩ : ∃ n, 2 + (numsD d).length = n := ⟨_, rfl⟩
    rw [hn1] at hv
    have hb1 : n1 ≤ 100000 := by have := nums_le d; omega
    have HN1 := Lib.hid (show (wordsD d).length = n1 by rw [words_len_eq]; exact hn1)
    clear hn1
    obtain ⟨A1, c1, rfl⟩ := slice_of_own hv
    have h1 := Sl.of_own hv
    clear hv
    replace hX := hX.below hb hX.lt
    replace hY := hY.below hb hY.lt
    replace hB := hB.trans (hb.mono hs)
    replace hs := hB.size
    clear hb
    by_cases hxr : rightD x = true
    · have HX := Lib.hid hxr
      clear hxr
      have cb0 : y1.cell? ⟨w.heap.size + 1, 0, none⟩ = some (.int .i64 x.op) := hY.cell 0
      have cb1 : y1.cell? ⟨w.heap.size + 1, 1, none⟩ = some (.int .i64 x.kd) := hY.cell 1
      have cb2 : y1.cell? ⟨w.heap.size + 1, 2, none⟩ = some (.int .i64 x.id) := hY.cell 2
      have cb3 : y1.cell? ⟨w.heap.size + 1, 3, none⟩ = some (.int .i64 x.fr) := hY.cell 3
      have cb4 : y1.cell? ⟨w.heap.size + 1, 4, none⟩ = some (.int .i64 x.tn) := hY.cell 4
      have cb5 : y1.cell? ⟨w.heap.size + 1, 5, none⟩ = some (.int .i64 x.st) := hY.cell 5
      have cb6 : y1.cell? ⟨w.heap.size + 1, 6, none⟩ = some (.int .i64 x.en) := hY.cell 6
      have cb7 : y1.cell? ⟨w.heap.size + 1, 7, none⟩ = some (.int .i64 x.rt) := hY.cell 7
      have cb8 : y1.cell? ⟨w.heap.size + 1, 8, none⟩ = some (.int .i64 x.rf) := hY.cell 8
      have cb9 : y1.cell? ⟨w.heap.size + 1, 9, none⟩ = some (.int .i64 x.rn) := hY.cell 9
      have cb10 : y1.cell? ⟨w.heap.size + 1, 10, none⟩ = some (.int .i64 x.rs) := hY.cell 10
      have cb11 : y1.cell? ⟨w.heap.size + 1, 11, none⟩ = some (.int .i64 x.re) := hY.cell 11
      have cb12 : y1.cell? ⟨w.heap.size + 1, 12, none⟩ = some (.int .i64 x.ro) := hY.cell 12
      have lt_cb := hY.lt
      go_wp2_with fail
      clear cb0 cb1 cb2 cb3 cb4 cb5 cb6 cb7 cb8 cb9 cb10 cb11 cb12 lt_cb
      refine (dwords_yes x y1 x1 x2 HX.out HT.out).mono ?_
      rintro e y2 ⟨v, rfl, hv, hb⟩
      obtain ⟨n2, hn2⟩ : ∃ n, 2 + (numsD x).length = n := ⟨_, rfl⟩
      rw [hn2] at hv
      have HN2 := Lib.hid (show (wordsD x).length = n2 by rw [words_len_eq]; exact hn2)
      clear hn2
      obtain ⟨A2, c2, rfl⟩ := slice_of_own hv
      have h2 := Sl.of_own hv
      clear hv HT
      replace h1 := h1.up hb
      replace hX := hX.below hb hX.lt
      replace hY := hY.below hb hY.lt
      replace hB := hB.trans (hb.mono hs)
      replace hs := hB.size
      clear hb
      have hSM := words_apart HD.out HX.out
      have hEQ := eqlDr d x
      obtain ⟨b, hbb⟩ : ∃ b, decide (d = x) = b := ⟨_, rfl⟩
      rw [hbb] at hSM
      simp only [hbb] at hEQ
      clear hbb
      have HSM := Lib.hid hSM
      have HQ1 : Hid (∀ dd os, Sl (grow (redrawn y2 dd) os) (grow (redrawn y2 dd) os).heap.size 1 A1 n1 c1 (vs (wordsD d))) := fun dd os => h1.up (below_regrown y2 dd os)
      have HQ2 : Hid (∀ dd os, Sl (grow (redrawn y2 dd) os) (grow (redrawn y2 dd) os).heap.size 1 A2 n2 c2 (vs (wordsD x))) := fun dd os => h2.up (below_regrown y2 dd os)
      have ca0 : y2.cell? ⟨w.heap.size, 0, none⟩ = some (.int .i64 d.op) := hX.cell 0
      have ca1 : y2.cell? ⟨w.heap.size, 1, none⟩ = some (.int .i64 d.kd) := hX.cell 1
      have ca2 : y2.cell? ⟨w.heap.size, 2, none⟩ = some (.int .i64 d.id) := hX.cell 2
      have ca3 : y2.cell? ⟨w.heap.size, 3, none⟩ = some (.int .i64 d.fr) := hX.cell 3
      have ca4 : y2.cell? ⟨w.heap.size, 4, none⟩ = some (.int .i64 d.tn) := hX.cell 4
      have ca5 : y2.cell? ⟨w.heap.size, 5, none⟩ = some (.int .i64 d.st) := hX.cell 5
      have ca6 : y2.cell? ⟨w.heap.size, 6, none⟩ = some (.int .i64 d.en) := hX.cell 6
      have ca7 : y2.cell? ⟨w.heap.size, 7, none⟩ = some (.int .i64 d.rt) := hX.cell 7
      have ca8 : y2.cell? ⟨w.heap.size, 8, none⟩ = some (.int .i64 d.rf) := hX.cell 8
      have ca9 : y2.cell? ⟨w.heap.size, 9, none⟩ = some (.int .i64 d.rn) := hX.cell 9
      have ca10 : y2.cell? ⟨w.heap.size, 10, none⟩ = some (.int .i64 d.rs) := hX.cell 10
      have ca11 : y2.cell? ⟨w.heap.size, 11, none⟩ = some (.int .i64 d.re) := hX.cell 11
      have ca12 : y2.cell? ⟨w.heap.size, 12, none⟩ = some (.int .i64 d.ro) := hX.cell 12
      have lt_ca := hX.lt
      have cb0 : y2.cell? ⟨w.heap.size + 1, 0, none⟩ = some (.int .i64 x.op) := hY.cell 0
      have cb1 : y2.cell? ⟨w.heap.size + 1, 1, none⟩ = some (.int .i64 x.kd) := hY.cell 1
      have cb2 : y2.cell? ⟨w.heap.size + 1, 2, none⟩ = some (.int .i64 x.id) := hY.cell 2
      have cb3 : y2.cell? ⟨w.heap.size + 1, 3, none⟩ = some (.int .i64 x.fr) := hY.cell 3
      have cb4 : y2.cell? ⟨w.heap.size + 1, 4, none⟩ = some (.int .i64 x.tn) := hY.cell 4
      have cb5 : y2.cell? ⟨w.heap.size + 1, 5, none⟩ = some (.int .i64 x.st) := hY.cell 5
      have cb6 : y2.cell? ⟨w.heap.size + 1, 6, none⟩ = some (.int .i64 x.en) := hY.cell 6
      have cb7 : y2.cell? ⟨w.heap.size + 1, 7, none⟩ = some (.int .i64 x.rt) := hY.cell 7
      have cb8 : y2.cell? ⟨w.heap.size + 1, 8, none⟩ = some (.int .i64 x.rf) := hY.cell 8
      have cb9 : y2.cell? ⟨w.heap.size + 1, 9, none⟩ = some (.int .i64 x.rn) := hY.cell 9
      have cb10 : y2.cell? ⟨w.heap.size + 1, 10, none⟩ = some (.int .i64 x.rs) := hY.cell 10
      have cb11 : y2.cell? ⟨w.heap.size + 1, 11, none⟩ = some (.int .i64 x.re) := hY.cell 11
      have cb12 : y2.cell? ⟨w.heap.size + 1, 12, none⟩ = some (.int .i64 x.ro) := hY.cell 12
      have lt_cb := hY.lt
      clear hX hY h1 h2 hSM
      go_upto_region 4 with fail
      have q_ca0 := fun d os => cell_regrown ca0 d os
      have q_ca1 := fun d os => cell_regrown ca1 d os
      have q_ca2 := fun d os => cell_regrown ca2 d os
      have q_ca3 := fun d os => cell_regrown ca3 d os
      have q_ca4 := fun d os => cell_regrown ca4 d os
      have q_ca5 := fun d os => cell_regrown ca5 d os
      have q_ca6 := fun d os => cell_regrown ca6 d os
      have q_ca7 := fun d os => cell_regrown ca7 d os
      have q_ca8 := fun d os => cell_regrown ca8 d os
      have q_ca9 := fun d os => cell_regrown ca9 d os
      have q_ca10 := fun d os => cell_regrown ca10 d os
      have q_ca11 := fun d os => cell_regrown ca11 d os
      have q_ca12 := fun d os => cell_regrown ca12 d os
      have q_cb0 := fun d os => cell_regrown cb0 d os
      have q_cb1 := fun d os => cell_regrown cb1 d os
      have q_cb2 := fun d os => cell_regrown cb2 d os
      have q_cb3 := fun d os => cell_regrown cb3 d os
      have q_cb4 := fun d os => cell_regrown cb4 d os
      have q_cb5 := fun d os => cell_regrown cb5 d os
      have q_cb6 := fun d os => cell_regrown cb6 d os
      have q_cb7 := fun d os => cell_regrown cb7 d os
      have q_cb8 := fun d os => cell_regrown cb8 d os
      have q_cb9 := fun d os => cell_regrown cb9 d os
      have q_cb10 := fun d os => cell_regrown cb10 d os
      have q_cb11 := fun d os => cell_regrown cb11 d os
      have q_cb12 := fun d os => cell_regrown cb12 d os
      try simp only [List.append]
      first | refine wp_region_text_below ?_ | refine wp_region_quiet_below (by kernel_rfl) (by kernel_rfl) ?_
      repeat (go_big_quiet_step (((go_at_call 15; with_reducible exact Calls.regrown_of (dsame_is A1 A2 n1 c1 n2 c2 (wordsD d) (wordsD x) b HSM.out _ HN1.out HN2.out hb1 (HQ1.out _ _) (HQ2.out _ _))))))
      refine wpQuiet_nil ?_
      intro _ hqw
      obtain ⟨pq, hqw⟩ := hqw
      subst hqw
      have hbel := below_regrown y2 pq.d pq.os
      clear q_ca0 q_ca1 q_ca2 q_ca3 q_ca4 q_ca5 q_ca6 q_ca7 q_ca8 q_ca9 q_ca10 q_ca11 q_ca12 q_cb0 q_cb1 q_cb2 q_cb3 q_cb4 q_cb5 q_cb6 q_cb7 q_cb8 q_cb9 q_cb10 q_cb11 q_cb12 HQ1 HQ2 HSM HD HX HN1 HN2 ca0 ca1 ca2 ca3 ca4 ca5 ca6 ca7 ca8 ca9 ca10 ca11 ca12 lt_ca cb0 cb1 cb2 cb3 cb4 cb5 cb6 cb7 cb8 cb9 cb10 cb11 cb12 lt_cb
      generalize grow (redrawn y2 pq.d) pq.os = y3 at *
      replace hB := hB.trans (hbel.mono hs)
      clear hEQ
      cases b
      all_goals
        go_wp2
        go_ret
        exact ⟨by first | rfl | (congr 2; done), hB⟩
    · have hxr' : rightD x = false := by simpa using hxr
      have HX := Lib.hid hxr'
      clear hxr hxr'
      have cb0 : y1.cell? ⟨w.heap.size + 1, 0, none⟩ = some (.int .i64 x.op) := hY.cell 0
      have cb1 : y1.cell? ⟨w.heap.size + 1, 1, none⟩ = some (.int .i64 x.kd) := hY.cell 1
      have cb2 : y1.cell? ⟨w.heap.size + 1, 2, none⟩ = some (.int .i64 x.id) := hY.cell 2
      have cb3 : y1.cell? ⟨w.heap.size + 1, 3, none⟩ = some (.int .i64 x.fr) := hY.cell 3
      have cb4 : y1.cell? ⟨w.heap.size + 1, 4, none⟩ = some (.int .i64 x.tn) := hY.cell 4
      have cb5 : y1.cell? ⟨w.heap.size + 1, 5, none⟩ = some (.int .i64 x.st) := hY.cell 5
      have cb6 : y1.cell? ⟨w.heap.size + 1, 6, none⟩ = some (.int .i64 x.en) := hY.cell 6
      have cb7 : y1.cell? ⟨w.heap.size + 1, 7, none⟩ = some (.int .i64 x.rt) := hY.cell 7
      have cb8 : y1.cell? ⟨w.heap.size + 1, 8, none⟩ = some (.int .i64 x.rf) := hY.cell 8
      have cb9 : y1.cell? ⟨w.heap.size + 1, 9, none⟩ = some (.int .i64 x.rn) := hY.cell 9
      have cb10 : y1.cell? ⟨w.heap.size + 1, 10, none⟩ = some (.int .i64 x.rs) := hY.cell 10
      have cb11 : y1.cell? ⟨w.heap.size + 1, 11, none⟩ = some (.int .i64 x.re) := hY.cell 11
      have cb12 : y1.cell? ⟨w.heap.size + 1, 12, none⟩ = some (.int .i64 x.ro) := hY.cell 12
      have lt_cb := hY.lt
      go_wp2_with fail
      clear cb0 cb1 cb2 cb3 cb4 cb5 cb6 cb7 cb8 cb9 cb10 cb11 cb12 lt_cb
      refine (dwords_no x y1 x1 x2 HX.out).mono ?_
      rintro e y2 ⟨rfl, hb⟩
      replace hB := hB.trans (hb.mono hs)
      replace hs := hB.size
      clear hb
      clear hX hY h1
      go_upto_region 4 with fail
      try simp only [List.append]
      first | refine wp_region_text_below ?_ | refine wp_region_quiet_below (by kernel_rfl) (by kernel_rfl) ?_
      repeat (go_big_quiet_step ((fail)))
      refine wpQuiet_nil ?_
      intro _ hqw
      obtain ⟨pq, hqw⟩ := hqw
      subst hqw
      have hfin := hB.trans ((below_regrown y2 pq.d pq.os).mono hs)
      generalize grow (redrawn y2 pq.d) pq.os = y3 at *
      go_wp2
      go_ret
      exact ⟨rfl, hfin⟩
  · have hdr' : rightD d = false := by simpa using hdr
    have HD := Lib.hid hdr'
    clear hdr hdr'
    have ca0 : y0.cell? ⟨w.heap.size, 0, none⟩ = some (.int .i64 d.op) := hX.cell 0
    have ca1 : y0.cell? ⟨w.heap.size, 1, none⟩ = some (.int .i64 d.kd) := hX.cell 1
    have ca2 : y0.cell? ⟨w.heap.size, 2, none⟩ = some (.int .i64 d.id) := hX.cell 2
    have ca3 : y0.cell? ⟨w.heap.size, 3, none⟩ = some (.int .i64 d.fr) := hX.cell 3
    have ca4 : y0.cell? ⟨w.heap.size, 4, none⟩ = some (.int .i64 d.tn) := hX.cell 4
    have ca5 : y0.cell? ⟨w.heap.size, 5, none⟩ = some (.int .i64 d.st) := hX.cell 5
    have ca6 : y0.cell? ⟨w.heap.size, 6, none⟩ = some (.int .i64 d.en) := hX.cell 6
    have ca7 : y0.cell? ⟨w.heap.size, 7, none⟩ = some (.int .i64 d.rt) := hX.cell 7
    have ca8 : y0.cell? ⟨w.heap.size, 8, none⟩ = some (.int .i64 d.rf) := hX.cell 8
    have ca9 : y0.cell? ⟨w.heap.size, 9, none⟩ = some (.int .i64 d.rn) := hX.cell 9
    have ca10 : y0.cell? ⟨w.heap.size, 10, none⟩ = some (.int .i64 d.rs) := hX.cell 10
    have ca11 : y0.cell? ⟨w.heap.size, 11, none⟩ = some (.int .i64 d.re) := hX.cell 11
    have ca12 : y0.cell? ⟨w.heap.size, 12, none⟩ = some (.int .i64 d.ro) := hX.cell 12
    have lt_ca := hX.lt
    go_wp2_with fail
    clear ca0 ca1 ca2 ca3 ca4 ca5 ca6 ca7 ca8 ca9 ca10 ca11 ca12 lt_ca
    refine (dwords_no d y0 d1 d2 HD.out).mono ?_
    rintro e y1 ⟨rfl, hb⟩
    replace HT := Lib.hid (HT.out.below hb)
    replace hX := hX.below hb hX.lt
    replace hY := hY.below hb hY.lt
    replace hB := hB.trans (hb.mono hs)
    replace hs := hB.size
    clear hb
    by_cases hxr : rightD x = true
    · have HX := Lib.hid hxr
      clear hxr
      have cb0 : y1.cell? ⟨w.heap.size + 1, 0, none⟩ = some (.int .i64 x.op) := hY.cell 0
      have cb1 : y1.cell? ⟨w.heap.size + 1, 1, none⟩ = some (.int .i64 x.kd) := hY.cell 1
      have cb2 : y1.cell? ⟨w.heap.size + 1, 2, none⟩ = some (.int .i64 x.id) := hY.cell 2
      have cb3 : y1.cell? ⟨w.heap.size + 1, 3, none⟩ = some (.int .i64 x.fr) := hY.cell 3
      have cb4 : y1.cell? ⟨w.heap.size + 1, 4, none⟩ = some (.int .i64 x.tn) := hY.cell 4
      have cb5 : y1.cell? ⟨w.heap.size + 1, 5, none⟩ = some (.int .i64 x.st) := hY.cell 5
      have cb6 : y1.cell? ⟨w.heap.size + 1, 6, none⟩ = some (.int .i64 x.en) := hY.cell 6
      have cb7 : y1.cell? ⟨w.heap.size + 1, 7, none⟩ = some (.int .i64 x.rt) := hY.cell 7
      have cb8 : y1.cell? ⟨w.heap.size + 1, 8, none⟩ = some (.int .i64 x.rf) := hY.cell 8
      have cb9 : y1.cell? ⟨w.heap.size + 1, 9, none⟩ = some (.int .i64 x.rn) := hY.cell 9
      have cb10 : y1.cell? ⟨w.heap.size + 1, 10, none⟩ = some (.int .i64 x.rs) := hY.cell 10
      have cb11 : y1.cell? ⟨w.heap.size + 1, 11, none⟩ = some (.int .i64 x.re) := hY.cell 11
      have cb12 : y1.cell? ⟨w.heap.size + 1, 12, none⟩ = some (.int .i64 x.ro) := hY.cell 12
      have lt_cb := hY.lt
      go_wp2_with fail
      clear cb0 cb1 cb2 cb3 cb4 cb5 cb6 cb7 cb8 cb9 cb10 cb11 cb12 lt_cb
      refine (dwords_yes x y1 x1 x2 HX.out HT.out).mono ?_
      rintro e y2 ⟨v, rfl, hv, hb⟩
      replace hB := hB.trans (hb.mono hs)
      replace hs := hB.size
      clear hb
      clear hX hY hv HT
      go_upto_region 4 with fail
      try simp only [List.append]
      first | refine wp_region_text_below ?_ | refine wp_region_quiet_below (by kernel_rfl) (by kernel_rfl) ?_
      repeat (go_big_quiet_step ((fail)))
      refine wpQuiet_nil ?_
      intro _ hqw
      obtain ⟨pq, hqw⟩ := hqw
      subst hqw
      have hfin := hB.trans ((below_regrown y2 pq.d pq.os).mono hs)
      generalize grow (redrawn y2 pq.d) pq.os = y3 at *
      go_wp2
      go_ret
      exact ⟨rfl, hfin⟩
    · have hxr' : rightD x = false := by simpa using hxr
      have HX := Lib.hid hxr'
      clear hxr hxr'
      have cb0 : y1.cell? ⟨w.heap.size + 1, 0, none⟩ = some (.int .i64 x.op) := hY.cell 0
      have cb1 : y1.cell? ⟨w.heap.size + 1, 1, none⟩ = some (.int .i64 x.kd) := hY.cell 1
      have cb2 : y1.cell? ⟨w.heap.size + 1, 2, none⟩ = some (.int .i64 x.id) := hY.cell 2
      have cb3 : y1.cell? ⟨w.heap.size + 1, 3, none⟩ = some (.int .i64 x.fr) := hY.cell 3
      have cb4 : y1.cell? ⟨w.heap.size + 1, 4, none⟩ = some (.int .i64 x.tn) := hY.cell 4
      have cb5 : y1.cell? ⟨w.heap.size + 1, 5, none⟩ = some (.int .i64 x.st) := hY.cell 5
      have cb6 : y1.cell? ⟨w.heap.size + 1, 6, none⟩ = some (.int .i64 x.en) := hY.cell 6
      have cb7 : y1.cell? ⟨w.heap.size + 1, 7, none⟩ = some (.int .i64 x.rt) := hY.cell 7
      have cb8 : y1.cell? ⟨w.heap.size + 1, 8, none⟩ = some (.int .i64 x.rf) := hY.cell 8
      have cb9 : y1.cell? ⟨w.heap.size + 1, 9, none⟩ = some (.int .i64 x.rn) := hY.cell 9
      have cb10 : y1.cell? ⟨w.heap.size + 1, 10, none⟩ = some (.int .i64 x.rs) := hY.cell 10
      have cb11 : y1.cell? ⟨w.heap.size + 1, 11, none⟩ = some (.int .i64 x.re) := hY.cell 11
      have cb12 : y1.cell? ⟨w.heap.size + 1, 12, none⟩ = some (.int .i64 x.ro) := hY.cell 12
      have lt_cb := hY.lt
      go_wp2_with fail
      clear cb0 cb1 cb2 cb3 cb4 cb5 cb6 cb7 cb8 cb9 cb10 cb11 cb12 lt_cb
      refine (dwords_no x y1 x1 x2 HX.out).mono ?_
      rintro e y2 ⟨rfl, hb⟩
      replace hB := hB.trans (hb.mono hs)
      replace hs := hB.size
      clear hb
      clear hX hY
      go_upto_region 4 with fail
      try simp only [List.append]
      first | refine wp_region_text_below ?_ | refine wp_region_quiet_below (by kernel_rfl) (by kernel_rfl) ?_
      repeat (go_big_quiet_step ((fail)))
      refine wpQuiet_nil ?_
      intro _ hqw
      obtain ⟨pq, hqw⟩ := hqw
      subst hqw
      have hfin := hB.trans ((below_regrown y2 pq.d pq.os).mono hs)
      generalize grow (redrawn y2 pq.d) pq.os = y3 at *
      go_wp2
      go_ret
      exact ⟨rfl, hfin⟩
theorem directApart_walk (a0 a1 a2 a3 a4 a5 a6 a7 a8 a9 a10 a11 a12 b0 b1 b2 b3 b4 b5 b6 b7 b8 b9 b10 b11 b12 : Int) (ha : ∀ m ∈ [a0, a1, a2, a3, a4, a5, a6, a7, a8, a9, a10, a11, a12], (Lit.int .i64 m).wf = true) (hb : ∀ m ∈ [b0, b1, b2, b3, b4, b5, b6, b7, b8, b9, b10, b11, b12], (Lit.int .i64 m).wf = true) (w : World) (ht : TenTab w) :
    Calls Tryd.prog 5 #[.agg #[.int .i64 a0, .int .i64 a1, .int .i64 a2, .int .i64 a3, .int .i64 a4, .int .i64 a5, .int .i64 a6, .int .i64 a7, .int .i64 a8, .int .i64 a9, .int .i64 a10, .int .i64 a11, .int .i64 a12], .agg #[.int .i64 b0, .int .i64 b1, .int .i64 b2, .int .i64 b3, .int .i64 b4, .int .i64 b5, .int .i64 b6, .int .i64 b7, .int .i64 b8, .int .i64 b9, .int .i64 b10, .int .i64 b11, .int .i64 b12]] w fun e w' => e = .returned (.bool true) ∧ Below w.heap.size w w' :=
  directApart_any ⟨a0, a1, a2, a3, a4, a5, a6, a7, a8, a9, a10, a11, a12⟩ ⟨b0, b1, b2, b3, b4, b5, b6, b7, b8, b9, b10, b11, b12⟩ (ha _ (by simp)) (ha _ (by simp)) (hb _ (by simp)) (hb _ (by simp)) w ht
theorem directApart_own : ownKnob Tryd.prog.godebug = none := by kernel_rfl
theorem directApart_laidOut : laidOutB Tryd.prog = true := by kernel_rfl
theorem directApart_door (os : Os) (args : Array Value) : laidMetH Tryd.prog Rows.directApartRow.laid ((World.doorLaid Tryd.prog 400 os).forCall (fun _ _ => 0) ⟨#[], args, []⟩).memory :=
  laidMetH_of_parts3 (fuel := 8) (laidMet_of_run' 8 (by kernel_rfl) (by kernel_rfl)) (by kernel_rfl) (by kernel_rfl)

set_option maxHeartbeats 1000000 in
set_option maxRecDepth 100000 in
theorem directApart_lifted (os : Os) (started : os.Started) (H : Type) (enc : TypeId × Value → H) :
    ReturnsInHanded {} Tryd.checked os 5 .any (fun w args => (Rows.directApartSpec.pre enc Tryd.prog Tryd.f5 [] false w args ∧ laidMetH Tryd.prog Rows.directApartRow.laid w) ∧ sizedMet enc Tryd.prog Tryd.f5 (OpenSpec.ofChange Rows.directApartSpec) false w args)
      (Rows.directApartSpec.post enc Tryd.prog Tryd.f5 false true false false) := by
  refine returnsInHanded_of_change_and (C := Tryd.checked) (X := fun w _ => laidMetH Tryd.prog Rows.directApartRow.laid w) (fun _ _ _ hh h => h.of_heap hh) directApart_own started (by kernel_rfl) Tryd.func5
    (ChangeSpec.witness_shaped (enc := enc) (C := Tryd.checked) (os := os) (X := fun w _ => laidMetH Tryd.prog Rows.directApartRow.laid w) false (World.doorLaid Tryd.prog 400 os) #[.agg #[.int .i64 0, .int .i64 0, .int .i64 0, .int .i64 0, .int .i64 0, .int .i64 0, .int .i64 0, .int .i64 0, .int .i64 0, .int .i64 0, .int .i64 0, .int .i64 0, .int .i64 0], .agg #[.int .i64 0, .int .i64 0, .int .i64 0, .int .i64 0, .int .i64 0, .int .i64 0, .int .i64 0, .int .i64 0, .int .i64 0, .int .i64 0, .int .i64 0, .int .i64 0, .int .i64 0]] 8 rfl (World.shaped_of_RefB (by kernel_rfl) (by kernel_rfl)) (by kernel_rfl) (by kernel_rfl) (by kernel_rfl) (directApart_door os _)) ?_
  intro W base args ds gs before hval0 hW _ _ hL _
  have hval : ∀ (j : Nat) t v, Tryd.f5.params[j]? = some t → args[j]? = some v → Value.okWide Tryd.prog W .any base t v := hval0
  have hW' := hW
  obtain ⟨p, q, hA0, hV, rfl, hfz, hnd⟩ := hW
  have hA : DataW.TrodAll enc Tryd.prog W 0 (fun _ => true) true Tryd.f5.params.toList args.toList ds p := hA0
  rw [Tryd.params5] at hA hval
  obtain ⟨v0, vs0, d0, ds0, p0, q0, hargs, rfl, rfl, h0, r0⟩ := trodAll_cons hA
  obtain ⟨v1, vs1, d1, ds1, p1, q1, rfl, rfl, rfl, h1, r1⟩ := trodAll_cons r0
  obtain ⟨rfl, rfl, rfl⟩ := trodAll_nil r1
  obtain rfl : args = #[v0, v1] := by cases args; simp_all
  obtain ⟨rfl, rfl⟩ := trodVars_none hV
  obtain ⟨n0, e0, l0, w0⟩ := open_flat 4 Tryd.underlying27 (by kernel_rfl) (hval 0 27 v0 rfl rfl) h0
  obtain ⟨a0_0, a0_1, a0_2, a0_3, a0_4, a0_5, a0_6, a0_7, a0_8, a0_9, a0_10, a0_11, a0_12, rfl⟩ : ∃ a0_0 a0_1 a0_2 a0_3 a0_4 a0_5 a0_6 a0_7 a0_8 a0_9 a0_10 a0_11 a0_12 : Int, n0 = [a0_0, a0_1, a0_2, a0_3, a0_4, a0_5, a0_6, a0_7, a0_8, a0_9, a0_10, a0_11, a0_12] := by
    rw [show Tryd.prog.cellsOf 27 = 13 by kernel_rfl] at l0
    match n0, l0 with
    | [a0_0, a0_1, a0_2, a0_3, a0_4, a0_5, a0_6, a0_7, a0_8, a0_9, a0_10, a0_11, a0_12], _ => exact ⟨_, _, _, _, _, _, _, _, _, _, _, _, _, rfl⟩
  obtain rfl : v0 = .agg #[.int .i64 a0_0, .int .i64 a0_1, .int .i64 a0_2, .int .i64 a0_3, .int .i64 a0_4, .int .i64 a0_5, .int .i64 a0_6, .int .i64 a0_7, .int .i64 a0_8, .int .i64 a0_9, .int .i64 a0_10, .int .i64 a0_11, .int .i64 a0_12] := e0
  obtain ⟨n1, e1, l1, w1⟩ := open_flat 4 Tryd.underlying27 (by kernel_rfl) (hval 1 27 v1 rfl rfl) h1
  obtain ⟨a1_0, a1_1, a1_2, a1_3, a1_4, a1_5, a1_6, a1_7, a1_8, a1_9, a1_10, a1_11, a1_12, rfl⟩ : ∃ a1_0 a1_1 a1_2 a1_3 a1_4 a1_5 a1_6 a1_7 a1_8 a1_9 a1_10 a1_11 a1_12 : Int, n1 = [a1_0, a1_1, a1_2, a1_3, a1_4, a1_5, a1_6, a1_7, a1_8, a1_9, a1_10, a1_11, a1_12] := by
    rw [show Tryd.prog.cellsOf 27 = 13 by kernel_rfl] at l1
    match n1, l1 with
    | [a1_0, a1_1, a1_2, a1_3, a1_4, a1_5, a1_6, a1_7, a1_8, a1_9, a1_10, a1_11, a1_12], _ => exact ⟨_, _, _, _, _, _, _, _, _, _, _, _, _, rfl⟩
  obtain rfl : v1 = .agg #[.int .i64 a1_0, .int .i64 a1_1, .int .i64 a1_2, .int .i64 a1_3, .int .i64 a1_4, .int .i64 a1_5, .int .i64 a1_6, .int .i64 a1_7, .int .i64 a1_8, .int .i64 a1_9, .int .i64 a1_10, .int .i64 a1_11, .int .i64 a1_12] := e1
  clear hA0 hval0
  refine (directApart_walk a0_0 a0_1 a0_2 a0_3 a0_4 a0_5 a0_6 a0_7 a0_8 a0_9 a0_10 a0_11 a0_12 a1_0 a1_1 a1_2 a1_3 a1_4 a1_5 a1_6 a1_7 a1_8 a1_9 a1_10 a1_11 a1_12 w0 w1 W (ten_of_laid hL)).mono fun e W' ⟨he, bel⟩ => ?_
  subst he
  exact ⟨_, rfl, law_post directApart_laidOut (by kernel_rfl) rfl Tryd.underlying4 rfl rfl hW' bel⟩

theorem directApart_holds : Rows.DirectApartSaid :=
  OpenClaim.holds_of_wide 5 Tryd.f5 rfl rfl rfl rfl rfl rfl rfl ⟨rfl, rfl, rfl, rfl, rfl⟩ rfl rfl rfl rfl rfl (by kernel_rfl) Tryd.func5 (by kernel_rfl)
    (of_decide_eq_true (by kernel_rfl)) (by unfold Func.isWrapper; first | (rw [if_pos (by decide +kernel)]; kernel_rfl) | (rw [if_neg (by decide +kernel)]; exact ⟨rfl, rfl⟩))
    (fun os started H enc _ => directApart_lifted os started H enc)

theorem directApart_proved : Rows.DirectApartCardSaid :=
  Claim7.holds_tied_plain_at .later [] Rows.directApartCard.laidKinds true Rows.directApartCard.stood.harness false
    directApart_holds (fun _ h => by cases h) (by kernel_rfl) (fun _ h => by cases h) directApart_row_tie rfl ⟨rfl, rfl⟩ (by kernel_rfl) rfl
    (fun f fn hf hfn => by
      obtain rfl : f = 5 := Option.some.inj ((show Tryd.prog.funcNamed "felucca/feluccalaw04.DirectApart" = some 5 by kernel_rfl).symm.trans hf) |>.symm
      obtain rfl : fn = Tryd.f5 := (Option.some.inj (Tryd.func5.symm.trans hfn)).symm
      exact ⟨by kernel_rfl, fun j t ht => by
        rw [Tryd.params5] at ht
        have hm : t ∈ [27, 27] := by simpa using Array.mem_of_getElem? ht
        have hall : ([27, 27].all fun u => !Tryd.prog.wantsStandIn u) = true := by kernel_rfl
        exact (show Tryd.prog.wantsStandIn t = false by simpa using List.all_eq_true.1 hall t hm)⟩)
    (by kernel_rfl)
#print axioms directApart_proved
end Go.Proofs.YtkdfloeglknmnaaDoor
