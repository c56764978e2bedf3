
/- Right directives and their words are each other's: DirectBack returns true, for each directive and all words. It reads a table of the library's. -/
import Derived.Test.YtkdfloeglknmnaaDoorRows
import Derived.Test.YtkdfloeglknmnaaDoorTie
import Derived.Test.YtkdfloeglknmnaaDoorCards
import Derived.Test.YtkdfloeglknmnaaDoorDLaw
import Derived.Test.YtkdfloeglknmnaaDoorTen04
namespace Go.Proofs.YtkdfloeglknmnaaDoor
open Go.ChangeShapes Go.WideShapes Go.ChangeAt Go.RowKit Go.Sort
set_option linter.unusedSimpArgs false
set_option linter.unusedVariables false
set_option maxHeartbeats 16000000 in
set_option maxRecDepth 100000 in
theorem directBack_any (d : Dr) (d1 : (Lit.int .i64 d.op).wf = true) (d2 : (Lit.int .i64 d.kd).wf = true) (A : Option Addr) (n c : Nat) (l : List Bytes) (hl : l.length = n) (hsz : ∀ x ∈ l, x.length ≤ maxLen) (w : World) (ht : TenTab w) (h : Sl w w.heap.size 1 A n c (vs l)) :
    Calls Tryd.prog 4 #[.agg #[.int .i64 d.op, .int .i64 d.kd, .int .i64 d.id, .int .i64 d.fr, .int .i64 d.tn, .int .i64 d.st, .int .i64 d.en, .int .i64 d.rt, .int .i64 d.rf, .int .i64 d.rn, .int .i64 d.rs, .int .i64 d.re, .int .i64 d.ro], .slice A n c] w fun e w' => e = .returned (.bool true) ∧ Below w.heap.size w w' := by
  have hX := Blok.new w 27 #[.int .i64 d.op, .int .i64 d.kd, .int .i64 d.id, .int .i64 d.fr, .int .i64 d.tn, .int .i64 d.st, .int .i64 d.en, .int .i64 d.rt, .int .i64 d.rf, .int .i64 d.rn, .int .i64 d.rs, .int .i64 d.re, .int .i64 d.ro]
  have hB : Below w.heap.size w (w.alloc (.cells #[.int .i64 d.op, .int .i64 d.kd, .int .i64 d.id, .int .i64 d.fr, .int .i64 d.tn, .int .i64 d.st, .int .i64 d.en, .int .i64 d.rt, .int .i64 d.rf, .int .i64 d.rn, .int .i64 d.rs, .int .i64 d.re, .int .i64 d.ro] 27)) := by (repeat (first | exact Below.refl _ _ | refine Below.alloc ?_ (by first | omega | (simp; done) | (simp; omega)) _ | refine Below.setCell ?_ (by first | omega | (simp; done) | (simp; omega)) _ | refine Below.drew ?_))
  have hs := hB.size
  have HT := Lib.hid (ht.below hB)
  replace h := h.up hB
  have HL := Lib.hid hl
  have HSZ := Lib.hid hsz
  clear ht hl hsz
  go_enter Tryd.func4, Tryd.ntmps4
  go_wp2_with fail
  generalize w.alloc (.cells #[.int .i64 d.op, .int .i64 d.kd, .int .i64 d.id, .int .i64 d.fr, .int .i64 d.tn, .int .i64 d.st, .int .i64 d.en, .int .i64 d.rt, .int .i64 d.rf, .int .i64 d.rn, .int .i64 d.rs, .int .i64 d.re, .int .i64 d.ro] 27) = x0 at *
  refine (small04_any x0 HT.out).mono ?_
  rintro e y0 ⟨rfl, hb⟩
  replace HT := Lib.hid (HT.out.below hb)
  replace h := h.up hb
  replace hX := hX.below hb hX.lt
  replace hB := hB.trans (hb.mono hs)
  replace hs := hB.size
  clear hb
  by_cases hn : 50 < n
  · clear hX h
    go_wp2
    go_ret
    exact ⟨rfl, hB⟩
  obtain ⟨z, q, hz⟩ : ∃ z q, parseD l = (z, q) := ⟨_, _, rfl⟩
  have HZ := Lib.hid hz
  clear hz
  have hn5 : n ≤ 100000 := by omega
  cases hdr : rightD d
  · have HD := Lib.hid hdr
    clear hdr
    have ca0 : y0.cell? ⟨w.heap.size, 0, none⟩ = some (.int .i64 d.op) := hX.cell 0
    have ca1 : y0.cell? ⟨w.heap.size, 1, none⟩ = some (.int .i64 d.kd) := hX.cell 1
    have ca2 : y0.cell? ⟨w.heap.size, 2, none⟩ = some (.int .i64 d.id) := hX.cell 2
    have ca3 : y0.cell? ⟨w.heap.size, 3, none⟩ = some (.int .i64 d.fr) := hX.cell 3
    have ca4 : y0.cell? ⟨w.heap.size, 4, none⟩ = some (.int .i64 d.tn) := hX.cell 4
    have ca5 : y0.cell? ⟨w.heap.size, 5, none⟩ = some (.int .i64 d.st) := hX.cell 5
    have ca6 : y0.cell? ⟨w.heap.size, 6, none⟩ = some (.int .i64 d.en) := hX.cell 6
    have ca7 : y0.cell? ⟨w.heap.size, 7, none⟩ = some (.int .i64 d.rt) := hX.cell 7
    have ca8 : y0.cell? ⟨w.heap.size, 8, none⟩ = some (.int .i64 d.rf) := hX.cell 8
    have ca9 : y0.cell? ⟨w.heap.size, 9, none⟩ = some (.int .i64 d.rn) := hX.cell 9
    have ca10 : y0.cell? ⟨w.heap.size, 10, none⟩ = some (.int .i64 d.rs) := hX.cell 10
    have ca11 : y0.cell? ⟨w.heap.size, 11, none⟩ = some (.int .i64 d.re) := hX.cell 11
    have ca12 : y0.cell? ⟨w.heap.size, 12, none⟩ = some (.int .i64 d.ro) := hX.cell 12
    have lt_ca := hX.lt
    go_wp2_with fail
    clear ca0 ca1 ca2 ca3 ca4 ca5 ca6 ca7 ca8 ca9 ca10 ca11 ca12 lt_ca
    refine (dwords_no d y0 d1 d2 HD.out).mono ?_
    rintro e y1 ⟨rfl, hb⟩
    replace HT := Lib.hid (HT.out.below hb)
    replace h := h.up hb
    replace hX := hX.below hb hX.lt
    replace hB := hB.trans (hb.mono hs)
    replace hs := hB.size
    clear hb
    go_upto_region 5 with fail
    have ca0 : y1.cell? ⟨w.heap.size, 0, none⟩ = some (.int .i64 d.op) := hX.cell 0
    have ca1 : y1.cell? ⟨w.heap.size, 1, none⟩ = some (.int .i64 d.kd) := hX.cell 1
    have ca2 : y1.cell? ⟨w.heap.size, 2, none⟩ = some (.int .i64 d.id) := hX.cell 2
    have ca3 : y1.cell? ⟨w.heap.size, 3, none⟩ = some (.int .i64 d.fr) := hX.cell 3
    have ca4 : y1.cell? ⟨w.heap.size, 4, none⟩ = some (.int .i64 d.tn) := hX.cell 4
    have ca5 : y1.cell? ⟨w.heap.size, 5, none⟩ = some (.int .i64 d.st) := hX.cell 5
    have ca6 : y1.cell? ⟨w.heap.size, 6, none⟩ = some (.int .i64 d.en) := hX.cell 6
    have ca7 : y1.cell? ⟨w.heap.size, 7, none⟩ = some (.int .i64 d.rt) := hX.cell 7
    have ca8 : y1.cell? ⟨w.heap.size, 8, none⟩ = some (.int .i64 d.rf) := hX.cell 8
    have ca9 : y1.cell? ⟨w.heap.size, 9, none⟩ = some (.int .i64 d.rn) := hX.cell 9
    have ca10 : y1.cell? ⟨w.heap.size, 10, none⟩ = some (.int .i64 d.rs) := hX.cell 10
    have ca11 : y1.cell? ⟨w.heap.size, 11, none⟩ = some (.int .i64 d.re) := hX.cell 11
    have ca12 : y1.cell? ⟨w.heap.size, 12, none⟩ = some (.int .i64 d.ro) := hX.cell 12
    have lt_ca := hX.lt
    have q_ca0 := fun d os => cell_regrown ca0 d os
    have q_ca1 := fun d os => cell_regrown ca1 d os
    have q_ca2 := fun d os => cell_regrown ca2 d os
    have q_ca3 := fun d os => cell_regrown ca3 d os
    have q_ca4 := fun d os => cell_regrown ca4 d os
    have q_ca5 := fun d os => cell_regrown ca5 d os
    have q_ca6 := fun d os => cell_regrown ca6 d os
    have q_ca7 := fun d os => cell_regrown ca7 d os
    have q_ca8 := fun d os => cell_regrown ca8 d os
    have q_ca9 := fun d os => cell_regrown ca9 d os
    have q_ca10 := fun d os => cell_regrown ca10 d os
    have q_ca11 := fun d os => cell_regrown ca11 d os
    have q_ca12 := fun d os => cell_regrown ca12 d os
    try simp only [List.append]
    first | refine wp_region_text_below ?_ | refine wp_region_quiet_below (by kernel_rfl) (by kernel_rfl) ?_
    repeat (go_big_quiet_step (((go_at_call 13; with_reducible exact Calls.regrown_of (dright_any d _ d1 d2 false HD.out)))))
    refine wpQuiet_nil ?_
    intro _ hqw
    obtain ⟨pq, hqw⟩ := hqw
    subst hqw
    clear q_ca0 q_ca1 q_ca2 q_ca3 q_ca4 q_ca5 q_ca6 q_ca7 q_ca8 q_ca9 q_ca10 q_ca11 q_ca12
    clear ca0 ca1 ca2 ca3 ca4 ca5 ca6 ca7 ca8 ca9 ca10 ca11 ca12 lt_ca
    have hb := below_regrown y1 pq.d pq.os
    replace HT := Lib.hid (HT.out.below hb)
    replace h := h.up hb
    replace hB := hB.trans (hb.mono hs)
    replace hs := hB.size
    clear hb
    generalize grow (redrawn y1 pq.d) pq.os = y2 at *
    clear hX HD
    go_wp2_with fail
    refine (dparse_any A n c l y2 HL.out hn5 HSZ.out h z q HZ.out).mono ?_
    rintro e u0 ⟨rfl, hb⟩
    replace HT := Lib.hid (HT.out.below hb)
    replace h := h.up hb
    replace hB := hB.trans (hb.mono hs)
    replace hs := hB.size
    clear hb
    go_upto_region 12 with fail
    have hZ := Blok.new u0 27 #[.int .i64 z.op, .int .i64 z.kd, .int .i64 z.id, .int .i64 z.fr, .int .i64 z.tn, .int .i64 z.st, .int .i64 z.en, .int .i64 z.rt, .int .i64 z.rf, .int .i64 z.rn, .int .i64 z.rs, .int .i64 z.re, .int .i64 z.ro]
    have hb : Below u0.heap.size u0 (u0.alloc (.cells #[.int .i64 z.op, .int .i64 z.kd, .int .i64 z.id, .int .i64 z.fr, .int .i64 z.tn, .int .i64 z.st, .int .i64 z.en, .int .i64 z.rt, .int .i64 z.rf, .int .i64 z.rn, .int .i64 z.rs, .int .i64 z.re, .int .i64 z.ro] 27)) := by (repeat (first | exact Below.refl _ _ | refine Below.alloc ?_ (by first | omega | (simp; done) | (simp; omega)) _ | refine Below.setCell ?_ (by first | omega | (simp; done) | (simp; omega)) _ | refine Below.drew ?_))
    replace HT := Lib.hid (HT.out.below hb)
    replace h := h.up hb
    replace hB := hB.trans (hb.mono hs)
    replace hs := hB.size
    clear hb
    generalize u0.alloc (.cells #[.int .i64 z.op, .int .i64 z.kd, .int .i64 z.id, .int .i64 z.fr, .int .i64 z.tn, .int .i64 z.st, .int .i64 z.en, .int .i64 z.rt, .int .i64 z.rf, .int .i64 z.rn, .int .i64 z.rs, .int .i64 z.re, .int .i64 z.ro] 27) = u1 at *
    generalize hzz : u0.heap.size = bz at *
    clear hzz
    by_cases hq : q = 0
    · subst hq
      have hzr := parse_words HZ.out
      have HR := Lib.hid hzr.1
      have HW := Lib.hid hzr.2
      have hop := right_ops hzr.1
      have z1 := hop.1
      have z2 := hop.2
      clear hzr hop HZ
      have ck0 : u1.cell? ⟨bz, 0, none⟩ = some (.int .i64 z.op) := hZ.cell 0
      have ck1 : u1.cell? ⟨bz, 1, none⟩ = some (.int .i64 z.kd) := hZ.cell 1
      have ck2 : u1.cell? ⟨bz, 2, none⟩ = some (.int .i64 z.id) := hZ.cell 2
      have ck3 : u1.cell? ⟨bz, 3, none⟩ = some (.int .i64 z.fr) := hZ.cell 3
      have ck4 : u1.cell? ⟨bz, 4, none⟩ = some (.int .i64 z.tn) := hZ.cell 4
      have ck5 : u1.cell? ⟨bz, 5, none⟩ = some (.int .i64 z.st) := hZ.cell 5
      have ck6 : u1.cell? ⟨bz, 6, none⟩ = some (.int .i64 z.en) := hZ.cell 6
      have ck7 : u1.cell? ⟨bz, 7, none⟩ = some (.int .i64 z.rt) := hZ.cell 7
      have ck8 : u1.cell? ⟨bz, 8, none⟩ = some (.int .i64 z.rf) := hZ.cell 8
      have ck9 : u1.cell? ⟨bz, 9, none⟩ = some (.int .i64 z.rn) := hZ.cell 9
      have ck10 : u1.cell? ⟨bz, 10, none⟩ = some (.int .i64 z.rs) := hZ.cell 10
      have ck11 : u1.cell? ⟨bz, 11, none⟩ = some (.int .i64 z.re) := hZ.cell 11
      have ck12 : u1.cell? ⟨bz, 12, none⟩ = some (.int .i64 z.ro) := hZ.cell 12
      have lt_ck := hZ.lt
      go_wp2_with fail
      clear ck0 ck1 ck2 ck3 ck4 ck5 ck6 ck7 ck8 ck9 ck10 ck11 ck12 lt_ck
      refine (dwords_yes z u1 z1 z2 HR.out HT.out).mono ?_
      rintro e u2 ⟨v, rfl, hv, hb⟩
      have hlz : 2 + (numsD z).length = n := by rw [← words_len_eq, HW.out]; exact HL.out
      rw [HW.out, hlz] at hv
      clear hlz HT
      obtain ⟨A3, c3, rfl⟩ := slice_of_own hv
      have h3 := Sl.of_own hv
      clear hv
      replace h := h.up hb
      replace hZ := hZ.below hb hZ.lt
      replace hB := hB.trans (hb.mono hs)
      replace hs := hB.size
      clear hb
      have HQ1 : Hid (∀ dd os, Sl (grow (redrawn u2 dd) os) (grow (redrawn u2 dd) os).heap.size 1 A n c (vs l)) := fun dd os => h.up (below_regrown u2 dd os)
      have HQ2 : Hid (∀ dd os, Sl (grow (redrawn u2 dd) os) (grow (redrawn u2 dd) os).heap.size 1 A3 n c3 (vs l)) := fun dd os => h3.up (below_regrown u2 dd os)
      have ck0 : u2.cell? ⟨bz, 0, none⟩ = some (.int .i64 z.op) := hZ.cell 0
      have ck1 : u2.cell? ⟨bz, 1, none⟩ = some (.int .i64 z.kd) := hZ.cell 1
      have ck2 : u2.cell? ⟨bz, 2, none⟩ = some (.int .i64 z.id) := hZ.cell 2
      have ck3 : u2.cell? ⟨bz, 3, none⟩ = some (.int .i64 z.fr) := hZ.cell 3
      have ck4 : u2.cell? ⟨bz, 4, none⟩ = some (.int .i64 z.tn) := hZ.cell 4
      have ck5 : u2.cell? ⟨bz, 5, none⟩ = some (.int .i64 z.st) := hZ.cell 5
      have ck6 : u2.cell? ⟨bz, 6, none⟩ = some (.int .i64 z.en) := hZ.cell 6
      have ck7 : u2.cell? ⟨bz, 7, none⟩ = some (.int .i64 z.rt) := hZ.cell 7
      have ck8 : u2.cell? ⟨bz, 8, none⟩ = some (.int .i64 z.rf) := hZ.cell 8
      have ck9 : u2.cell? ⟨bz, 9, none⟩ = some (.int .i64 z.rn) := hZ.cell 9
      have ck10 : u2.cell? ⟨bz, 10, none⟩ = some (.int .i64 z.rs) := hZ.cell 10
      have ck11 : u2.cell? ⟨bz, 11, none⟩ = some (.int .i64 z.re) := hZ.cell 11
      have ck12 : u2.cell? ⟨bz, 12, none⟩ = some (.int .i64 z.ro) := hZ.cell 12
      have lt_ck := hZ.lt
      clear h h3 hZ
      go_upto_region 15 with fail
      have q_ck0 := fun d os => cell_regrown ck0 d os
      have q_ck1 := fun d os => cell_regrown ck1 d os
      have q_ck2 := fun d os => cell_regrown ck2 d os
      have q_ck3 := fun d os => cell_regrown ck3 d os
      have q_ck4 := fun d os => cell_regrown ck4 d os
      have q_ck5 := fun d os => cell_regrown ck5 d os
      have q_ck6 := fun d os => cell_regrown ck6 d os
      have q_ck7 := fun d os => cell_regrown ck7 d os
      have q_ck8 := fun d os => cell_regrown ck8 d os
      have q_ck9 := fun d os => cell_regrown ck9 d os
      have q_ck10 := fun d os => cell_regrown ck10 d os
      have q_ck11 := fun d os => cell_regrown ck11 d os
      have q_ck12 := fun d os => cell_regrown ck12 d os
      try simp only [List.append]
      first | refine wp_region_text_below ?_ | refine wp_region_quiet_below (by kernel_rfl) (by kernel_rfl) ?_
      repeat (go_big_quiet_step ((first | (go_at_call 15; with_reducible exact Calls.regrown_of (dsame_is A3 A n c3 n c l l true (decide_eq_true rfl) _ HL.out HL.out hn5 (HQ2.out _ _) (HQ1.out _ _))) | (go_at_call 13; with_reducible exact Calls.regrown_of (dright_any z _ z1 z2 true HR.out)))))
      refine wpQuiet_nil ?_
      intro _ hqw
      obtain ⟨pq, hqw⟩ := hqw
      subst hqw
      have hfin := hB.trans ((below_regrown u2 pq.d pq.os).mono hs)
      clear q_ck0 q_ck1 q_ck2 q_ck3 q_ck4 q_ck5 q_ck6 q_ck7 q_ck8 q_ck9 q_ck10 q_ck11 q_ck12 HQ1 HQ2
      clear ck0 ck1 ck2 ck3 ck4 ck5 ck6 ck7 ck8 ck9 ck10 ck11 ck12 lt_ck
      generalize grow (redrawn u2 pq.d) pq.os = u3 at *
      go_wp2
      go_ret
      exact ⟨rfl, hfin⟩
    · have hz0 := parse_none HZ.out hq
      obtain ⟨hz1, hz2⟩ := hz0
      subst hz1
      clear HT HZ h hq
      have ck0 : u1.cell? ⟨bz, 0, none⟩ = some (.int .i64 0) := hZ.cell 0
      have ck1 : u1.cell? ⟨bz, 1, none⟩ = some (.int .i64 0) := hZ.cell 1
      have ck2 : u1.cell? ⟨bz, 2, none⟩ = some (.int .i64 0) := hZ.cell 2
      have ck3 : u1.cell? ⟨bz, 3, none⟩ = some (.int .i64 0) := hZ.cell 3
      have ck4 : u1.cell? ⟨bz, 4, none⟩ = some (.int .i64 0) := hZ.cell 4
      have ck5 : u1.cell? ⟨bz, 5, none⟩ = some (.int .i64 0) := hZ.cell 5
      have ck6 : u1.cell? ⟨bz, 6, none⟩ = some (.int .i64 0) := hZ.cell 6
      have ck7 : u1.cell? ⟨bz, 7, none⟩ = some (.int .i64 0) := hZ.cell 7
      have ck8 : u1.cell? ⟨bz, 8, none⟩ = some (.int .i64 0) := hZ.cell 8
      have ck9 : u1.cell? ⟨bz, 9, none⟩ = some (.int .i64 0) := hZ.cell 9
      have ck10 : u1.cell? ⟨bz, 10, none⟩ = some (.int .i64 0) := hZ.cell 10
      have ck11 : u1.cell? ⟨bz, 11, none⟩ = some (.int .i64 0) := hZ.cell 11
      have ck12 : u1.cell? ⟨bz, 12, none⟩ = some (.int .i64 0) := hZ.cell 12
      have lt_ck := hZ.lt
      have hEQ : ∀ w0 : World, (binOp .eql 27 (.agg #[.int .i64 0, .int .i64 0, .int .i64 0, .int .i64 0, .int .i64 0, .int .i64 0, .int .i64 0, .int .i64 0, .int .i64 0, .int .i64 0, .int .i64 0, .int .i64 0, .int .i64 0]) (.agg #[.int .i64 0, .int .i64 0, .int .i64 0, .int .i64 0, .int .i64 0, .int .i64 0, .int .i64 0, .int .i64 0, .int .i64 0, .int .i64 0, .int .i64 0, .int .i64 0, .int .i64 0])).run Tryd.prog w0 = .ok (.bool true) w0 := fun w0 => by have h := eqlDr zeroDr zeroDr w0; simpa [zeroDr] using h
      clear hZ
      rcases hz2 with rfl | rfl
      all_goals
        go_upto_region 13 with fail
        have q_ck0 := fun d os => cell_regrown ck0 d os
        have q_ck1 := fun d os => cell_regrown ck1 d os
        have q_ck2 := fun d os => cell_regrown ck2 d os
        have q_ck3 := fun d os => cell_regrown ck3 d os
        have q_ck4 := fun d os => cell_regrown ck4 d os
        have q_ck5 := fun d os => cell_regrown ck5 d os
        have q_ck6 := fun d os => cell_regrown ck6 d os
        have q_ck7 := fun d os => cell_regrown ck7 d os
        have q_ck8 := fun d os => cell_regrown ck8 d os
        have q_ck9 := fun d os => cell_regrown ck9 d os
        have q_ck10 := fun d os => cell_regrown ck10 d os
        have q_ck11 := fun d os => cell_regrown ck11 d os
        have q_ck12 := fun d os => cell_regrown ck12 d os
        try simp only [List.append]
        first | refine wp_region_text_below ?_ | refine wp_region_quiet_below (by kernel_rfl) (by kernel_rfl) ?_
        repeat (go_big_quiet_step ((fail)))
        refine wpQuiet_nil ?_
        intro _ hqw
        obtain ⟨pq, hqw⟩ := hqw
        subst hqw
        have hfin := hB.trans ((below_regrown u1 pq.d pq.os).mono hs)
        clear q_ck0 q_ck1 q_ck2 q_ck3 q_ck4 q_ck5 q_ck6 q_ck7 q_ck8 q_ck9 q_ck10 q_ck11 q_ck12 hEQ
        clear ck0 ck1 ck2 ck3 ck4 ck5 ck6 ck7 ck8 ck9 ck10 ck11 ck12 lt_ck
        generalize grow (redrawn u1 pq.d) pq.os = u3 at *
        go_wp2
        go_ret
        exact ⟨rfl, hfin⟩
  · have HD := Lib.hid hdr
    clear hdr
    have ca0 : y0.cell? ⟨w.heap.size, 0, none⟩ = some (.int .i64 d.op) := hX.cell 0
    have ca1 : y0.cell? ⟨w.heap.size, 1, none⟩ = some (.int .i64 d.kd) := hX.cell 1
    have ca2 : y0.cell? ⟨w.heap.size, 2, none⟩ = some (.int .i64 d.id) := hX.cell 2
    have ca3 : y0.cell? ⟨w.heap.size, 3, none⟩ = some (.int .i64 d.fr) := hX.cell 3
    have ca4 : y0.cell? ⟨w.heap.size, 4, none⟩ = some (.int .i64 d.tn) := hX.cell 4
    have ca5 : y0.cell? ⟨w.heap.size, 5, none⟩ = some (.int .i64 d.st) := hX.cell 5
    have ca6 : y0.cell? ⟨w.heap.size, 6, none⟩ = some (.int .i64 d.en) := hX.cell 6
    have ca7 : y0.cell? ⟨w.heap.size, 7, none⟩ = some (.int .i64 d.rt) := hX.cell 7
    have ca8 : y0.cell? ⟨w.heap.size, 8, none⟩ = some (.int .i64 d.rf) := hX.cell 8
    have ca9 : y0.cell? ⟨w.heap.size, 9, none⟩ = some (.int .i64 d.rn) := hX.cell 9
    have ca10 : y0.cell? ⟨w.heap.size, 10, none⟩ = some (.int .i64 d.rs) := hX.cell 10
    have ca11 : y0.cell? ⟨w.heap.size, 11, none⟩ = some (.int .i64 d.re) := hX.cell 11
    have ca12 : y0.cell? ⟨w.heap.size, 12, none⟩ = some (.int .i64 d.ro) := hX.cell 12
    have lt_ca := hX.lt
    go_wp2_with fail
    clear ca0 ca1 ca2 ca3 ca4 ca5 ca6 ca7 ca8 ca9 ca10 ca11 ca12 lt_ca
    refine (dwords_yes d y0 d1 d2 HD.out HT.out).mono ?_
    rintro e y1 ⟨v, rfl, hv, hb⟩
    replace HT := Lib.hid (HT.out.below hb)
    obtain ⟨n1, hn1⟩ : ∃ n, 2 + (numsD d).length = n := ⟨_, rfl⟩
    rw [hn1] at hv
    have hb1 : n1 ≤ 100000 := by have := nums_le d; omega
    have HN1 := Lib.hid (show (wordsD d).length = n1 by rw [words_len_eq]; exact hn1)
    clear hn1
    obtain ⟨A1, c1, rfl⟩ := slice_of_own hv
    have h1 := Sl.of_own hv
    clear hv
    replace h := h.up hb
    replace hX := hX.below hb hX.lt
    replace hB := hB.trans (hb.mono hs)
    replace hs := hB.size
    clear hb
    go_upto_region 5 with fail
    have ca0 : y1.cell? ⟨w.heap.size, 0, none⟩ = some (.int .i64 d.op) := hX.cell 0
    have ca1 : y1.cell? ⟨w.heap.size, 1, none⟩ = some (.int .i64 d.kd) := hX.cell 1
    have ca2 : y1.cell? ⟨w.heap.size, 2, none⟩ = some (.int .i64 d.id) := hX.cell 2
    have ca3 : y1.cell? ⟨w.heap.size, 3, none⟩ = some (.int .i64 d.fr) := hX.cell 3
    have ca4 : y1.cell? ⟨w.heap.size, 4, none⟩ = some (.int .i64 d.tn) := hX.cell 4
    have ca5 : y1.cell? ⟨w.heap.size, 5, none⟩ = some (.int .i64 d.st) := hX.cell 5
    have ca6 : y1.cell? ⟨w.heap.size, 6, none⟩ = some (.int .i64 d.en) := hX.cell 6
    have ca7 : y1.cell? ⟨w.heap.size, 7, none⟩ = some (.int .i64 d.rt) := hX.cell 7
    have ca8 : y1.cell? ⟨w.heap.size, 8, none⟩ = some (.int .i64 d.rf) := hX.cell 8
    have ca9 : y1.cell? ⟨w.heap.size, 9, none⟩ = some (.int .i64 d.rn) := hX.cell 9
    have ca10 : y1.cell? ⟨w.heap.size, 10, none⟩ = some (.int .i64 d.rs) := hX.cell 10
    have ca11 : y1.cell? ⟨w.heap.size, 11, none⟩ = some (.int .i64 d.re) := hX.cell 11
    have ca12 : y1.cell? ⟨w.heap.size, 12, none⟩ = some (.int .i64 d.ro) := hX.cell 12
    have lt_ca := hX.lt
    have q_ca0 := fun d os => cell_regrown ca0 d os
    have q_ca1 := fun d os => cell_regrown ca1 d os
    have q_ca2 := fun d os => cell_regrown ca2 d os
    have q_ca3 := fun d os => cell_regrown ca3 d os
    have q_ca4 := fun d os => cell_regrown ca4 d os
    have q_ca5 := fun d os => cell_regrown ca5 d os
    have q_ca6 := fun d os => cell_regrown ca6 d os
    have q_ca7 := fun d os => cell_regrown ca7 d os
    have q_ca8 := fun d os => cell_regrown ca8 d os
    have q_ca9 := fun d os => cell_regrown ca9 d os
    have q_ca10 := fun d os => cell_regrown ca10 d os
    have q_ca11 := fun d os => cell_regrown ca11 d os
    have q_ca12 := fun d os => cell_regrown ca12 d os
    try simp only [List.append]
    first | refine wp_region_text_below ?_ | refine wp_region_quiet_below (by kernel_rfl) (by kernel_rfl) ?_
    repeat (go_big_quiet_step (((go_at_call 13; with_reducible exact Calls.regrown_of (dright_any d _ d1 d2 true HD.out)))))
    refine wpQuiet_nil ?_
    intro _ hqw
    obtain ⟨pq, hqw⟩ := hqw
    subst hqw
    clear q_ca0 q_ca1 q_ca2 q_ca3 q_ca4 q_ca5 q_ca6 q_ca7 q_ca8 q_ca9 q_ca10 q_ca11 q_ca12
    clear ca0 ca1 ca2 ca3 ca4 ca5 ca6 ca7 ca8 ca9 ca10 ca11 ca12 lt_ca
    have hb := below_regrown y1 pq.d pq.os
    replace HT := Lib.hid (HT.out.below hb)
    replace h := h.up hb
    replace h1 := h1.up hb
    replace hX := hX.below hb hX.lt
    replace hB := hB.trans (hb.mono hs)
    replace hs := hB.size
    clear hb
    generalize grow (redrawn y1 pq.d) pq.os = y2 at *
    go_wp2_with fail
    refine (dparse_any A1 n1 c1 (wordsD d) y2 HN1.out hb1 (fun x hx => Nat.le_trans (words_small HD.out x hx) (by unfold maxLen; omega)) h1 d 0 (words_parse HD.out)).mono ?_
    rintro e y3 ⟨rfl, hb⟩
    replace HT := Lib.hid (HT.out.below hb)
    clear h1 HN1 HD
    replace h := h.up hb
    replace hX := hX.below hb hX.lt
    replace hB := hB.trans (hb.mono hs)
    replace hs := hB.size
    clear hb
    go_upto_region 9 with fail
    have hE := Blok.new y3 27 #[.int .i64 d.op, .int .i64 d.kd, .int .i64 d.id, .int .i64 d.fr, .int .i64 d.tn, .int .i64 d.st, .int .i64 d.en, .int .i64 d.rt, .int .i64 d.rf, .int .i64 d.rn, .int .i64 d.rs, .int .i64 d.re, .int .i64 d.ro]
    have hb : Below y3.heap.size y3 (y3.alloc (.cells #[.int .i64 d.op, .int .i64 d.kd, .int .i64 d.id, .int .i64 d.fr, .int .i64 d.tn, .int .i64 d.st, .int .i64 d.en, .int .i64 d.rt, .int .i64 d.rf, .int .i64 d.rn, .int .i64 d.rs, .int .i64 d.re, .int .i64 d.ro] 27)) := by (repeat (first | exact Below.refl _ _ | refine Below.alloc ?_ (by first | omega | (simp; done) | (simp; omega)) _ | refine Below.setCell ?_ (by first | omega | (simp; done) | (simp; omega)) _ | refine Below.drew ?_))
    replace HT := Lib.hid (HT.out.below hb)
    replace h := h.up hb
    replace hX := hX.below hb hX.lt
    replace hB := hB.trans (hb.mono hs)
    replace hs := hB.size
    clear hb
    generalize y3.alloc (.cells #[.int .i64 d.op, .int .i64 d.kd, .int .i64 d.id, .int .i64 d.fr, .int .i64 d.tn, .int .i64 d.st, .int .i64 d.en, .int .i64 d.rt, .int .i64 d.rf, .int .i64 d.rn, .int .i64 d.rs, .int .i64 d.re, .int .i64 d.ro] 27) = y4 at *
    generalize hzz : y3.heap.size = be at *
    clear hzz
    have ca0 : y4.cell? ⟨w.heap.size, 0, none⟩ = some (.int .i64 d.op) := hX.cell 0
    have ca1 : y4.cell? ⟨w.heap.size, 1, none⟩ = some (.int .i64 d.kd) := hX.cell 1
    have ca2 : y4.cell? ⟨w.heap.size, 2, none⟩ = some (.int .i64 d.id) := hX.cell 2
    have ca3 : y4.cell? ⟨w.heap.size, 3, none⟩ = some (.int .i64 d.fr) := hX.cell 3
    have ca4 : y4.cell? ⟨w.heap.size, 4, none⟩ = some (.int .i64 d.tn) := hX.cell 4
    have ca5 : y4.cell? ⟨w.heap.size, 5, none⟩ = some (.int .i64 d.st) := hX.cell 5
    have ca6 : y4.cell? ⟨w.heap.size, 6, none⟩ = some (.int .i64 d.en) := hX.cell 6
    have ca7 : y4.cell? ⟨w.heap.size, 7, none⟩ = some (.int .i64 d.rt) := hX.cell 7
    have ca8 : y4.cell? ⟨w.heap.size, 8, none⟩ = some (.int .i64 d.rf) := hX.cell 8
    have ca9 : y4.cell? ⟨w.heap.size, 9, none⟩ = some (.int .i64 d.rn) := hX.cell 9
    have ca10 : y4.cell? ⟨w.heap.size, 10, none⟩ = some (.int .i64 d.rs) := hX.cell 10
    have ca11 : y4.cell? ⟨w.heap.size, 11, none⟩ = some (.int .i64 d.re) := hX.cell 11
    have ca12 : y4.cell? ⟨w.heap.size, 12, none⟩ = some (.int .i64 d.ro) := hX.cell 12
    have lt_ca := hX.lt
    have cg0 : y4.cell? ⟨be, 0, none⟩ = some (.int .i64 d.op) := hE.cell 0
    have cg1 : y4.cell? ⟨be, 1, none⟩ = some (.int .i64 d.kd) := hE.cell 1
    have cg2 : y4.cell? ⟨be, 2, none⟩ = some (.int .i64 d.id) := hE.cell 2
    have cg3 : y4.cell? ⟨be, 3, none⟩ = some (.int .i64 d.fr) := hE.cell 3
    have cg4 : y4.cell? ⟨be, 4, none⟩ = some (.int .i64 d.tn) := hE.cell 4
    have cg5 : y4.cell? ⟨be, 5, none⟩ = some (.int .i64 d.st) := hE.cell 5
    have cg6 : y4.cell? ⟨be, 6, none⟩ = some (.int .i64 d.en) := hE.cell 6
    have cg7 : y4.cell? ⟨be, 7, none⟩ = some (.int .i64 d.rt) := hE.cell 7
    have cg8 : y4.cell? ⟨be, 8, none⟩ = some (.int .i64 d.rf) := hE.cell 8
    have cg9 : y4.cell? ⟨be, 9, none⟩ = some (.int .i64 d.rn) := hE.cell 9
    have cg10 : y4.cell? ⟨be, 10, none⟩ = some (.int .i64 d.rs) := hE.cell 10
    have cg11 : y4.cell? ⟨be, 11, none⟩ = some (.int .i64 d.re) := hE.cell 11
    have cg12 : y4.cell? ⟨be, 12, none⟩ = some (.int .i64 d.ro) := hE.cell 12
    have lt_cg := hE.lt
    have hNE : ∀ w0 : World, (binOp .neq 27 (.agg #[.int .i64 d.op, .int .i64 d.kd, .int .i64 d.id, .int .i64 d.fr, .int .i64 d.tn, .int .i64 d.st, .int .i64 d.en, .int .i64 d.rt, .int .i64 d.rf, .int .i64 d.rn, .int .i64 d.rs, .int .i64 d.re, .int .i64 d.ro]) (.agg #[.int .i64 d.op, .int .i64 d.kd, .int .i64 d.id, .int .i64 d.fr, .int .i64 d.tn, .int .i64 d.st, .int .i64 d.en, .int .i64 d.rt, .int .i64 d.rf, .int .i64 d.rn, .int .i64 d.rs, .int .i64 d.re, .int .i64 d.ro])).run Tryd.prog w0 = .ok (.bool false) w0 := fun w0 => by have h := neqDr d d w0; simpa using h
    clear hX hE
    have q_ca0 := fun d os => cell_regrown ca0 d os
    have q_ca1 := fun d os => cell_regrown ca1 d os
    have q_ca2 := fun d os => cell_regrown ca2 d os
    have q_ca3 := fun d os => cell_regrown ca3 d os
    have q_ca4 := fun d os => cell_regrown ca4 d os
    have q_ca5 := fun d os => cell_regrown ca5 d os
    have q_ca6 := fun d os => cell_regrown ca6 d os
    have q_ca7 := fun d os => cell_regrown ca7 d os
    have q_ca8 := fun d os => cell_regrown ca8 d os
    have q_ca9 := fun d os => cell_regrown ca9 d os
    have q_ca10 := fun d os => cell_regrown ca10 d os
    have q_ca11 := fun d os => cell_regrown ca11 d os
    have q_ca12 := fun d os => cell_regrown ca12 d os
    have q_cg0 := fun d os => cell_regrown cg0 d os
    have q_cg1 := fun d os => cell_regrown cg1 d os
    have q_cg2 := fun d os => cell_regrown cg2 d os
    have q_cg3 := fun d os => cell_regrown cg3 d os
    have q_cg4 := fun d os => cell_regrown cg4 d os
    have q_cg5 := fun d os => cell_regrown cg5 d os
    have q_cg6 := fun d os => cell_regrown cg6 d os
    have q_cg7 := fun d os => cell_regrown cg7 d os
    have q_cg8 := fun d os => cell_regrown cg8 d os
    have q_cg9 := fun d os => cell_regrown cg9 d os
    have q_cg10 := fun d os => cell_regrown cg10 d os
    have q_cg11 := fun d os => cell_regrown cg11 d os
    have q_cg12 := fun d os => cell_regrown cg12 d os
    try simp only [List.append]
    first | refine wp_region_text_below ?_ | refine wp_region_quiet_below (by kernel_rfl) (by kernel_rfl) ?_
    repeat (go_big_quiet_step ((fail)))
    refine wpQuiet_nil ?_
    intro _ hqw
    obtain ⟨pq, hqw⟩ := hqw
    subst hqw
    clear q_ca0 q_ca1 q_ca2 q_ca3 q_ca4 q_ca5 q_ca6 q_ca7 q_ca8 q_ca9 q_ca10 q_ca11 q_ca12 q_cg0 q_cg1 q_cg2 q_cg3 q_cg4 q_cg5 q_cg6 q_cg7 q_cg8 q_cg9 q_cg10 q_cg11 q_cg12 hNE
    clear ca0 ca1 ca2 ca3 ca4 ca5 ca6 ca7 ca8 ca9 ca10 ca11 ca12 lt_ca
    clear cg0 cg1 cg2 cg3 cg4 cg5 cg6 cg7 cg8 cg9 cg10 cg11 cg12 lt_cg
    have hb := below_regrown y4 pq.d pq.os
    replace HT := Lib.hid (HT.out.below hb)
    replace h := h.up hb
    replace hB := hB.trans (hb.mono hs)
    replace hs := hB.size
    clear hb
    generalize grow (redrawn y4 pq.d) pq.os = y5 at *
    go_wp2_with fail
    refine (dparse_any A n c l y5 HL.out hn5 HSZ.out h z q HZ.out).mono ?_
    rintro e u0 ⟨rfl, hb⟩
    replace HT := Lib.hid (HT.out.below hb)
    replace h := h.up hb
    replace hB := hB.trans (hb.mono hs)
    replace hs := hB.size
    clear hb
    go_upto_region 12 with fail
    have hZ := Blok.new u0 27 #[.int .i64 z.op, .int .i64 z.kd, .int .i64 z.id, .int .i64 z.fr, .int .i64 z.tn, .int .i64 z.st, .int .i64 z.en, .int .i64 z.rt, .int .i64 z.rf, .int .i64 z.rn, .int .i64 z.rs, .int .i64 z.re, .int .i64 z.ro]
    have hb : Below u0.heap.size u0 (u0.alloc (.cells #[.int .i64 z.op, .int .i64 z.kd, .int .i64 z.id, .int .i64 z.fr, .int .i64 z.tn, .int .i64 z.st, .int .i64 z.en, .int .i64 z.rt, .int .i64 z.rf, .int .i64 z.rn, .int .i64 z.rs, .int .i64 z.re, .int .i64 z.ro] 27)) := by (repeat (first | exact Below.refl _ _ | refine Below.alloc ?_ (by first | omega | (simp; done) | (simp; omega)) _ | refine Below.setCell ?_ (by first | omega | (simp; done) | (simp; omega)) _ | refine Below.drew ?_))
    replace HT := Lib.hid (HT.out.below hb)
    replace h := h.up hb
    replace hB := hB.trans (hb.mono hs)
    replace hs := hB.size
    clear hb
    generalize u0.alloc (.cells #[.int .i64 z.op, .int .i64 z.kd, .int .i64 z.id, .int .i64 z.fr, .int .i64 z.tn, .int .i64 z.st, .int .i64 z.en, .int .i64 z.rt, .int .i64 z.rf, .int .i64 z.rn, .int .i64 z.rs, .int .i64 z.re, .int .i64 z.ro] 27) = u1 at *
    generalize hzz : u0.heap.size = bz at *
    clear hzz
    by_cases hq : q = 0
    · subst hq
      have hzr := parse_words HZ.out
      have HR := Lib.hid hzr.1
      have HW := Lib.hid hzr.2
      have hop := right_ops hzr.1
      have z1 := hop.1
      have z2 := hop.2
      clear hzr hop HZ
      have ck0 : u1.cell? ⟨bz, 0, none⟩ = some (.int .i64 z.op) := hZ.cell 0
      have ck1 : u1.cell? ⟨bz, 1, none⟩ = some (.int .i64 z.kd) := hZ.cell 1
      have ck2 : u1.cell? ⟨bz, 2, none⟩ = some (.int .i64 z.id) := hZ.cell 2
      have ck3 : u1.cell? ⟨bz, 3, none⟩ = some (.int .i64 z.fr) := hZ.cell 3
      have ck4 : u1.cell? ⟨bz, 4, none⟩ = some (.int .i64 z.tn) := hZ.cell 4
      have ck5 : u1.cell? ⟨bz, 5, none⟩ = some (.int .i64 z.st) := hZ.cell 5
      have ck6 : u1.cell? ⟨bz, 6, none⟩ = some (.int .i64 z.en) := hZ.cell 6
      have ck7 : u1.cell? ⟨bz, 7, none⟩ = some (.int .i64 z.rt) := hZ.cell 7
      have ck8 : u1.cell? ⟨bz, 8, none⟩ = some (.int .i64 z.rf) := hZ.cell 8
      have ck9 : u1.cell? ⟨bz, 9, none⟩ = some (.int .i64 z.rn) := hZ.cell 9
      have ck10 : u1.cell? ⟨bz, 10, none⟩ = some (.int .i64 z.rs) := hZ.cell 10
      have ck11 : u1.cell? ⟨bz, 11, none⟩ = some (.int .i64 z.re) := hZ.cell 11
      have ck12 : u1.cell? ⟨bz, 12, none⟩ = some (.int .i64 z.ro) := hZ.cell 12
      have lt_ck := hZ.lt
      go_wp2_with fail
      clear ck0 ck1 ck2 ck3 ck4 ck5 ck6 ck7 ck8 ck9 ck10 ck11 ck12 lt_ck
      refine (dwords_yes z u1 z1 z2 HR.out HT.out).mono ?_
      rintro e u2 ⟨v, rfl, hv, hb⟩
      have hlz : 2 + (numsD z).length = n := by rw [← words_len_eq, HW.out]; exact HL.out
      rw [HW.out, hlz] at hv
      clear hlz HT
      obtain ⟨A3, c3, rfl⟩ := slice_of_own hv
      have h3 := Sl.of_own hv
      clear hv
      replace h := h.up hb
      replace hZ := hZ.below hb hZ.lt
      replace hB := hB.trans (hb.mono hs)
      replace hs := hB.size
      clear hb
      have HQ1 : Hid (∀ dd os, Sl (grow (redrawn u2 dd) os) (grow (redrawn u2 dd) os).heap.size 1 A n c (vs l)) := fun dd os => h.up (below_regrown u2 dd os)
      have HQ2 : Hid (∀ dd os, Sl (grow (redrawn u2 dd) os) (grow (redrawn u2 dd) os).heap.size 1 A3 n c3 (vs l)) := fun dd os => h3.up (below_regrown u2 dd os)
      have ck0 : u2.cell? ⟨bz, 0, none⟩ = some (.int .i64 z.op) := hZ.cell 0
      have ck1 : u2.cell? ⟨bz, 1, none⟩ = some (.int .i64 z.kd) := hZ.cell 1
      have ck2 : u2.cell? ⟨bz, 2, none⟩ = some (.int .i64 z.id) := hZ.cell 2
      have ck3 : u2.cell? ⟨bz, 3, none⟩ = some (.int .i64 z.fr) := hZ.cell 3
      have ck4 : u2.cell? ⟨bz, 4, none⟩ = some (.int .i64 z.tn) := hZ.cell 4
      have ck5 : u2.cell? ⟨bz, 5, none⟩ = some (.int .i64 z.st) := hZ.cell 5
      have ck6 : u2.cell? ⟨bz, 6, none⟩ = some (.int .i64 z.en) := hZ.cell 6
      have ck7 : u2.cell? ⟨bz, 7, none⟩ = some (.int .i64 z.rt) := hZ.cell 7
      have ck8 : u2.cell? ⟨bz, 8, none⟩ = some (.int .i64 z.rf) := hZ.cell 8
      have ck9 : u2.cell? ⟨bz, 9, none⟩ = some (.int .i64 z.rn) := hZ.cell 9
      have ck10 : u2.cell? ⟨bz, 10, none⟩ = some (.int .i64 z.rs) := hZ.cell 10
      have ck11 : u2.cell? ⟨bz, 11, none⟩ = some (.int .i64 z.re) := hZ.cell 11
      have ck12 : u2.cell? ⟨bz, 12, none⟩ = some (.int .i64 z.ro) := hZ.cell 12
      have lt_ck := hZ.lt
      clear h h3 hZ
      go_upto_region 15 with fail
      have q_ck0 := fun d os => cell_regrown ck0 d os
      have q_ck1 := fun d os => cell_regrown ck1 d os
      have q_ck2 := fun d os => cell_regrown ck2 d os
      have q_ck3 := fun d os => cell_regrown ck3 d os
      have q_ck4 := fun d os => cell_regrown ck4 d os
      have q_ck5 := fun d os => cell_regrown ck5 d os
      have q_ck6 := fun d os => cell_regrown ck6 d os
      have q_ck7 := fun d os => cell_regrown ck7 d os
      have q_ck8 := fun d os => cell_regrown ck8 d os
      have q_ck9 := fun d os => cell_regrown ck9 d os
      have q_ck10 := fun d os => cell_regrown ck10 d os
      have q_ck11 := fun d os => cell_regrown ck11 d os
      have q_ck12 := fun d os => cell_regrown ck12 d os
      try simp only [List.append]
      first | refine wp_region_text_below ?_ | refine wp_region_quiet_below (by kernel_rfl) (by kernel_rfl) ?_
      repeat (go_big_quiet_step ((first | (go_at_call 15; with_reducible exact Calls.regrown_of (dsame_is A3 A n c3 n c l l true (decide_eq_true rfl) _ HL.out HL.out hn5 (HQ2.out _ _) (HQ1.out _ _))) | (go_at_call 13; with_reducible exact Calls.regrown_of (dright_any z _ z1 z2 true HR.out)))))
      refine wpQuiet_nil ?_
      intro _ hqw
      obtain ⟨pq, hqw⟩ := hqw
      subst hqw
      have hfin := hB.trans ((below_regrown u2 pq.d pq.os).mono hs)
      clear q_ck0 q_ck1 q_ck2 q_ck3 q_ck4 q_ck5 q_ck6 q_ck7 q_ck8 q_ck9 q_ck10 q_ck11 q_ck12 HQ1 HQ2
      clear ck0 ck1 ck2 ck3 ck4 ck5 ck6 ck7 ck8 ck9 ck10 ck11 ck12 lt_ck
      generalize grow (redrawn u2 pq.d) pq.os = u3 at *
      go_wp2
      go_ret
      exact ⟨rfl, hfin⟩
    · have hz0 := parse_none HZ.out hq
      obtain ⟨hz1, hz2⟩ := hz0
      subst hz1
      clear HT HZ h hq
      have ck0 : u1.cell? ⟨bz, 0, none⟩ = some (.int .i64 0) := hZ.cell 0
      have ck1 : u1.cell? ⟨bz, 1, none⟩ = some (.int .i64 0) := hZ.cell 1
      have ck2 : u1.cell? ⟨bz, 2, none⟩ = some (.int .i64 0) := hZ.cell 2
      have ck3 : u1.cell? ⟨bz, 3, none⟩ = some (.int .i64 0) := hZ.cell 3
      have ck4 : u1.cell? ⟨bz, 4, none⟩ = some (.int .i64 0) := hZ.cell 4
      have ck5 : u1.cell? ⟨bz, 5, none⟩ = some (.int .i64 0) := hZ.cell 5
      have ck6 : u1.cell? ⟨bz, 6, none⟩ = some (.int .i64 0) := hZ.cell 6
      have ck7 : u1.cell? ⟨bz, 7, none⟩ = some (.int .i64 0) := hZ.cell 7
      have ck8 : u1.cell? ⟨bz, 8, none⟩ = some (.int .i64 0) := hZ.cell 8
      have ck9 : u1.cell? ⟨bz, 9, none⟩ = some (.int .i64 0) := hZ.cell 9
      have ck10 : u1.cell? ⟨bz, 10, none⟩ = some (.int .i64 0) := hZ.cell 10
      have ck11 : u1.cell? ⟨bz, 11, none⟩ = some (.int .i64 0) := hZ.cell 11
      have ck12 : u1.cell? ⟨bz, 12, none⟩ = some (.int .i64 0) := hZ.cell 12
      have lt_ck := hZ.lt
      have hEQ : ∀ w0 : World, (binOp .eql 27 (.agg #[.int .i64 0, .int .i64 0, .int .i64 0, .int .i64 0, .int .i64 0, .int .i64 0, .int .i64 0, .int .i64 0, .int .i64 0, .int .i64 0, .int .i64 0, .int .i64 0, .int .i64 0]) (.agg #[.int .i64 0, .int .i64 0, .int .i64 0, .int .i64 0, .int .i64 0, .int .i64 0, .int .i64 0, .int .i64 0, .int .i64 0, .int .i64 0, .int .i64 0, .int .i64 0, .int .i64 0])).run Tryd.prog w0 = .ok (.bool true) w0 := fun w0 => by have h := eqlDr zeroDr zeroDr w0; simpa [zeroDr] using h
      clear hZ
      rcases hz2 with rfl | rfl
      all_goals
        go_upto_region 13 with fail
        have q_ck0 := fun d os => cell_regrown ck0 d os
        have q_ck1 := fun d os => cell_regrown ck1 d os
        have q_ck2 := fun d os => cell_regrown ck2 d os
        have q_ck3 := fun d os => cell_regrown ck3 d os
        have q_ck4 := fun d os => cell_regrown ck4 d os
        have q_ck5 := fun d os => cell_regrown ck5 d os
        have q_ck6 := fun d os => cell_regrown ck6 d os
        have q_ck7 := fun d os => cell_regrown ck7 d os
        have q_ck8 := fun d os => cell_regrown ck8 d os
        have q_ck9 := fun d os => cell_regrown ck9 d os
        have q_ck10 := fun d os => cell_regrown ck10 d os
        have q_ck11 := fun d os => cell_regrown ck11 d os
        have q_ck12 := fun d os => cell_regrown ck12 d os
        try simp only [List.append]
        first | refine wp_region_text_below ?_ | refine wp_region_quiet_below (by kernel_rfl) (by kernel_rfl) ?_
        repeat (go_big_quiet_step ((fail)))
        refine wpQuiet_nil ?_
        intro _ hqw
        obtain ⟨pq, hqw⟩ := hqw
        subst hqw
        have hfin := hB.trans ((below_regrown u1 pq.d pq.os).mono hs)
        clear q_ck0 q_ck1 q_ck2 q_ck3 q_ck4 q_ck5 q_ck6 q_ck7 q_ck8 q_ck9 q_ck10 q_ck11 q_ck12 hEQ
        clear ck0 ck1 ck2 ck3 ck4 ck5 ck6 ck7 ck8 ck9 ck10 ck11 ck12 lt_ck
        generalize grow (redrawn u1 pq.d) pq.os = u3 at *
        go_wp2
        go_ret
        exact ⟨rfl, hfin⟩
theorem directBack_walk (a0 a1 a2 a3 a4 a5 a6 a7 a8 a9 a10 a11 a12 : Int) (A : Option Addr) (n c : Nat) (l : List Bytes) (ha : ∀ m ∈ [a0, a1, a2, a3, a4, a5, a6, a7, a8, a9, a10, a11, a12], (Lit.int .i64 m).wf = true) (hl : l.length = n) (hsz : ∀ x ∈ l, x.length ≤ maxLen) (w : World) (ht : TenTab w) (h : Sl w w.heap.size 1 A n c (vs l)) :
    Calls Tryd.prog 4 #[.agg #[.int .i64 a0, .int .i64 a1, .int .i64 a2, .int .i64 a3, .int .i64 a4, .int .i64 a5, .int .i64 a6, .int .i64 a7, .int .i64 a8, .int .i64 a9, .int .i64 a10, .int .i64 a11, .int .i64 a12], .slice A n c] w fun e w' => e = .returned (.bool true) ∧ Below w.heap.size w w' :=
  directBack_any ⟨a0, a1, a2, a3, a4, a5, a6, a7, a8, a9, a10, a11, a12⟩ (ha _ (by simp)) (ha _ (by simp)) A n c l hl hsz w ht h
theorem directBack_own : ownKnob Tryd.prog.godebug = none := by kernel_rfl
theorem directBack_laidOut : laidOutB Tryd.prog = true := by kernel_rfl
theorem directBack_door (os : Os) (args : Array Value) : laidMetH Tryd.prog Rows.directBackRow.laid ((World.doorLaid Tryd.prog 400 os).forCall (fun _ _ => 0) ⟨#[], args, []⟩).memory :=
  laidMetH_of_parts3 (fuel := 8) (laidMet_of_run' 8 (by kernel_rfl) (by kernel_rfl)) (by kernel_rfl) (by kernel_rfl)

set_option maxHeartbeats 1000000 in
set_option maxRecDepth 100000 in
theorem directBack_lifted (os : Os) (started : os.Started) (H : Type) (enc : TypeId × Value → H) :
    ReturnsInHanded {} Tryd.checked os 4 .any (fun w args => (Rows.directBackSpec.pre enc Tryd.prog Tryd.f4 [] false w args ∧ laidMetH Tryd.prog Rows.directBackRow.laid w) ∧ sizedMet enc Tryd.prog Tryd.f4 (OpenSpec.ofChange Rows.directBackSpec) false w args)
      (Rows.directBackSpec.post enc Tryd.prog Tryd.f4 false true false false) := by
  refine returnsInHanded_of_change_and (C := Tryd.checked) (X := fun w _ => laidMetH Tryd.prog Rows.directBackRow.laid w) (fun _ _ _ hh h => h.of_heap hh) directBack_own started (by kernel_rfl) Tryd.func4
    (ChangeSpec.witness_shaped (enc := enc) (C := Tryd.checked) (os := os) (X := fun w _ => laidMetH Tryd.prog Rows.directBackRow.laid w) false (World.doorLaid Tryd.prog 400 os) #[.agg #[.int .i64 0, .int .i64 0, .int .i64 0, .int .i64 0, .int .i64 0, .int .i64 0, .int .i64 0, .int .i64 0, .int .i64 0, .int .i64 0, .int .i64 0, .int .i64 0, .int .i64 0], .slice none 0 0] 8 rfl (World.shaped_of_RefB (by kernel_rfl) (by kernel_rfl)) (by kernel_rfl) (by kernel_rfl) (by kernel_rfl) (directBack_door os _)) ?_
  intro W base args ds gs before hval0 hW _ _ hL _
  have hval : ∀ (j : Nat) t v, Tryd.f4.params[j]? = some t → args[j]? = some v → Value.okWide Tryd.prog W .any base t v := hval0
  have hW' := hW
  obtain ⟨p, q, hA0, hV, rfl, hfz, hnd⟩ := hW
  have hA : DataW.TrodAll enc Tryd.prog W 0 (fun _ => true) true Tryd.f4.params.toList args.toList ds p := hA0
  rw [Tryd.params4] at hA hval
  obtain ⟨v0, vs0, d0, ds0, p0, q0, hargs, rfl, rfl, h0, r0⟩ := trodAll_cons hA
  obtain ⟨v1, vs1, d1, ds1, p1, q1, rfl, rfl, rfl, h1, r1⟩ := trodAll_cons r0
  obtain ⟨rfl, rfl, rfl⟩ := trodAll_nil r1
  obtain rfl : args = #[v0, v1] := by cases args; simp_all
  obtain ⟨rfl, rfl⟩ := trodVars_none hV
  obtain ⟨n0, e0, l0, w0⟩ := open_flat 4 Tryd.underlying27 (by kernel_rfl) (hval 0 27 v0 rfl rfl) h0
  obtain ⟨a0_0, a0_1, a0_2, a0_3, a0_4, a0_5, a0_6, a0_7, a0_8, a0_9, a0_10, a0_11, a0_12, rfl⟩ : ∃ a0_0 a0_1 a0_2 a0_3 a0_4 a0_5 a0_6 a0_7 a0_8 a0_9 a0_10 a0_11 a0_12 : Int, n0 = [a0_0, a0_1, a0_2, a0_3, a0_4, a0_5, a0_6, a0_7, a0_8, a0_9, a0_10, a0_11, a0_12] := by
    rw [show Tryd.prog.cellsOf 27 = 13 by kernel_rfl] at l0
    match n0, l0 with
    | [a0_0, a0_1, a0_2, a0_3, a0_4, a0_5, a0_6, a0_7, a0_8, a0_9, a0_10, a0_11, a0_12], _ => exact ⟨_, _, _, _, _, _, _, _, _, _, _, _, _, rfl⟩
  obtain rfl : v0 = .agg #[.int .i64 a0_0, .int .i64 a0_1, .int .i64 a0_2, .int .i64 a0_3, .int .i64 a0_4, .int .i64 a0_5, .int .i64 a0_6, .int .i64 a0_7, .int .i64 a0_8, .int .i64 a0_9, .int .i64 a0_10, .int .i64 a0_11, .int .i64 a0_12] := e0
  obtain ⟨A1, n1, c1, ns1, rfl, hl1, nl1, w1⟩ := open_texts Tryd.underlying28 Tryd.underlying9 (by kernel_rfl) (hval 1 28 v1 rfl rfl) h1
  clear hA0 hval0
  refine (directBack_walk a0_0 a0_1 a0_2 a0_3 a0_4 a0_5 a0_6 a0_7 a0_8 a0_9 a0_10 a0_11 a0_12 A1 n1 c1 ns1 w0 nl1 w1 W (ten_of_laid hL) hl1).mono fun e W' ⟨he, bel⟩ => ?_
  subst he
  exact ⟨_, rfl, law_post directBack_laidOut (by kernel_rfl) rfl Tryd.underlying4 rfl rfl hW' bel⟩

theorem directBack_holds : Rows.DirectBackSaid :=
  OpenClaim.holds_of_wide 4 Tryd.f4 rfl rfl rfl rfl rfl rfl rfl ⟨rfl, rfl, rfl, rfl, rfl⟩ rfl rfl rfl rfl rfl (by kernel_rfl) Tryd.func4 (by kernel_rfl)
    (of_decide_eq_true (by kernel_rfl)) (by unfold Func.isWrapper; first | (rw [if_pos (by decide +kernel)]; kernel_rfl) | (rw [if_neg (by decide +kernel)]; exact ⟨rfl, rfl⟩))
    (fun os started H enc _ => directBack_lifted os started H enc)

theorem directBack_proved : Rows.DirectBackCardSaid :=
  Claim7.holds_tied_plain_at .later [] Rows.directBackCard.laidKinds true Rows.directBackCard.stood.harness false
    directBack_holds (fun _ h => by cases h) (by kernel_rfl) (fun _ h => by cases h) directBack_row_tie rfl ⟨rfl, rfl⟩ (by kernel_rfl) rfl
    (fun f fn hf hfn => by
      obtain rfl : f = 4 := Option.some.inj ((show Tryd.prog.funcNamed "felucca/feluccalaw04.DirectBack" = some 4 by kernel_rfl).symm.trans hf) |>.symm
      obtain rfl : fn = Tryd.f4 := (Option.some.inj (Tryd.func4.symm.trans hfn)).symm
      exact ⟨by kernel_rfl, fun j t ht => by
        rw [Tryd.params4] at ht
        have hm : t ∈ [27, 28] := by simpa using Array.mem_of_getElem? ht
        have hall : ([27, 28].all fun u => !Tryd.prog.wantsStandIn u) = true := by kernel_rfl
        exact (show Tryd.prog.wantsStandIn t = false by simpa using List.all_eq_true.1 hall t hm)⟩)
    (by kernel_rfl)
#print axioms directBack_proved
end Go.Proofs.YtkdfloeglknmnaaDoor
