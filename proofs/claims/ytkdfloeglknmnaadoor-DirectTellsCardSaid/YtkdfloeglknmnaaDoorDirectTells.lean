
/- Which directives are right, their words, and what words say: the program tells what the document's own answer tells: DirectTells returns true, for each directive and all words. It reads a table of the library's. -/
import Derived.Test.YtkdfloeglknmnaaDoorRows
import Derived.Test.YtkdfloeglknmnaaDoorTie
import Derived.Test.YtkdfloeglknmnaaDoorCards
import Derived.Test.YtkdfloeglknmnaaDoorDLaw
import Derived.Test.YtkdfloeglknmnaaDoorTen04
import Derived.Test.YtkdfloeglknmnaaDoorRef04d
namespace Go.Proofs.YtkdfloeglknmnaaDoor
open Go.ChangeShapes Go.WideShapes Go.ChangeAt Go.RowKit Go.Sort
set_option linter.unusedSimpArgs false
set_option linter.unusedVariables false
set_option maxHeartbeats 16000000 in
set_option maxRecDepth 100000 in
theorem directTells_any (d : Dr) (d1 : (Lit.int .i64 d.op).wf = true) (d2 : (Lit.int .i64 d.kd).wf = true) (A : Option Addr) (n c : Nat) (l : List Bytes) (hl : l.length = n) (hsz : ∀ x ∈ l, x.length ≤ maxLen) (w : World) (ht : TenTab w) (h : Sl w w.heap.size 1 A n c (vs l)) :
    Calls Tryd.prog 3 #[.agg #[.int .i64 d.op, .int .i64 d.kd, .int .i64 d.id, .int .i64 d.fr, .int .i64 d.tn, .int .i64 d.st, .int .i64 d.en, .int .i64 d.rt, .int .i64 d.rf, .int .i64 d.rn, .int .i64 d.rs, .int .i64 d.re, .int .i64 d.ro], .slice A n c] w fun e w' => e = .returned (.bool true) ∧ Below w.heap.size w w' := by
  have hX := Blok.new w 27 #[.int .i64 d.op, .int .i64 d.kd, .int .i64 d.id, .int .i64 d.fr, .int .i64 d.tn, .int .i64 d.st, .int .i64 d.en, .int .i64 d.rt, .int .i64 d.rf, .int .i64 d.rn, .int .i64 d.rs, .int .i64 d.re, .int .i64 d.ro]
  have hB : Below w.heap.size w (w.alloc (.cells #[.int .i64 d.op, .int .i64 d.kd, .int .i64 d.id, .int .i64 d.fr, .int .i64 d.tn, .int .i64 d.st, .int .i64 d.en, .int .i64 d.rt, .int .i64 d.rf, .int .i64 d.rn, .int .i64 d.rs, .int .i64 d.re, .int .i64 d.ro] 27)) := by (repeat (first | exact Below.refl _ _ | refine Below.alloc ?_ (by first | omega | (simp; done) | (simp; omega)) _ | refine Below.setCell ?_ (by first | omega | (simp; done) | (simp; omega)) _ | refine Below.drew ?_))
  have hs := hB.size
  have HT := Lib.hid (fun (w' : World) (hb : Below w.heap.size w w') => ht.below hb)
  replace h := h.up hB
  have HL := Lib.hid hl
  have HSZ := Lib.hid hsz
  clear ht hl hsz
  go_enter Tryd.func3, Tryd.ntmps3
  go_wp2_with fail
  generalize w.alloc (.cells #[.int .i64 d.op, .int .i64 d.kd, .int .i64 d.id, .int .i64 d.fr, .int .i64 d.tn, .int .i64 d.st, .int .i64 d.en, .int .i64 d.rt, .int .i64 d.rf, .int .i64 d.rn, .int .i64 d.rs, .int .i64 d.re, .int .i64 d.ro] 27) = x0 at *
  refine (small04_any x0 (HT.out x0 hB)).mono ?_
  rintro e y0 ⟨rfl, hb⟩
  replace h := h.up hb
  replace hX := hX.below hb hX.lt
  replace hB := hB.trans (hb.mono hs)
  replace hs := hB.size
  clear hb
  by_cases hn : 50 < n
  · clear hX h
    go_wp2
    go_ret
    exact ⟨rfl, hB⟩
  have hn5 : n ≤ 100000 := by omega
  obtain ⟨z, q, hz⟩ : ∃ z q, parseD l = (z, q) := ⟨_, _, rfl⟩
  have HZ := Lib.hid hz
  have HLL := Lib.hid h
  have HX := Lib.hid hX
  have HB := Lib.hid hB
  clear hz h hX hB hs
  go_wp2_with fail
  go_loopw [6] (fun iv wr => ∃ (i : Nat), iv = .int .i64 i ∧ i ≤ n ∧ y0 = wr) (fun iv _ => n - (intOf iv).toNat)
  case atStart => exact ⟨0, rfl, by omega, rfl⟩
  case round =>
    obtain ⟨i, rfl, hi, rfl⟩ := hrel
    by_cases hin : i < n
    · obtain ⟨ad, rfl, hab, c0⟩ := HLL.out.lst.atS HL.out hin
      by_cases hlong : 100 < (bs (gS l i)).size
      · generalize bs (gS l i) = s0 at *
        go_wp2_with fail
        go_ret
        exact ⟨rfl, HB.out⟩
      · generalize bs (gS l i) = s0 at *
        go_wp2_with fail
        go_roundw
        case rel => exact ⟨i + 1, by go_num, by omega, by first | rfl | trivial⟩
        case measure => simp [intOf]; omega
    · obtain rfl : n = i := by omega
      have h := HLL.out
      have hX := HX.out
      have hB := HB.out
      have hs := hB.size
      clear HLL HX HB hi hin
      cases hdr : rightD d
      · have HD := Lib.hid hdr
        clear hdr
        have ca0 : y0.cell? ⟨w.heap.size, 0, none⟩ = some (.int .i64 d.op) := hX.cell 0
        have ca1 : y0.cell? ⟨w.heap.size, 1, none⟩ = some (.int .i64 d.kd) := hX.cell 1
        have ca2 : y0.cell? ⟨w.heap.size, 2, none⟩ = some (.int .i64 d.id) := hX.cell 2
        have ca3 : y0.cell? ⟨w.heap.size, 3, none⟩ = some (.int .i64 d.fr) := hX.cell 3
        have ca4 : y0.cell? ⟨w.heap.size, 4, none⟩ = some (.int .i64 d.tn) := hX.cell 4
        have ca5 : y0.cell? ⟨w.heap.size, 5, none⟩ = some (.int .i64 d.st) := hX.cell 5
        have ca6 : y0.cell? ⟨w.heap.size, 6, none⟩ = some (.int .i64 d.en) := hX.cell 6
        have ca7 : y0.cell? ⟨w.heap.size, 7, none⟩ = some (.int .i64 d.rt) := hX.cell 7
        have ca8 : y0.cell? ⟨w.heap.size, 8, none⟩ = some (.int .i64 d.rf) := hX.cell 8
        have ca9 : y0.cell? ⟨w.heap.size, 9, none⟩ = some (.int .i64 d.rn) := hX.cell 9
        have ca10 : y0.cell? ⟨w.heap.size, 10, none⟩ = some (.int .i64 d.rs) := hX.cell 10
        have ca11 : y0.cell? ⟨w.heap.size, 11, none⟩ = some (.int .i64 d.re) := hX.cell 11
        have ca12 : y0.cell? ⟨w.heap.size, 12, none⟩ = some (.int .i64 d.ro) := hX.cell 12
        have lt_ca := hX.lt
        go_wp2_with fail
        clear ca0 ca1 ca2 ca3 ca4 ca5 ca6 ca7 ca8 ca9 ca10 ca11 ca12 lt_ca
        refine (dwords_no d y0 d1 d2 HD.out).mono ?_
        rintro e y1 ⟨rfl, hb⟩
        replace h := h.up hb
        replace hX := hX.below hb hX.lt
        replace hB := hB.trans (hb.mono hs)
        replace hs := hB.size
        clear hb
        have ca0 : y1.cell? ⟨w.heap.size, 0, none⟩ = some (.int .i64 d.op) := hX.cell 0
        have ca1 : y1.cell? ⟨w.heap.size, 1, none⟩ = some (.int .i64 d.kd) := hX.cell 1
        have ca2 : y1.cell? ⟨w.heap.size, 2, none⟩ = some (.int .i64 d.id) := hX.cell 2
        have ca3 : y1.cell? ⟨w.heap.size, 3, none⟩ = some (.int .i64 d.fr) := hX.cell 3
        have ca4 : y1.cell? ⟨w.heap.size, 4, none⟩ = some (.int .i64 d.tn) := hX.cell 4
        have ca5 : y1.cell? ⟨w.heap.size, 5, none⟩ = some (.int .i64 d.st) := hX.cell 5
        have ca6 : y1.cell? ⟨w.heap.size, 6, none⟩ = some (.int .i64 d.en) := hX.cell 6
        have ca7 : y1.cell? ⟨w.heap.size, 7, none⟩ = some (.int .i64 d.rt) := hX.cell 7
        have ca8 : y1.cell? ⟨w.heap.size, 8, none⟩ = some (.int .i64 d.rf) := hX.cell 8
        have ca9 : y1.cell? ⟨w.heap.size, 9, none⟩ = some (.int .i64 d.rn) := hX.cell 9
        have ca10 : y1.cell? ⟨w.heap.size, 10, none⟩ = some (.int .i64 d.rs) := hX.cell 10
        have ca11 : y1.cell? ⟨w.heap.size, 11, none⟩ = some (.int .i64 d.re) := hX.cell 11
        have ca12 : y1.cell? ⟨w.heap.size, 12, none⟩ = some (.int .i64 d.ro) := hX.cell 12
        have lt_ca := hX.lt
        go_wp2_with fail
        clear ca0 ca1 ca2 ca3 ca4 ca5 ca6 ca7 ca8 ca9 ca10 ca11 ca12 lt_ca
        refine (rwords04_no d y1 HD.out).mono ?_
        rintro e y2 ⟨rfl, hb⟩
        replace h := h.up hb
        replace hX := hX.below hb hX.lt
        replace hB := hB.trans (hb.mono hs)
        replace hs := hB.size
        clear hb
        go_wp2_with fail
        refine (dparse_any A n c l y2 HL.out hn5 HSZ.out h z q HZ.out).mono ?_
        rintro e u0 ⟨rfl, hb⟩
        replace h := h.up hb
        replace hX := hX.below hb hX.lt
        replace hB := hB.trans (hb.mono hs)
        replace hs := hB.size
        clear hb
        go_upto_region 12 with fail
        have hE := Blok.new u0 27 #[.int .i64 z.op, .int .i64 z.kd, .int .i64 z.id, .int .i64 z.fr, .int .i64 z.tn, .int .i64 z.st, .int .i64 z.en, .int .i64 z.rt, .int .i64 z.rf, .int .i64 z.rn, .int .i64 z.rs, .int .i64 z.re, .int .i64 z.ro]
        have hb : Below u0.heap.size u0 (u0.alloc (.cells #[.int .i64 z.op, .int .i64 z.kd, .int .i64 z.id, .int .i64 z.fr, .int .i64 z.tn, .int .i64 z.st, .int .i64 z.en, .int .i64 z.rt, .int .i64 z.rf, .int .i64 z.rn, .int .i64 z.rs, .int .i64 z.re, .int .i64 z.ro] 27)) := by (repeat (first | exact Below.refl _ _ | refine Below.alloc ?_ (by first | omega | (simp; done) | (simp; omega)) _ | refine Below.setCell ?_ (by first | omega | (simp; done) | (simp; omega)) _ | refine Below.drew ?_))
        replace h := h.up hb
        replace hX := hX.below hb hX.lt
        replace hB := hB.trans (hb.mono hs)
        replace hs := hB.size
        clear hb
        generalize u0.alloc (.cells #[.int .i64 z.op, .int .i64 z.kd, .int .i64 z.id, .int .i64 z.fr, .int .i64 z.tn, .int .i64 z.st, .int .i64 z.en, .int .i64 z.rt, .int .i64 z.rf, .int .i64 z.rn, .int .i64 z.rs, .int .i64 z.re, .int .i64 z.ro] 27) = u1 at *
        generalize hzz : u0.heap.size = be at *
        clear hzz
        go_wp2_with fail
        refine (rparse04_any A n c l u1 HL.out hn5 HSZ.out h z q HZ.out).mono ?_
        rintro e u2 ⟨rfl, hb⟩
        replace hX := hX.below hb hX.lt
        replace hE := hE.below hb hE.lt
        replace hB := hB.trans (hb.mono hs)
        replace hs := hB.size
        clear hb
        clear h
        go_upto_region 13 with fail
        have hF := Blok.new u2 27 #[.int .i64 z.op, .int .i64 z.kd, .int .i64 z.id, .int .i64 z.fr, .int .i64 z.tn, .int .i64 z.st, .int .i64 z.en, .int .i64 z.rt, .int .i64 z.rf, .int .i64 z.rn, .int .i64 z.rs, .int .i64 z.re, .int .i64 z.ro]
        have hb : Below u2.heap.size u2 (u2.alloc (.cells #[.int .i64 z.op, .int .i64 z.kd, .int .i64 z.id, .int .i64 z.fr, .int .i64 z.tn, .int .i64 z.st, .int .i64 z.en, .int .i64 z.rt, .int .i64 z.rf, .int .i64 z.rn, .int .i64 z.rs, .int .i64 z.re, .int .i64 z.ro] 27)) := by (repeat (first | exact Below.refl _ _ | refine Below.alloc ?_ (by first | omega | (simp; done) | (simp; omega)) _ | refine Below.setCell ?_ (by first | omega | (simp; done) | (simp; omega)) _ | refine Below.drew ?_))
        replace hX := hX.below hb hX.lt
        replace hE := hE.below hb hE.lt
        replace hB := hB.trans (hb.mono hs)
        replace hs := hB.size
        clear hb
        generalize u2.alloc (.cells #[.int .i64 z.op, .int .i64 z.kd, .int .i64 z.id, .int .i64 z.fr, .int .i64 z.tn, .int .i64 z.st, .int .i64 z.en, .int .i64 z.rt, .int .i64 z.rf, .int .i64 z.rn, .int .i64 z.rs, .int .i64 z.re, .int .i64 z.ro] 27) = u3 at *
        generalize hzz : u2.heap.size = bq at *
        clear hzz
        have hEQ : ∀ w0 : World, (binOp .eql 27 (.agg #[.int .i64 z.op, .int .i64 z.kd, .int .i64 z.id, .int .i64 z.fr, .int .i64 z.tn, .int .i64 z.st, .int .i64 z.en, .int .i64 z.rt, .int .i64 z.rf, .int .i64 z.rn, .int .i64 z.rs, .int .i64 z.re, .int .i64 z.ro]) (.agg #[.int .i64 z.op, .int .i64 z.kd, .int .i64 z.id, .int .i64 z.fr, .int .i64 z.tn, .int .i64 z.st, .int .i64 z.en, .int .i64 z.rt, .int .i64 z.rf, .int .i64 z.rn, .int .i64 z.rs, .int .i64 z.re, .int .i64 z.ro])).run Tryd.prog w0 = .ok (.bool true) w0 := fun w0 => by have h := eqlDr z z w0; simpa using h
        have ca0 : u3.cell? ⟨w.heap.size, 0, none⟩ = some (.int .i64 d.op) := hX.cell 0
        have ca1 : u3.cell? ⟨w.heap.size, 1, none⟩ = some (.int .i64 d.kd) := hX.cell 1
        have ca2 : u3.cell? ⟨w.heap.size, 2, none⟩ = some (.int .i64 d.id) := hX.cell 2
        have ca3 : u3.cell? ⟨w.heap.size, 3, none⟩ = some (.int .i64 d.fr) := hX.cell 3
        have ca4 : u3.cell? ⟨w.heap.size, 4, none⟩ = some (.int .i64 d.tn) := hX.cell 4
        have ca5 : u3.cell? ⟨w.heap.size, 5, none⟩ = some (.int .i64 d.st) := hX.cell 5
        have ca6 : u3.cell? ⟨w.heap.size, 6, none⟩ = some (.int .i64 d.en) := hX.cell 6
        have ca7 : u3.cell? ⟨w.heap.size, 7, none⟩ = some (.int .i64 d.rt) := hX.cell 7
        have ca8 : u3.cell? ⟨w.heap.size, 8, none⟩ = some (.int .i64 d.rf) := hX.cell 8
        have ca9 : u3.cell? ⟨w.heap.size, 9, none⟩ = some (.int .i64 d.rn) := hX.cell 9
        have ca10 : u3.cell? ⟨w.heap.size, 10, none⟩ = some (.int .i64 d.rs) := hX.cell 10
        have ca11 : u3.cell? ⟨w.heap.size, 11, none⟩ = some (.int .i64 d.re) := hX.cell 11
        have ca12 : u3.cell? ⟨w.heap.size, 12, none⟩ = some (.int .i64 d.ro) := hX.cell 12
        have lt_ca := hX.lt
        have cb0 : u3.cell? ⟨be, 0, none⟩ = some (.int .i64 z.op) := hE.cell 0
        have cb1 : u3.cell? ⟨be, 1, none⟩ = some (.int .i64 z.kd) := hE.cell 1
        have cb2 : u3.cell? ⟨be, 2, none⟩ = some (.int .i64 z.id) := hE.cell 2
        have cb3 : u3.cell? ⟨be, 3, none⟩ = some (.int .i64 z.fr) := hE.cell 3
        have cb4 : u3.cell? ⟨be, 4, none⟩ = some (.int .i64 z.tn) := hE.cell 4
        have cb5 : u3.cell? ⟨be, 5, none⟩ = some (.int .i64 z.st) := hE.cell 5
        have cb6 : u3.cell? ⟨be, 6, none⟩ = some (.int .i64 z.en) := hE.cell 6
        have cb7 : u3.cell? ⟨be, 7, none⟩ = some (.int .i64 z.rt) := hE.cell 7
        have cb8 : u3.cell? ⟨be, 8, none⟩ = some (.int .i64 z.rf) := hE.cell 8
        have cb9 : u3.cell? ⟨be, 9, none⟩ = some (.int .i64 z.rn) := hE.cell 9
        have cb10 : u3.cell? ⟨be, 10, none⟩ = some (.int .i64 z.rs) := hE.cell 10
        have cb11 : u3.cell? ⟨be, 11, none⟩ = some (.int .i64 z.re) := hE.cell 11
        have cb12 : u3.cell? ⟨be, 12, none⟩ = some (.int .i64 z.ro) := hE.cell 12
        have lt_cb := hE.lt
        have cg0 : u3.cell? ⟨bq, 0, none⟩ = some (.int .i64 z.op) := hF.cell 0
        have cg1 : u3.cell? ⟨bq, 1, none⟩ = some (.int .i64 z.kd) := hF.cell 1
        have cg2 : u3.cell? ⟨bq, 2, none⟩ = some (.int .i64 z.id) := hF.cell 2
        have cg3 : u3.cell? ⟨bq, 3, none⟩ = some (.int .i64 z.fr) := hF.cell 3
        have cg4 : u3.cell? ⟨bq, 4, none⟩ = some (.int .i64 z.tn) := hF.cell 4
        have cg5 : u3.cell? ⟨bq, 5, none⟩ = some (.int .i64 z.st) := hF.cell 5
        have cg6 : u3.cell? ⟨bq, 6, none⟩ = some (.int .i64 z.en) := hF.cell 6
        have cg7 : u3.cell? ⟨bq, 7, none⟩ = some (.int .i64 z.rt) := hF.cell 7
        have cg8 : u3.cell? ⟨bq, 8, none⟩ = some (.int .i64 z.rf) := hF.cell 8
        have cg9 : u3.cell? ⟨bq, 9, none⟩ = some (.int .i64 z.rn) := hF.cell 9
        have cg10 : u3.cell? ⟨bq, 10, none⟩ = some (.int .i64 z.rs) := hF.cell 10
        have cg11 : u3.cell? ⟨bq, 11, none⟩ = some (.int .i64 z.re) := hF.cell 11
        have cg12 : u3.cell? ⟨bq, 12, none⟩ = some (.int .i64 z.ro) := hF.cell 12
        have lt_cg := hF.lt
        clear hX hE hF
        have q_ca0 := fun d os => cell_regrown ca0 d os
        have q_ca1 := fun d os => cell_regrown ca1 d os
        have q_ca2 := fun d os => cell_regrown ca2 d os
        have q_ca3 := fun d os => cell_regrown ca3 d os
        have q_ca4 := fun d os => cell_regrown ca4 d os
        have q_ca5 := fun d os => cell_regrown ca5 d os
        have q_ca6 := fun d os => cell_regrown ca6 d os
        have q_ca7 := fun d os => cell_regrown ca7 d os
        have q_ca8 := fun d os => cell_regrown ca8 d os
        have q_ca9 := fun d os => cell_regrown ca9 d os
        have q_ca10 := fun d os => cell_regrown ca10 d os
        have q_ca11 := fun d os => cell_regrown ca11 d os
        have q_ca12 := fun d os => cell_regrown ca12 d os
        have q_cb0 := fun d os => cell_regrown cb0 d os
        have q_cb1 := fun d os => cell_regrown cb1 d os
        have q_cb2 := fun d os => cell_regrown cb2 d os
        have q_cb3 := fun d os => cell_regrown cb3 d os
        have q_cb4 := fun d os => cell_regrown cb4 d os
        have q_cb5 := fun d os => cell_regrown cb5 d os
        have q_cb6 := fun d os => cell_regrown cb6 d os
        have q_cb7 := fun d os => cell_regrown cb7 d os
        have q_cb8 := fun d os => cell_regrown cb8 d os
        have q_cb9 := fun d os => cell_regrown cb9 d os
        have q_cb10 := fun d os => cell_regrown cb10 d os
        have q_cb11 := fun d os => cell_regrown cb11 d os
        have q_cb12 := fun d os => cell_regrown cb12 d os
        have q_cg0 := fun d os => cell_regrown cg0 d os
        have q_cg1 := fun d os => cell_regrown cg1 d os
        have q_cg2 := fun d os => cell_regrown cg2 d os
        have q_cg3 := fun d os => cell_regrown cg3 d os
        have q_cg4 := fun d os => cell_regrown cg4 d os
        have q_cg5 := fun d os => cell_regrown cg5 d os
        have q_cg6 := fun d os => cell_regrown cg6 d os
        have q_cg7 := fun d os => cell_regrown cg7 d os
        have q_cg8 := fun d os => cell_regrown cg8 d os
        have q_cg9 := fun d os => cell_regrown cg9 d os
        have q_cg10 := fun d os => cell_regrown cg10 d os
        have q_cg11 := fun d os => cell_regrown cg11 d os
        have q_cg12 := fun d os => cell_regrown cg12 d os
        try simp only [List.append]
        first | refine wp_region_text_below ?_ | refine wp_region_quiet_below (by kernel_rfl) (by kernel_rfl) ?_
        repeat (go_big_quiet_step ((first | (go_at_call 13; with_reducible exact Calls.regrown_of (dright_any d _ d1 d2 false HD.out)) | (go_at_call 14; with_reducible exact Calls.regrown_of (rr04_any d _ false HD.out)) | (go_at_call 15; with_reducible exact Calls.regrown_of (dsame_is none none 0 0 0 0 [] [] true (by simp) _ rfl rfl (by omega) (Sl.nil0 _ _ _) (Sl.nil0 _ _ _))))))
        refine wpQuiet_nil ?_
        intro _ hqw
        obtain ⟨pq, hqw⟩ := hqw
        subst hqw
        have hfin := hB.trans ((below_regrown u3 pq.d pq.os).mono hs)
        clear q_ca0 q_ca1 q_ca2 q_ca3 q_ca4 q_ca5 q_ca6 q_ca7 q_ca8 q_ca9 q_ca10 q_ca11 q_ca12 q_cb0 q_cb1 q_cb2 q_cb3 q_cb4 q_cb5 q_cb6 q_cb7 q_cb8 q_cb9 q_cb10 q_cb11 q_cb12 q_cg0 q_cg1 q_cg2 q_cg3 q_cg4 q_cg5 q_cg6 q_cg7 q_cg8 q_cg9 q_cg10 q_cg11 q_cg12 ca0 ca1 ca2 ca3 ca4 ca5 ca6 ca7 ca8 ca9 ca10 ca11 ca12 lt_ca cb0 cb1 cb2 cb3 cb4 cb5 cb6 cb7 cb8 cb9 cb10 cb11 cb12 lt_cb cg0 cg1 cg2 cg3 cg4 cg5 cg6 cg7 cg8 cg9 cg10 cg11 cg12 lt_cg hEQ
        generalize grow (redrawn u3 pq.d) pq.os = u4 at *
        go_wp2
        go_ret
        exact ⟨rfl, hfin⟩
      · have HD := Lib.hid hdr
        clear hdr
        obtain ⟨n1, hn1⟩ : ∃ n, 2 + (numsD d).length = n := ⟨_, rfl⟩
        have hb1 : n1 ≤ 100000 := by have := nums_le d; omega
        have HN1 := Lib.hid (show (wordsD d).length = n1 by rw [words_len_eq]; exact hn1)
        have HN2 := Lib.hid hn1
        clear hn1
        have ca0 : y0.cell? ⟨w.heap.size, 0, none⟩ = some (.int .i64 d.op) := hX.cell 0
        have ca1 : y0.cell? ⟨w.heap.size, 1, none⟩ = some (.int .i64 d.kd) := hX.cell 1
        have ca2 : y0.cell? ⟨w.heap.size, 2, none⟩ = some (.int .i64 d.id) := hX.cell 2
        have ca3 : y0.cell? ⟨w.heap.size, 3, none⟩ = some (.int .i64 d.fr) := hX.cell 3
        have ca4 : y0.cell? ⟨w.heap.size, 4, none⟩ = some (.int .i64 d.tn) := hX.cell 4
        have ca5 : y0.cell? ⟨w.heap.size, 5, none⟩ = some (.int .i64 d.st) := hX.cell 5
        have ca6 : y0.cell? ⟨w.heap.size, 6, none⟩ = some (.int .i64 d.en) := hX.cell 6
        have ca7 : y0.cell? ⟨w.heap.size, 7, none⟩ = some (.int .i64 d.rt) := hX.cell 7
        have ca8 : y0.cell? ⟨w.heap.size, 8, none⟩ = some (.int .i64 d.rf) := hX.cell 8
        have ca9 : y0.cell? ⟨w.heap.size, 9, none⟩ = some (.int .i64 d.rn) := hX.cell 9
        have ca10 : y0.cell? ⟨w.heap.size, 10, none⟩ = some (.int .i64 d.rs) := hX.cell 10
        have ca11 : y0.cell? ⟨w.heap.size, 11, none⟩ = some (.int .i64 d.re) := hX.cell 11
        have ca12 : y0.cell? ⟨w.heap.size, 12, none⟩ = some (.int .i64 d.ro) := hX.cell 12
        have lt_ca := hX.lt
        go_wp2_with fail
        clear ca0 ca1 ca2 ca3 ca4 ca5 ca6 ca7 ca8 ca9 ca10 ca11 ca12 lt_ca
        refine (dwords_yes d y0 d1 d2 HD.out (HT.out y0 hB)).mono ?_
        rintro e y1 ⟨v, rfl, hv, hb⟩
        rw [HN2.out] at hv
        obtain ⟨A1, c1, rfl⟩ := slice_of_own hv
        have h1 := Sl.of_own hv
        clear hv
        replace h := h.up hb
        replace hX := hX.below hb hX.lt
        replace hB := hB.trans (hb.mono hs)
        replace hs := hB.size
        clear hb
        have ca0 : y1.cell? ⟨w.heap.size, 0, none⟩ = some (.int .i64 d.op) := hX.cell 0
        have ca1 : y1.cell? ⟨w.heap.size, 1, none⟩ = some (.int .i64 d.kd) := hX.cell 1
        have ca2 : y1.cell? ⟨w.heap.size, 2, none⟩ = some (.int .i64 d.id) := hX.cell 2
        have ca3 : y1.cell? ⟨w.heap.size, 3, none⟩ = some (.int .i64 d.fr) := hX.cell 3
        have ca4 : y1.cell? ⟨w.heap.size, 4, none⟩ = some (.int .i64 d.tn) := hX.cell 4
        have ca5 : y1.cell? ⟨w.heap.size, 5, none⟩ = some (.int .i64 d.st) := hX.cell 5
        have ca6 : y1.cell? ⟨w.heap.size, 6, none⟩ = some (.int .i64 d.en) := hX.cell 6
        have ca7 : y1.cell? ⟨w.heap.size, 7, none⟩ = some (.int .i64 d.rt) := hX.cell 7
        have ca8 : y1.cell? ⟨w.heap.size, 8, none⟩ = some (.int .i64 d.rf) := hX.cell 8
        have ca9 : y1.cell? ⟨w.heap.size, 9, none⟩ = some (.int .i64 d.rn) := hX.cell 9
        have ca10 : y1.cell? ⟨w.heap.size, 10, none⟩ = some (.int .i64 d.rs) := hX.cell 10
        have ca11 : y1.cell? ⟨w.heap.size, 11, none⟩ = some (.int .i64 d.re) := hX.cell 11
        have ca12 : y1.cell? ⟨w.heap.size, 12, none⟩ = some (.int .i64 d.ro) := hX.cell 12
        have lt_ca := hX.lt
        go_wp2_with fail
        clear ca0 ca1 ca2 ca3 ca4 ca5 ca6 ca7 ca8 ca9 ca10 ca11 ca12 lt_ca
        refine (rwords04_yes d y1 HD.out).mono ?_
        rintro e y2 ⟨v, rfl, hv, hb⟩
        rw [HN2.out] at hv
        obtain ⟨A2, c2, rfl⟩ := slice_of_own hv
        have h2 := Sl.of_own hv
        clear hv
        replace h := h.up hb
        replace h1 := h1.up hb
        replace hX := hX.below hb hX.lt
        replace hB := hB.trans (hb.mono hs)
        replace hs := hB.size
        clear hb
        go_wp2_with fail
        refine (dparse_any A n c l y2 HL.out hn5 HSZ.out h z q HZ.out).mono ?_
        rintro e u0 ⟨rfl, hb⟩
        replace h := h.up hb
        replace h1 := h1.up hb
        replace h2 := h2.up hb
        replace hX := hX.below hb hX.lt
        replace hB := hB.trans (hb.mono hs)
        replace hs := hB.size
        clear hb
        go_upto_region 12 with fail
        have hE := Blok.new u0 27 #[.int .i64 z.op, .int .i64 z.kd, .int .i64 z.id, .int .i64 z.fr, .int .i64 z.tn, .int .i64 z.st, .int .i64 z.en, .int .i64 z.rt, .int .i64 z.rf, .int .i64 z.rn, .int .i64 z.rs, .int .i64 z.re, .int .i64 z.ro]
        have hb : Below u0.heap.size u0 (u0.alloc (.cells #[.int .i64 z.op, .int .i64 z.kd, .int .i64 z.id, .int .i64 z.fr, .int .i64 z.tn, .int .i64 z.st, .int .i64 z.en, .int .i64 z.rt, .int .i64 z.rf, .int .i64 z.rn, .int .i64 z.rs, .int .i64 z.re, .int .i64 z.ro] 27)) := by (repeat (first | exact Below.refl _ _ | refine Below.alloc ?_ (by first | omega | (simp; done) | (simp; omega)) _ | refine Below.setCell ?_ (by first | omega | (simp; done) | (simp; omega)) _ | refine Below.drew ?_))
        replace h := h.up hb
        replace h1 := h1.up hb
        replace h2 := h2.up hb
        replace hX := hX.below hb hX.lt
        replace hB := hB.trans (hb.mono hs)
        replace hs := hB.size
        clear hb
        generalize u0.alloc (.cells #[.int .i64 z.op, .int .i64 z.kd, .int .i64 z.id, .int .i64 z.fr, .int .i64 z.tn, .int .i64 z.st, .int .i64 z.en, .int .i64 z.rt, .int .i64 z.rf, .int .i64 z.rn, .int .i64 z.rs, .int .i64 z.re, .int .i64 z.ro] 27) = u1 at *
        generalize hzz : u0.heap.size = be at *
        clear hzz
        go_wp2_with fail
        refine (rparse04_any A n c l u1 HL.out hn5 HSZ.out h z q HZ.out).mono ?_
        rintro e u2 ⟨rfl, hb⟩
        replace h1 := h1.up hb
        replace h2 := h2.up hb
        replace hX := hX.below hb hX.lt
        replace hE := hE.below hb hE.lt
        replace hB := hB.trans (hb.mono hs)
        replace hs := hB.size
        clear hb
        clear h
        go_upto_region 13 with fail
        have hF := Blok.new u2 27 #[.int .i64 z.op, .int .i64 z.kd, .int .i64 z.id, .int .i64 z.fr, .int .i64 z.tn, .int .i64 z.st, .int .i64 z.en, .int .i64 z.rt, .int .i64 z.rf, .int .i64 z.rn, .int .i64 z.rs, .int .i64 z.re, .int .i64 z.ro]
        have hb : Below u2.heap.size u2 (u2.alloc (.cells #[.int .i64 z.op, .int .i64 z.kd, .int .i64 z.id, .int .i64 z.fr, .int .i64 z.tn, .int .i64 z.st, .int .i64 z.en, .int .i64 z.rt, .int .i64 z.rf, .int .i64 z.rn, .int .i64 z.rs, .int .i64 z.re, .int .i64 z.ro] 27)) := by (repeat (first | exact Below.refl _ _ | refine Below.alloc ?_ (by first | omega | (simp; done) | (simp; omega)) _ | refine Below.setCell ?_ (by first | omega | (simp; done) | (simp; omega)) _ | refine Below.drew ?_))
        replace h1 := h1.up hb
        replace h2 := h2.up hb
        replace hX := hX.below hb hX.lt
        replace hE := hE.below hb hE.lt
        replace hB := hB.trans (hb.mono hs)
        replace hs := hB.size
        clear hb
        generalize u2.alloc (.cells #[.int .i64 z.op, .int .i64 z.kd, .int .i64 z.id, .int .i64 z.fr, .int .i64 z.tn, .int .i64 z.st, .int .i64 z.en, .int .i64 z.rt, .int .i64 z.rf, .int .i64 z.rn, .int .i64 z.rs, .int .i64 z.re, .int .i64 z.ro] 27) = u3 at *
        generalize hzz : u2.heap.size = bq at *
        clear hzz
        have hEQ : ∀ w0 : World, (binOp .eql 27 (.agg #[.int .i64 z.op, .int .i64 z.kd, .int .i64 z.id, .int .i64 z.fr, .int .i64 z.tn, .int .i64 z.st, .int .i64 z.en, .int .i64 z.rt, .int .i64 z.rf, .int .i64 z.rn, .int .i64 z.rs, .int .i64 z.re, .int .i64 z.ro]) (.agg #[.int .i64 z.op, .int .i64 z.kd, .int .i64 z.id, .int .i64 z.fr, .int .i64 z.tn, .int .i64 z.st, .int .i64 z.en, .int .i64 z.rt, .int .i64 z.rf, .int .i64 z.rn, .int .i64 z.rs, .int .i64 z.re, .int .i64 z.ro])).run Tryd.prog w0 = .ok (.bool true) w0 := fun w0 => by have h := eqlDr z z w0; simpa using h
        have HQ1 : Hid (∀ dd os, Sl (grow (redrawn u3 dd) os) (grow (redrawn u3 dd) os).heap.size 1 A1 n1 c1 (vs (wordsD d))) := fun dd os => h1.up (below_regrown u3 dd os)
        have HQ2 : Hid (∀ dd os, Sl (grow (redrawn u3 dd) os) (grow (redrawn u3 dd) os).heap.size 1 A2 n1 c2 (vs (wordsD d))) := fun dd os => h2.up (below_regrown u3 dd os)
        have ca0 : u3.cell? ⟨w.heap.size, 0, none⟩ = some (.int .i64 d.op) := hX.cell 0
        have ca1 : u3.cell? ⟨w.heap.size, 1, none⟩ = some (.int .i64 d.kd) := hX.cell 1
        have ca2 : u3.cell? ⟨w.heap.size, 2, none⟩ = some (.int .i64 d.id) := hX.cell 2
        have ca3 : u3.cell? ⟨w.heap.size, 3, none⟩ = some (.int .i64 d.fr) := hX.cell 3
        have ca4 : u3.cell? ⟨w.heap.size, 4, none⟩ = some (.int .i64 d.tn) := hX.cell 4
        have ca5 : u3.cell? ⟨w.heap.size, 5, none⟩ = some (.int .i64 d.st) := hX.cell 5
        have ca6 : u3.cell? ⟨w.heap.size, 6, none⟩ = some (.int .i64 d.en) := hX.cell 6
        have ca7 : u3.cell? ⟨w.heap.size, 7, none⟩ = some (.int .i64 d.rt) := hX.cell 7
        have ca8 : u3.cell? ⟨w.heap.size, 8, none⟩ = some (.int .i64 d.rf) := hX.cell 8
        have ca9 : u3.cell? ⟨w.heap.size, 9, none⟩ = some (.int .i64 d.rn) := hX.cell 9
        have ca10 : u3.cell? ⟨w.heap.size, 10, none⟩ = some (.int .i64 d.rs) := hX.cell 10
        have ca11 : u3.cell? ⟨w.heap.size, 11, none⟩ = some (.int .i64 d.re) := hX.cell 11
        have ca12 : u3.cell? ⟨w.heap.size, 12, none⟩ = some (.int .i64 d.ro) := hX.cell 12
        have lt_ca := hX.lt
        have cb0 : u3.cell? ⟨be, 0, none⟩ = some (.int .i64 z.op) := hE.cell 0
        have cb1 : u3.cell? ⟨be, 1, none⟩ = some (.int .i64 z.kd) := hE.cell 1
        have cb2 : u3.cell? ⟨be, 2, none⟩ = some (.int .i64 z.id) := hE.cell 2
        have cb3 : u3.cell? ⟨be, 3, none⟩ = some (.int .i64 z.fr) := hE.cell 3
        have cb4 : u3.cell? ⟨be, 4, none⟩ = some (.int .i64 z.tn) := hE.cell 4
        have cb5 : u3.cell? ⟨be, 5, none⟩ = some (.int .i64 z.st) := hE.cell 5
        have cb6 : u3.cell? ⟨be, 6, none⟩ = some (.int .i64 z.en) := hE.cell 6
        have cb7 : u3.cell? ⟨be, 7, none⟩ = some (.int .i64 z.rt) := hE.cell 7
        have cb8 : u3.cell? ⟨be, 8, none⟩ = some (.int .i64 z.rf) := hE.cell 8
        have cb9 : u3.cell? ⟨be, 9, none⟩ = some (.int .i64 z.rn) := hE.cell 9
        have cb10 : u3.cell? ⟨be, 10, none⟩ = some (.int .i64 z.rs) := hE.cell 10
        have cb11 : u3.cell? ⟨be, 11, none⟩ = some (.int .i64 z.re) := hE.cell 11
        have cb12 : u3.cell? ⟨be, 12, none⟩ = some (.int .i64 z.ro) := hE.cell 12
        have lt_cb := hE.lt
        have cg0 : u3.cell? ⟨bq, 0, none⟩ = some (.int .i64 z.op) := hF.cell 0
        have cg1 : u3.cell? ⟨bq, 1, none⟩ = some (.int .i64 z.kd) := hF.cell 1
        have cg2 : u3.cell? ⟨bq, 2, none⟩ = some (.int .i64 z.id) := hF.cell 2
        have cg3 : u3.cell? ⟨bq, 3, none⟩ = some (.int .i64 z.fr) := hF.cell 3
        have cg4 : u3.cell? ⟨bq, 4, none⟩ = some (.int .i64 z.tn) := hF.cell 4
        have cg5 : u3.cell? ⟨bq, 5, none⟩ = some (.int .i64 z.st) := hF.cell 5
        have cg6 : u3.cell? ⟨bq, 6, none⟩ = some (.int .i64 z.en) := hF.cell 6
        have cg7 : u3.cell? ⟨bq, 7, none⟩ = some (.int .i64 z.rt) := hF.cell 7
        have cg8 : u3.cell? ⟨bq, 8, none⟩ = some (.int .i64 z.rf) := hF.cell 8
        have cg9 : u3.cell? ⟨bq, 9, none⟩ = some (.int .i64 z.rn) := hF.cell 9
        have cg10 : u3.cell? ⟨bq, 10, none⟩ = some (.int .i64 z.rs) := hF.cell 10
        have cg11 : u3.cell? ⟨bq, 11, none⟩ = some (.int .i64 z.re) := hF.cell 11
        have cg12 : u3.cell? ⟨bq, 12, none⟩ = some (.int .i64 z.ro) := hF.cell 12
        have lt_cg := hF.lt
        clear hX hE hF h1 h2
        have q_ca0 := fun d os => cell_regrown ca0 d os
        have q_ca1 := fun d os => cell_regrown ca1 d os
        have q_ca2 := fun d os => cell_regrown ca2 d os
        have q_ca3 := fun d os => cell_regrown ca3 d os
        have q_ca4 := fun d os => cell_regrown ca4 d os
        have q_ca5 := fun d os => cell_regrown ca5 d os
        have q_ca6 := fun d os => cell_regrown ca6 d os
        have q_ca7 := fun d os => cell_regrown ca7 d os
        have q_ca8 := fun d os => cell_regrown ca8 d os
        have q_ca9 := fun d os => cell_regrown ca9 d os
        have q_ca10 := fun d os => cell_regrown ca10 d os
        have q_ca11 := fun d os => cell_regrown ca11 d os
        have q_ca12 := fun d os => cell_regrown ca12 d os
        have q_cb0 := fun d os => cell_regrown cb0 d os
        have q_cb1 := fun d os => cell_regrown cb1 d os
        have q_cb2 := fun d os => cell_regrown cb2 d os
        have q_cb3 := fun d os => cell_regrown cb3 d os
        have q_cb4 := fun d os => cell_regrown cb4 d os
        have q_cb5 := fun d os => cell_regrown cb5 d os
        have q_cb6 := fun d os => cell_regrown cb6 d os
        have q_cb7 := fun d os => cell_regrown cb7 d os
        have q_cb8 := fun d os => cell_regrown cb8 d os
        have q_cb9 := fun d os => cell_regrown cb9 d os
        have q_cb10 := fun d os => cell_regrown cb10 d os
        have q_cb11 := fun d os => cell_regrown cb11 d os
        have q_cb12 := fun d os => cell_regrown cb12 d os
        have q_cg0 := fun d os => cell_regrown cg0 d os
        have q_cg1 := fun d os => cell_regrown cg1 d os
        have q_cg2 := fun d os => cell_regrown cg2 d os
        have q_cg3 := fun d os => cell_regrown cg3 d os
        have q_cg4 := fun d os => cell_regrown cg4 d os
        have q_cg5 := fun d os => cell_regrown cg5 d os
        have q_cg6 := fun d os => cell_regrown cg6 d os
        have q_cg7 := fun d os => cell_regrown cg7 d os
        have q_cg8 := fun d os => cell_regrown cg8 d os
        have q_cg9 := fun d os => cell_regrown cg9 d os
        have q_cg10 := fun d os => cell_regrown cg10 d os
        have q_cg11 := fun d os => cell_regrown cg11 d os
        have q_cg12 := fun d os => cell_regrown cg12 d os
        try simp only [List.append]
        first | refine wp_region_text_below ?_ | refine wp_region_quiet_below (by kernel_rfl) (by kernel_rfl) ?_
        repeat (go_big_quiet_step ((first | (go_at_call 13; with_reducible exact Calls.regrown_of (dright_any d _ d1 d2 true HD.out)) | (go_at_call 14; with_reducible exact Calls.regrown_of (rr04_any d _ true HD.out)) | (go_at_call 15; with_reducible exact Calls.regrown_of (dsame_is A1 A2 n1 c1 n1 c2 (wordsD d) (wordsD d) true (decide_eq_true rfl) _ HN1.out HN1.out hb1 (HQ1.out _ _) (HQ2.out _ _))))))
        refine wpQuiet_nil ?_
        intro _ hqw
        obtain ⟨pq, hqw⟩ := hqw
        subst hqw
        have hfin := hB.trans ((below_regrown u3 pq.d pq.os).mono hs)
        clear q_ca0 q_ca1 q_ca2 q_ca3 q_ca4 q_ca5 q_ca6 q_ca7 q_ca8 q_ca9 q_ca10 q_ca11 q_ca12 q_cb0 q_cb1 q_cb2 q_cb3 q_cb4 q_cb5 q_cb6 q_cb7 q_cb8 q_cb9 q_cb10 q_cb11 q_cb12 q_cg0 q_cg1 q_cg2 q_cg3 q_cg4 q_cg5 q_cg6 q_cg7 q_cg8 q_cg9 q_cg10 q_cg11 q_cg12 ca0 ca1 ca2 ca3 ca4 ca5 ca6 ca7 ca8 ca9 ca10 ca11 ca12 lt_ca cb0 cb1 cb2 cb3 cb4 cb5 cb6 cb7 cb8 cb9 cb10 cb11 cb12 lt_cb cg0 cg1 cg2 cg3 cg4 cg5 cg6 cg7 cg8 cg9 cg10 cg11 cg12 lt_cg hEQ
        generalize grow (redrawn u3 pq.d) pq.os = u4 at *
        go_wp2
        go_ret
        exact ⟨rfl, hfin⟩
theorem directTells_walk (a0 a1 a2 a3 a4 a5 a6 a7 a8 a9 a10 a11 a12 : Int) (A : Option Addr) (n c : Nat) (l : List Bytes) (ha : ∀ m ∈ [a0, a1, a2, a3, a4, a5, a6, a7, a8, a9, a10, a11, a12], (Lit.int .i64 m).wf = true) (hl : l.length = n) (hsz : ∀ x ∈ l, x.length ≤ maxLen) (w : World) (ht : TenTab w) (h : Sl w w.heap.size 1 A n c (vs l)) :
    Calls Tryd.prog 3 #[.agg #[.int .i64 a0, .int .i64 a1, .int .i64 a2, .int .i64 a3, .int .i64 a4, .int .i64 a5, .int .i64 a6, .int .i64 a7, .int .i64 a8, .int .i64 a9, .int .i64 a10, .int .i64 a11, .int .i64 a12], .slice A n c] w fun e w' => e = .returned (.bool true) ∧ Below w.heap.size w w' :=
  directTells_any ⟨a0, a1, a2, a3, a4, a5, a6, a7, a8, a9, a10, a11, a12⟩ (ha _ (by simp)) (ha _ (by simp)) A n c l hl hsz w ht h
theorem directTells_own : ownKnob Tryd.prog.godebug = none := by kernel_rfl
theorem directTells_laidOut : laidOutB Tryd.prog = true := by kernel_rfl
theorem directTells_door (os : Os) (args : Array Value) : laidMetH Tryd.prog Rows.directTellsRow.laid ((World.doorLaid Tryd.prog 400 os).forCall (fun _ _ => 0) ⟨#[], args, []⟩).memory :=
  laidMetH_of_parts3 (fuel := 8) (laidMet_of_run' 8 (by kernel_rfl) (by kernel_rfl)) (by kernel_rfl) (by kernel_rfl)

set_option maxHeartbeats 1000000 in
set_option maxRecDepth 100000 in
theorem directTells_lifted (os : Os) (started : os.Started) (H : Type) (enc : TypeId × Value → H) :
    ReturnsInHanded {} Tryd.checked os 3 .any (fun w args => (Rows.directTellsSpec.pre enc Tryd.prog Tryd.f3 [] false w args ∧ laidMetH Tryd.prog Rows.directTellsRow.laid w) ∧ sizedMet enc Tryd.prog Tryd.f3 (OpenSpec.ofChange Rows.directTellsSpec) false w args)
      (Rows.directTellsSpec.post enc Tryd.prog Tryd.f3 false true false false) := by
  refine returnsInHanded_of_change_and (C := Tryd.checked) (X := fun w _ => laidMetH Tryd.prog Rows.directTellsRow.laid w) (fun _ _ _ hh h => h.of_heap hh) directTells_own started (by kernel_rfl) Tryd.func3
    (ChangeSpec.witness_shaped (enc := enc) (C := Tryd.checked) (os := os) (X := fun w _ => laidMetH Tryd.prog Rows.directTellsRow.laid w) false (World.doorLaid Tryd.prog 400 os) #[.agg #[.int .i64 0, .int .i64 0, .int .i64 0, .int .i64 0, .int .i64 0, .int .i64 0, .int .i64 0, .int .i64 0, .int .i64 0, .int .i64 0, .int .i64 0, .int .i64 0, .int .i64 0], .slice none 0 0] 8 rfl (World.shaped_of_RefB (by kernel_rfl) (by kernel_rfl)) (by kernel_rfl) (by kernel_rfl) (by kernel_rfl) (directTells_door os _)) ?_
  intro W base args ds gs before hval0 hW _ _ hL _
  have hval : ∀ (j : Nat) t v, Tryd.f3.params[j]? = some t → args[j]? = some v → Value.okWide Tryd.prog W .any base t v := hval0
  have hW' := hW
  obtain ⟨p, q, hA0, hV, rfl, hfz, hnd⟩ := hW
  have hA : DataW.TrodAll enc Tryd.prog W 0 (fun _ => true) true Tryd.f3.params.toList args.toList ds p := hA0
  rw [Tryd.params3] at hA hval
  obtain ⟨v0, vs0, d0, ds0, p0, q0, hargs, rfl, rfl, h0, r0⟩ := trodAll_cons hA
  obtain ⟨v1, vs1, d1, ds1, p1, q1, rfl, rfl, rfl, h1, r1⟩ := trodAll_cons r0
  obtain ⟨rfl, rfl, rfl⟩ := trodAll_nil r1
  obtain rfl : args = #[v0, v1] := by cases args; simp_all
  obtain ⟨rfl, rfl⟩ := trodVars_none hV
  obtain ⟨n0, e0, l0, w0⟩ := open_flat 4 Tryd.underlying27 (by kernel_rfl) (hval 0 27 v0 rfl rfl) h0
  obtain ⟨a0_0, a0_1, a0_2, a0_3, a0_4, a0_5, a0_6, a0_7, a0_8, a0_9, a0_10, a0_11, a0_12, rfl⟩ : ∃ a0_0 a0_1 a0_2 a0_3 a0_4 a0_5 a0_6 a0_7 a0_8 a0_9 a0_10 a0_11 a0_12 : Int, n0 = [a0_0, a0_1, a0_2, a0_3, a0_4, a0_5, a0_6, a0_7, a0_8, a0_9, a0_10, a0_11, a0_12] := by
    rw [show Tryd.prog.cellsOf 27 = 13 by kernel_rfl] at l0
    match n0, l0 with
    | [a0_0, a0_1, a0_2, a0_3, a0_4, a0_5, a0_6, a0_7, a0_8, a0_9, a0_10, a0_11, a0_12], _ => exact ⟨_, _, _, _, _, _, _, _, _, _, _, _, _, rfl⟩
  obtain rfl : v0 = .agg #[.int .i64 a0_0, .int .i64 a0_1, .int .i64 a0_2, .int .i64 a0_3, .int .i64 a0_4, .int .i64 a0_5, .int .i64 a0_6, .int .i64 a0_7, .int .i64 a0_8, .int .i64 a0_9, .int .i64 a0_10, .int .i64 a0_11, .int .i64 a0_12] := e0
  obtain ⟨A1, n1, c1, ns1, rfl, hl1, nl1, w1⟩ := open_texts Tryd.underlying28 Tryd.underlying9 (by kernel_rfl) (hval 1 28 v1 rfl rfl) h1
  clear hA0 hval0
  refine (directTells_walk a0_0 a0_1 a0_2 a0_3 a0_4 a0_5 a0_6 a0_7 a0_8 a0_9 a0_10 a0_11 a0_12 A1 n1 c1 ns1 w0 nl1 w1 W (ten_of_laid hL) hl1).mono fun e W' ⟨he, bel⟩ => ?_
  subst he
  exact ⟨_, rfl, law_post directTells_laidOut (by kernel_rfl) rfl Tryd.underlying4 rfl rfl hW' bel⟩

theorem directTells_holds : Rows.DirectTellsSaid :=
  OpenClaim.holds_of_wide 3 Tryd.f3 rfl rfl rfl rfl rfl rfl rfl ⟨rfl, rfl, rfl, rfl, rfl⟩ rfl rfl rfl rfl rfl (by kernel_rfl) Tryd.func3 (by kernel_rfl)
    (of_decide_eq_true (by kernel_rfl)) (by unfold Func.isWrapper; first | (rw [if_pos (by decide +kernel)]; kernel_rfl) | (rw [if_neg (by decide +kernel)]; exact ⟨rfl, rfl⟩))
    (fun os started H enc _ => directTells_lifted os started H enc)

theorem directTells_proved : Rows.DirectTellsCardSaid :=
  Claim7.holds_tied_plain_at .later [] Rows.directTellsCard.laidKinds true Rows.directTellsCard.stood.harness false
    directTells_holds (fun _ h => by cases h) (by kernel_rfl) (fun _ h => by cases h) directTells_row_tie rfl ⟨rfl, rfl⟩ (by kernel_rfl) rfl
    (fun f fn hf hfn => by
      obtain rfl : f = 3 := Option.some.inj ((show Tryd.prog.funcNamed "felucca/feluccalaw04.DirectTells" = some 3 by kernel_rfl).symm.trans hf) |>.symm
      obtain rfl : fn = Tryd.f3 := (Option.some.inj (Tryd.func3.symm.trans hfn)).symm
      exact ⟨by kernel_rfl, fun j t ht => by
        rw [Tryd.params3] at ht
        have hm : t ∈ [27, 28] := by simpa using Array.mem_of_getElem? ht
        have hall : ([27, 28].all fun u => !Tryd.prog.wantsStandIn u) = true := by kernel_rfl
        exact (show Tryd.prog.wantsStandIn t = false by simpa using List.all_eq_true.1 hall t hm)⟩)
    (by kernel_rfl)
#print axioms directTells_proved
end Go.Proofs.YtkdfloeglknmnaaDoor
