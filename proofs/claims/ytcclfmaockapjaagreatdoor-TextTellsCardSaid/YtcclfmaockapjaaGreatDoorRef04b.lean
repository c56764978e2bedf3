
/- The document's own answer for layer 4: a directive's words. No condition. -/
import Derived.Test.YtcclfmaockapjaaGreatDoorRef04
import Derived.Test.YtcclfmaockapjaaGreatDoorRef01
import Derived.Test.YtcclfmaockapjaaGreatDoorQTail
import Derived.Test.YtcclfmaockapjaaGreatDoorDFacts
import Derived.Maps.AppendAt
namespace Go.Proofs.YtcclfmaockapjaaGreatDoor
open Go.ChangeShapes Go.WideShapes Go.ChangeAt Go.RowKit Go.Sort
set_option linter.unusedSimpArgs false
set_option linter.unusedVariables false
set_option maxHeartbeats 8000000 in
set_option maxRecDepth 100000 in
theorem first_11 (id fr tn st en rt rf rn rs re ro : Int) (w : World) : Calls Tryz.prog 36 #[.agg #[.int .i64 1, .int .i64 1, .int .i64 id, .int .i64 fr, .int .i64 tn, .int .i64 st, .int .i64 en, .int .i64 rt, .int .i64 rf, .int .i64 rn, .int .i64 rs, .int .i64 re, .int .i64 ro]] w fun e w' => ∃ g, e = .returned (.slice (some ⟨g, 0, none⟩) 2 2) ∧ w'.ownsRow w.heap.size 9 1 (.slice (some ⟨g, 0, none⟩) 2 2) 2 (vs [gS opW 1, gS kdW 1]) ∧ Below w.heap.size w w' := by
  go_enter Tryz.func36, Tryz.ntmps36
  go_upto_region 1 with fail
  have hX := Blok.new w 41 #[.int .i64 1, .int .i64 1, .int .i64 id, .int .i64 fr, .int .i64 tn, .int .i64 st, .int .i64 en, .int .i64 rt, .int .i64 rf, .int .i64 rn, .int .i64 rs, .int .i64 re, .int .i64 ro]
  have hB : Below w.heap.size w (w.alloc (.cells #[.int .i64 1, .int .i64 1, .int .i64 id, .int .i64 fr, .int .i64 tn, .int .i64 st, .int .i64 en, .int .i64 rt, .int .i64 rf, .int .i64 rn, .int .i64 rs, .int .i64 re, .int .i64 ro] 41)) := by (repeat (first | exact Below.refl _ _ | refine Below.alloc ?_ (by first | omega | (simp; done) | (simp; omega)) _ | refine Below.setCell ?_ (by first | omega | (simp; done) | (simp; omega)) _ | refine Below.drew ?_))
  have hs := hB.size
  generalize w.alloc (.cells #[.int .i64 1, .int .i64 1, .int .i64 id, .int .i64 fr, .int .i64 tn, .int .i64 st, .int .i64 en, .int .i64 rt, .int .i64 rf, .int .i64 rn, .int .i64 rs, .int .i64 re, .int .i64 ro] 41) = w0 at *
  go_upto_region 2 with fail
  have hL := Blok.new w0 9 #[.string ⟨#[97]⟩, .string ⟨#[100]⟩, .string ⟨#[99]⟩]
  have hb : Below w0.heap.size w0 (w0.alloc (.cells #[.string ⟨#[97]⟩, .string ⟨#[100]⟩, .string ⟨#[99]⟩] 9)) := by (repeat (first | exact Below.refl _ _ | refine Below.alloc ?_ (by first | omega | (simp; done) | (simp; omega)) _ | refine Below.setCell ?_ (by first | omega | (simp; done) | (simp; omega)) _ | refine Below.drew ?_))
  replace hX := hX.below hb hX.lt
  replace hB := hB.trans (hb.mono hs)
  replace hs := hB.size
  clear hb
  generalize w0.alloc (.cells #[.string ⟨#[97]⟩, .string ⟨#[100]⟩, .string ⟨#[99]⟩] 9) = w1 at *
  generalize hzz : w0.heap.size = b1 at *
  clear hzz
  go_upto_region 3 with fail
  have hK := Blok.new w1 9 #[.string ⟨#[99, 111, 110, 116, 97, 99, 116]⟩, .string ⟨#[114, 97, 110, 103, 101]⟩]
  have hb : Below w1.heap.size w1 (w1.alloc (.cells #[.string ⟨#[99, 111, 110, 116, 97, 99, 116]⟩, .string ⟨#[114, 97, 110, 103, 101]⟩] 9)) := by (repeat (first | exact Below.refl _ _ | refine Below.alloc ?_ (by first | omega | (simp; done) | (simp; omega)) _ | refine Below.setCell ?_ (by first | omega | (simp; done) | (simp; omega)) _ | refine Below.drew ?_))
  replace hX := hX.below hb hX.lt
  replace hL := hL.below hb hL.lt
  replace hB := hB.trans (hb.mono hs)
  replace hs := hB.size
  clear hb
  generalize w1.alloc (.cells #[.string ⟨#[99, 111, 110, 116, 97, 99, 116]⟩, .string ⟨#[114, 97, 110, 103, 101]⟩] 9) = w2 at *
  generalize hzz : w1.heap.size = b2 at *
  clear hzz
  have y0 : w2.cell? ⟨w.heap.size, 0, none⟩ = some (.int .i64 1) := hX.cell 0
  have y1 : w2.cell? ⟨w.heap.size, 1, none⟩ = some (.int .i64 1) := hX.cell 1
  have lt_y := hX.lt
  have l0 : w2.cell? ⟨b1, 0, none⟩ = some (.string ⟨#[97]⟩) := hL.cell 0
  have k0 : w2.cell? ⟨b2, 0, none⟩ = some (.string ⟨#[99, 111, 110, 116, 97, 99, 116]⟩) := hK.cell 0
  have lt_l := hL.lt
  have lt_k := hK.lt
  have q_y0 := fun d os => cell_regrown y0 d os
  have q_y1 := fun d os => cell_regrown y1 d os
  have q_l0 := fun d os => cell_regrown l0 d os
  have q_k0 := fun d os => cell_regrown k0 d os
  try simp only [List.append]
  refine wp_region_grown_tail 12 (by kernel_rfl) (by kernel_rfl) ?_
  simp only [Nat.reduceAdd, List.take_succ_cons, List.take_zero]
  repeat (go_big_quiet_step (fail))
  refine wpQuiet_nil ?_
  intro w3 hqw
  obtain ⟨pq, rfl⟩ := hqw
  clear q_y0 q_y1 q_l0 q_k0
  have hb := below_regrown w2 pq.d pq.os
  replace hB := hB.trans (hb.mono hs)
  replace hs := hB.size
  clear hb
  clear y0 y1 l0 k0 lt_y lt_l lt_k hX hL hK
  generalize grow (redrawn w2 pq.d) pq.os = w3 at *
  go_wp2_with fail
  have ho := own_lit w3 w.heap.size 9 1 2 #[.string ⟨#[97]⟩, .string ⟨#[99, 111, 110, 116, 97, 99, 116]⟩] hs rfl (by simp [maxLen])
  go_ret
  exact ⟨w3.heap.size, rfl, ho, hB.alloc hs _⟩
set_option maxHeartbeats 8000000 in
set_option maxRecDepth 100000 in
theorem first_12 (id fr tn st en rt rf rn rs re ro : Int) (w : World) : Calls Tryz.prog 36 #[.agg #[.int .i64 1, .int .i64 2, .int .i64 id, .int .i64 fr, .int .i64 tn, .int .i64 st, .int .i64 en, .int .i64 rt, .int .i64 rf, .int .i64 rn, .int .i64 rs, .int .i64 re, .int .i64 ro]] w fun e w' => ∃ g, e = .returned (.slice (some ⟨g, 0, none⟩) 2 2) ∧ w'.ownsRow w.heap.size 9 1 (.slice (some ⟨g, 0, none⟩) 2 2) 2 (vs [gS opW 1, gS kdW 2]) ∧ Below w.heap.size w w' := by
  go_enter Tryz.func36, Tryz.ntmps36
  go_upto_region 1 with fail
  have hX := Blok.new w 41 #[.int .i64 1, .int .i64 2, .int .i64 id, .int .i64 fr, .int .i64 tn, .int .i64 st, .int .i64 en, .int .i64 rt, .int .i64 rf, .int .i64 rn, .int .i64 rs, .int .i64 re, .int .i64 ro]
  have hB : Below w.heap.size w (w.alloc (.cells #[.int .i64 1, .int .i64 2, .int .i64 id, .int .i64 fr, .int .i64 tn, .int .i64 st, .int .i64 en, .int .i64 rt, .int .i64 rf, .int .i64 rn, .int .i64 rs, .int .i64 re, .int .i64 ro] 41)) := by (repeat (first | exact Below.refl _ _ | refine Below.alloc ?_ (by first | omega | (simp; done) | (simp; omega)) _ | refine Below.setCell ?_ (by first | omega | (simp; done) | (simp; omega)) _ | refine Below.drew ?_))
  have hs := hB.size
  generalize w.alloc (.cells #[.int .i64 1, .int .i64 2, .int .i64 id, .int .i64 fr, .int .i64 tn, .int .i64 st, .int .i64 en, .int .i64 rt, .int .i64 rf, .int .i64 rn, .int .i64 rs, .int .i64 re, .int .i64 ro] 41) = w0 at *
  go_upto_region 2 with fail
  have hL := Blok.new w0 9 #[.string ⟨#[97]⟩, .string ⟨#[100]⟩, .string ⟨#[99]⟩]
  have hb : Below w0.heap.size w0 (w0.alloc (.cells #[.string ⟨#[97]⟩, .string ⟨#[100]⟩, .string ⟨#[99]⟩] 9)) := by (repeat (first | exact Below.refl _ _ | refine Below.alloc ?_ (by first | omega | (simp; done) | (simp; omega)) _ | refine Below.setCell ?_ (by first | omega | (simp; done) | (simp; omega)) _ | refine Below.drew ?_))
  replace hX := hX.below hb hX.lt
  replace hB := hB.trans (hb.mono hs)
  replace hs := hB.size
  clear hb
  generalize w0.alloc (.cells #[.string ⟨#[97]⟩, .string ⟨#[100]⟩, .string ⟨#[99]⟩] 9) = w1 at *
  generalize hzz : w0.heap.size = b1 at *
  clear hzz
  go_upto_region 3 with fail
  have hK := Blok.new w1 9 #[.string ⟨#[99, 111, 110, 116, 97, 99, 116]⟩, .string ⟨#[114, 97, 110, 103, 101]⟩]
  have hb : Below w1.heap.size w1 (w1.alloc (.cells #[.string ⟨#[99, 111, 110, 116, 97, 99, 116]⟩, .string ⟨#[114, 97, 110, 103, 101]⟩] 9)) := by (repeat (first | exact Below.refl _ _ | refine Below.alloc ?_ (by first | omega | (simp; done) | (simp; omega)) _ | refine Below.setCell ?_ (by first | omega | (simp; done) | (simp; omega)) _ | refine Below.drew ?_))
  replace hX := hX.below hb hX.lt
  replace hL := hL.below hb hL.lt
  replace hB := hB.trans (hb.mono hs)
  replace hs := hB.size
  clear hb
  generalize w1.alloc (.cells #[.string ⟨#[99, 111, 110, 116, 97, 99, 116]⟩, .string ⟨#[114, 97, 110, 103, 101]⟩] 9) = w2 at *
  generalize hzz : w1.heap.size = b2 at *
  clear hzz
  have y0 : w2.cell? ⟨w.heap.size, 0, none⟩ = some (.int .i64 1) := hX.cell 0
  have y1 : w2.cell? ⟨w.heap.size, 1, none⟩ = some (.int .i64 2) := hX.cell 1
  have lt_y := hX.lt
  have l0 : w2.cell? ⟨b1, 0, none⟩ = some (.string ⟨#[97]⟩) := hL.cell 0
  have k0 : w2.cell? ⟨b2, 1, none⟩ = some (.string ⟨#[114, 97, 110, 103, 101]⟩) := hK.cell 1
  have lt_l := hL.lt
  have lt_k := hK.lt
  have q_y0 := fun d os => cell_regrown y0 d os
  have q_y1 := fun d os => cell_regrown y1 d os
  have q_l0 := fun d os => cell_regrown l0 d os
  have q_k0 := fun d os => cell_regrown k0 d os
  try simp only [List.append]
  refine wp_region_grown_tail 12 (by kernel_rfl) (by kernel_rfl) ?_
  simp only [Nat.reduceAdd, List.take_succ_cons, List.take_zero]
  repeat (go_big_quiet_step (fail))
  refine wpQuiet_nil ?_
  intro w3 hqw
  obtain ⟨pq, rfl⟩ := hqw
  clear q_y0 q_y1 q_l0 q_k0
  have hb := below_regrown w2 pq.d pq.os
  replace hB := hB.trans (hb.mono hs)
  replace hs := hB.size
  clear hb
  clear y0 y1 l0 k0 lt_y lt_l lt_k hX hL hK
  generalize grow (redrawn w2 pq.d) pq.os = w3 at *
  go_wp2_with fail
  have ho := own_lit w3 w.heap.size 9 1 2 #[.string ⟨#[97]⟩, .string ⟨#[114, 97, 110, 103, 101]⟩] hs rfl (by simp [maxLen])
  go_ret
  exact ⟨w3.heap.size, rfl, ho, hB.alloc hs _⟩
set_option maxHeartbeats 8000000 in
set_option maxRecDepth 100000 in
theorem first_21 (id fr tn st en rt rf rn rs re ro : Int) (w : World) : Calls Tryz.prog 36 #[.agg #[.int .i64 2, .int .i64 1, .int .i64 id, .int .i64 fr, .int .i64 tn, .int .i64 st, .int .i64 en, .int .i64 rt, .int .i64 rf, .int .i64 rn, .int .i64 rs, .int .i64 re, .int .i64 ro]] w fun e w' => ∃ g, e = .returned (.slice (some ⟨g, 0, none⟩) 2 2) ∧ w'.ownsRow w.heap.size 9 1 (.slice (some ⟨g, 0, none⟩) 2 2) 2 (vs [gS opW 2, gS kdW 1]) ∧ Below w.heap.size w w' := by
  go_enter Tryz.func36, Tryz.ntmps36
  go_upto_region 1 with fail
  have hX := Blok.new w 41 #[.int .i64 2, .int .i64 1, .int .i64 id, .int .i64 fr, .int .i64 tn, .int .i64 st, .int .i64 en, .int .i64 rt, .int .i64 rf, .int .i64 rn, .int .i64 rs, .int .i64 re, .int .i64 ro]
  have hB : Below w.heap.size w (w.alloc (.cells #[.int .i64 2, .int .i64 1, .int .i64 id, .int .i64 fr, .int .i64 tn, .int .i64 st, .int .i64 en, .int .i64 rt, .int .i64 rf, .int .i64 rn, .int .i64 rs, .int .i64 re, .int .i64 ro] 41)) := by (repeat (first | exact Below.refl _ _ | refine Below.alloc ?_ (by first | omega | (simp; done) | (simp; omega)) _ | refine Below.setCell ?_ (by first | omega | (simp; done) | (simp; omega)) _ | refine Below.drew ?_))
  have hs := hB.size
  generalize w.alloc (.cells #[.int .i64 2, .int .i64 1, .int .i64 id, .int .i64 fr, .int .i64 tn, .int .i64 st, .int .i64 en, .int .i64 rt, .int .i64 rf, .int .i64 rn, .int .i64 rs, .int .i64 re, .int .i64 ro] 41) = w0 at *
  go_upto_region 2 with fail
  have hL := Blok.new w0 9 #[.string ⟨#[97]⟩, .string ⟨#[100]⟩, .string ⟨#[99]⟩]
  have hb : Below w0.heap.size w0 (w0.alloc (.cells #[.string ⟨#[97]⟩, .string ⟨#[100]⟩, .string ⟨#[99]⟩] 9)) := by (repeat (first | exact Below.refl _ _ | refine Below.alloc ?_ (by first | omega | (simp; done) | (simp; omega)) _ | refine Below.setCell ?_ (by first | omega | (simp; done) | (simp; omega)) _ | refine Below.drew ?_))
  replace hX := hX.below hb hX.lt
  replace hB := hB.trans (hb.mono hs)
  replace hs := hB.size
  clear hb
  generalize w0.alloc (.cells #[.string ⟨#[97]⟩, .string ⟨#[100]⟩, .string ⟨#[99]⟩] 9) = w1 at *
  generalize hzz : w0.heap.size = b1 at *
  clear hzz
  go_upto_region 3 with fail
  have hK := Blok.new w1 9 #[.string ⟨#[99, 111, 110, 116, 97, 99, 116]⟩, .string ⟨#[114, 97, 110, 103, 101]⟩]
  have hb : Below w1.heap.size w1 (w1.alloc (.cells #[.string ⟨#[99, 111, 110, 116, 97, 99, 116]⟩, .string ⟨#[114, 97, 110, 103, 101]⟩] 9)) := by (repeat (first | exact Below.refl _ _ | refine Below.alloc ?_ (by first | omega | (simp; done) | (simp; omega)) _ | refine Below.setCell ?_ (by first | omega | (simp; done) | (simp; omega)) _ | refine Below.drew ?_))
  replace hX := hX.below hb hX.lt
  replace hL := hL.below hb hL.lt
  replace hB := hB.trans (hb.mono hs)
  replace hs := hB.size
  clear hb
  generalize w1.alloc (.cells #[.string ⟨#[99, 111, 110, 116, 97, 99, 116]⟩, .string ⟨#[114, 97, 110, 103, 101]⟩] 9) = w2 at *
  generalize hzz : w1.heap.size = b2 at *
  clear hzz
  have y0 : w2.cell? ⟨w.heap.size, 0, none⟩ = some (.int .i64 2) := hX.cell 0
  have y1 : w2.cell? ⟨w.heap.size, 1, none⟩ = some (.int .i64 1) := hX.cell 1
  have lt_y := hX.lt
  have l0 : w2.cell? ⟨b1, 1, none⟩ = some (.string ⟨#[100]⟩) := hL.cell 1
  have k0 : w2.cell? ⟨b2, 0, none⟩ = some (.string ⟨#[99, 111, 110, 116, 97, 99, 116]⟩) := hK.cell 0
  have lt_l := hL.lt
  have lt_k := hK.lt
  have q_y0 := fun d os => cell_regrown y0 d os
  have q_y1 := fun d os => cell_regrown y1 d os
  have q_l0 := fun d os => cell_regrown l0 d os
  have q_k0 := fun d os => cell_regrown k0 d os
  try simp only [List.append]
  refine wp_region_grown_tail 12 (by kernel_rfl) (by kernel_rfl) ?_
  simp only [Nat.reduceAdd, List.take_succ_cons, List.take_zero]
  repeat (go_big_quiet_step (fail))
  refine wpQuiet_nil ?_
  intro w3 hqw
  obtain ⟨pq, rfl⟩ := hqw
  clear q_y0 q_y1 q_l0 q_k0
  have hb := below_regrown w2 pq.d pq.os
  replace hB := hB.trans (hb.mono hs)
  replace hs := hB.size
  clear hb
  clear y0 y1 l0 k0 lt_y lt_l lt_k hX hL hK
  generalize grow (redrawn w2 pq.d) pq.os = w3 at *
  go_wp2_with fail
  have ho := own_lit w3 w.heap.size 9 1 2 #[.string ⟨#[100]⟩, .string ⟨#[99, 111, 110, 116, 97, 99, 116]⟩] hs rfl (by simp [maxLen])
  go_ret
  exact ⟨w3.heap.size, rfl, ho, hB.alloc hs _⟩
set_option maxHeartbeats 8000000 in
set_option maxRecDepth 100000 in
theorem first_22 (id fr tn st en rt rf rn rs re ro : Int) (w : World) : Calls Tryz.prog 36 #[.agg #[.int .i64 2, .int .i64 2, .int .i64 id, .int .i64 fr, .int .i64 tn, .int .i64 st, .int .i64 en, .int .i64 rt, .int .i64 rf, .int .i64 rn, .int .i64 rs, .int .i64 re, .int .i64 ro]] w fun e w' => ∃ g, e = .returned (.slice (some ⟨g, 0, none⟩) 2 2) ∧ w'.ownsRow w.heap.size 9 1 (.slice (some ⟨g, 0, none⟩) 2 2) 2 (vs [gS opW 2, gS kdW 2]) ∧ Below w.heap.size w w' := by
  go_enter Tryz.func36, Tryz.ntmps36
  go_upto_region 1 with fail
  have hX := Blok.new w 41 #[.int .i64 2, .int .i64 2, .int .i64 id, .int .i64 fr, .int .i64 tn, .int .i64 st, .int .i64 en, .int .i64 rt, .int .i64 rf, .int .i64 rn, .int .i64 rs, .int .i64 re, .int .i64 ro]
  have hB : Below w.heap.size w (w.alloc (.cells #[.int .i64 2, .int .i64 2, .int .i64 id, .int .i64 fr, .int .i64 tn, .int .i64 st, .int .i64 en, .int .i64 rt, .int .i64 rf, .int .i64 rn, .int .i64 rs, .int .i64 re, .int .i64 ro] 41)) := by (repeat (first | exact Below.refl _ _ | refine Below.alloc ?_ (by first | omega | (simp; done) | (simp; omega)) _ | refine Below.setCell ?_ (by first | omega | (simp; done) | (simp; omega)) _ | refine Below.drew ?_))
  have hs := hB.size
  generalize w.alloc (.cells #[.int .i64 2, .int .i64 2, .int .i64 id, .int .i64 fr, .int .i64 tn, .int .i64 st, .int .i64 en, .int .i64 rt, .int .i64 rf, .int .i64 rn, .int .i64 rs, .int .i64 re, .int .i64 ro] 41) = w0 at *
  go_upto_region 2 with fail
  have hL := Blok.new w0 9 #[.string ⟨#[97]⟩, .string ⟨#[100]⟩, .string ⟨#[99]⟩]
  have hb : Below w0.heap.size w0 (w0.alloc (.cells #[.string ⟨#[97]⟩, .string ⟨#[100]⟩, .string ⟨#[99]⟩] 9)) := by (repeat (first | exact Below.refl _ _ | refine Below.alloc ?_ (by first | omega | (simp; done) | (simp; omega)) _ | refine Below.setCell ?_ (by first | omega | (simp; done) | (simp; omega)) _ | refine Below.drew ?_))
  replace hX := hX.below hb hX.lt
  replace hB := hB.trans (hb.mono hs)
  replace hs := hB.size
  clear hb
  generalize w0.alloc (.cells #[.string ⟨#[97]⟩, .string ⟨#[100]⟩, .string ⟨#[99]⟩] 9) = w1 at *
  generalize hzz : w0.heap.size = b1 at *
  clear hzz
  go_upto_region 3 with fail
  have hK := Blok.new w1 9 #[.string ⟨#[99, 111, 110, 116, 97, 99, 116]⟩, .string ⟨#[114, 97, 110, 103, 101]⟩]
  have hb : Below w1.heap.size w1 (w1.alloc (.cells #[.string ⟨#[99, 111, 110, 116, 97, 99, 116]⟩, .string ⟨#[114, 97, 110, 103, 101]⟩] 9)) := by (repeat (first | exact Below.refl _ _ | refine Below.alloc ?_ (by first | omega | (simp; done) | (simp; omega)) _ | refine Below.setCell ?_ (by first | omega | (simp; done) | (simp; omega)) _ | refine Below.drew ?_))
  replace hX := hX.below hb hX.lt
  replace hL := hL.below hb hL.lt
  replace hB := hB.trans (hb.mono hs)
  replace hs := hB.size
  clear hb
  generalize w1.alloc (.cells #[.string ⟨#[99, 111, 110, 116, 97, 99, 116]⟩, .string ⟨#[114, 97, 110, 103, 101]⟩] 9) = w2 at *
  generalize hzz : w1.heap.size = b2 at *
  clear hzz
  have y0 : w2.cell? ⟨w.heap.size, 0, none⟩ = some (.int .i64 2) := hX.cell 0
  have y1 : w2.cell? ⟨w.heap.size, 1, none⟩ = some (.int .i64 2) := hX.cell 1
  have lt_y := hX.lt
  have l0 : w2.cell? ⟨b1, 1, none⟩ = some (.string ⟨#[100]⟩) := hL.cell 1
  have k0 : w2.cell? ⟨b2, 1, none⟩ = some (.string ⟨#[114, 97, 110, 103, 101]⟩) := hK.cell 1
  have lt_l := hL.lt
  have lt_k := hK.lt
  have q_y0 := fun d os => cell_regrown y0 d os
  have q_y1 := fun d os => cell_regrown y1 d os
  have q_l0 := fun d os => cell_regrown l0 d os
  have q_k0 := fun d os => cell_regrown k0 d os
  try simp only [List.append]
  refine wp_region_grown_tail 12 (by kernel_rfl) (by kernel_rfl) ?_
  simp only [Nat.reduceAdd, List.take_succ_cons, List.take_zero]
  repeat (go_big_quiet_step (fail))
  refine wpQuiet_nil ?_
  intro w3 hqw
  obtain ⟨pq, rfl⟩ := hqw
  clear q_y0 q_y1 q_l0 q_k0
  have hb := below_regrown w2 pq.d pq.os
  replace hB := hB.trans (hb.mono hs)
  replace hs := hB.size
  clear hb
  clear y0 y1 l0 k0 lt_y lt_l lt_k hX hL hK
  generalize grow (redrawn w2 pq.d) pq.os = w3 at *
  go_wp2_with fail
  have ho := own_lit w3 w.heap.size 9 1 2 #[.string ⟨#[100]⟩, .string ⟨#[114, 97, 110, 103, 101]⟩] hs rfl (by simp [maxLen])
  go_ret
  exact ⟨w3.heap.size, rfl, ho, hB.alloc hs _⟩
set_option maxHeartbeats 8000000 in
set_option maxRecDepth 100000 in
theorem first_31 (id fr tn st en rt rf rn rs re ro : Int) (w : World) : Calls Tryz.prog 36 #[.agg #[.int .i64 3, .int .i64 1, .int .i64 id, .int .i64 fr, .int .i64 tn, .int .i64 st, .int .i64 en, .int .i64 rt, .int .i64 rf, .int .i64 rn, .int .i64 rs, .int .i64 re, .int .i64 ro]] w fun e w' => ∃ g, e = .returned (.slice (some ⟨g, 0, none⟩) 2 2) ∧ w'.ownsRow w.heap.size 9 1 (.slice (some ⟨g, 0, none⟩) 2 2) 2 (vs [gS opW 3, gS kdW 1]) ∧ Below w.heap.size w w' := by
  go_enter Tryz.func36, Tryz.ntmps36
  go_upto_region 1 with fail
  have hX := Blok.new w 41 #[.int .i64 3, .int .i64 1, .int .i64 id, .int .i64 fr, .int .i64 tn, .int .i64 st, .int .i64 en, .int .i64 rt, .int .i64 rf, .int .i64 rn, .int .i64 rs, .int .i64 re, .int .i64 ro]
  have hB : Below w.heap.size w (w.alloc (.cells #[.int .i64 3, .int .i64 1, .int .i64 id, .int .i64 fr, .int .i64 tn, .int .i64 st, .int .i64 en, .int .i64 rt, .int .i64 rf, .int .i64 rn, .int .i64 rs, .int .i64 re, .int .i64 ro] 41)) := by (repeat (first | exact Below.refl _ _ | refine Below.alloc ?_ (by first | omega | (simp; done) | (simp; omega)) _ | refine Below.setCell ?_ (by first | omega | (simp; done) | (simp; omega)) _ | refine Below.drew ?_))
  have hs := hB.size
  generalize w.alloc (.cells #[.int .i64 3, .int .i64 1, .int .i64 id, .int .i64 fr, .int .i64 tn, .int .i64 st, .int .i64 en, .int .i64 rt, .int .i64 rf, .int .i64 rn, .int .i64 rs, .int .i64 re, .int .i64 ro] 41) = w0 at *
  go_upto_region 2 with fail
  have hL := Blok.new w0 9 #[.string ⟨#[97]⟩, .string ⟨#[100]⟩, .string ⟨#[99]⟩]
  have hb : Below w0.heap.size w0 (w0.alloc (.cells #[.string ⟨#[97]⟩, .string ⟨#[100]⟩, .string ⟨#[99]⟩] 9)) := by (repeat (first | exact Below.refl _ _ | refine Below.alloc ?_ (by first | omega | (simp; done) | (simp; omega)) _ | refine Below.setCell ?_ (by first | omega | (simp; done) | (simp; omega)) _ | refine Below.drew ?_))
  replace hX := hX.below hb hX.lt
  replace hB := hB.trans (hb.mono hs)
  replace hs := hB.size
  clear hb
  generalize w0.alloc (.cells #[.string ⟨#[97]⟩, .string ⟨#[100]⟩, .string ⟨#[99]⟩] 9) = w1 at *
  generalize hzz : w0.heap.size = b1 at *
  clear hzz
  go_upto_region 3 with fail
  have hK := Blok.new w1 9 #[.string ⟨#[99, 111, 110, 116, 97, 99, 116]⟩, .string ⟨#[114, 97, 110, 103, 101]⟩]
  have hb : Below w1.heap.size w1 (w1.alloc (.cells #[.string ⟨#[99, 111, 110, 116, 97, 99, 116]⟩, .string ⟨#[114, 97, 110, 103, 101]⟩] 9)) := by (repeat (first | exact Below.refl _ _ | refine Below.alloc ?_ (by first | omega | (simp; done) | (simp; omega)) _ | refine Below.setCell ?_ (by first | omega | (simp; done) | (simp; omega)) _ | refine Below.drew ?_))
  replace hX := hX.below hb hX.lt
  replace hL := hL.below hb hL.lt
  replace hB := hB.trans (hb.mono hs)
  replace hs := hB.size
  clear hb
  generalize w1.alloc (.cells #[.string ⟨#[99, 111, 110, 116, 97, 99, 116]⟩, .string ⟨#[114, 97, 110, 103, 101]⟩] 9) = w2 at *
  generalize hzz : w1.heap.size = b2 at *
  clear hzz
  have y0 : w2.cell? ⟨w.heap.size, 0, none⟩ = some (.int .i64 3) := hX.cell 0
  have y1 : w2.cell? ⟨w.heap.size, 1, none⟩ = some (.int .i64 1) := hX.cell 1
  have lt_y := hX.lt
  have l0 : w2.cell? ⟨b1, 2, none⟩ = some (.string ⟨#[99]⟩) := hL.cell 2
  have k0 : w2.cell? ⟨b2, 0, none⟩ = some (.string ⟨#[99, 111, 110, 116, 97, 99, 116]⟩) := hK.cell 0
  have lt_l := hL.lt
  have lt_k := hK.lt
  have q_y0 := fun d os => cell_regrown y0 d os
  have q_y1 := fun d os => cell_regrown y1 d os
  have q_l0 := fun d os => cell_regrown l0 d os
  have q_k0 := fun d os => cell_regrown k0 d os
  try simp only [List.append]
  refine wp_region_grown_tail 12 (by kernel_rfl) (by kernel_rfl) ?_
  simp only [Nat.reduceAdd, List.take_succ_cons, List.take_zero]
  repeat (go_big_quiet_step (fail))
  refine wpQuiet_nil ?_
  intro w3 hqw
  obtain ⟨pq, rfl⟩ := hqw
  clear q_y0 q_y1 q_l0 q_k0
  have hb := below_regrown w2 pq.d pq.os
  replace hB := hB.trans (hb.mono hs)
  replace hs := hB.size
  clear hb
  clear y0 y1 l0 k0 lt_y lt_l lt_k hX hL hK
  generalize grow (redrawn w2 pq.d) pq.os = w3 at *
  go_wp2_with fail
  have ho := own_lit w3 w.heap.size 9 1 2 #[.string ⟨#[99]⟩, .string ⟨#[99, 111, 110, 116, 97, 99, 116]⟩] hs rfl (by simp [maxLen])
  go_ret
  exact ⟨w3.heap.size, rfl, ho, hB.alloc hs _⟩
set_option maxHeartbeats 8000000 in
set_option maxRecDepth 100000 in
theorem first_32 (id fr tn st en rt rf rn rs re ro : Int) (w : World) : Calls Tryz.prog 36 #[.agg #[.int .i64 3, .int .i64 2, .int .i64 id, .int .i64 fr, .int .i64 tn, .int .i64 st, .int .i64 en, .int .i64 rt, .int .i64 rf, .int .i64 rn, .int .i64 rs, .int .i64 re, .int .i64 ro]] w fun e w' => ∃ g, e = .returned (.slice (some ⟨g, 0, none⟩) 2 2) ∧ w'.ownsRow w.heap.size 9 1 (.slice (some ⟨g, 0, none⟩) 2 2) 2 (vs [gS opW 3, gS kdW 2]) ∧ Below w.heap.size w w' := by
  go_enter Tryz.func36, Tryz.ntmps36
  go_upto_region 1 with fail
  have hX := Blok.new w 41 #[.int .i64 3, .int .i64 2, .int .i64 id, .int .i64 fr, .int .i64 tn, .int .i64 st, .int .i64 en, .int .i64 rt, .int .i64 rf, .int .i64 rn, .int .i64 rs, .int .i64 re, .int .i64 ro]
  have hB : Below w.heap.size w (w.alloc (.cells #[.int .i64 3, .int .i64 2, .int .i64 id, .int .i64 fr, .int .i64 tn, .int .i64 st, .int .i64 en, .int .i64 rt, .int .i64 rf, .int .i64 rn, .int .i64 rs, .int .i64 re, .int .i64 ro] 41)) := by (repeat (first | exact Below.refl _ _ | refine Below.alloc ?_ (by first | omega | (simp; done) | (simp; omega)) _ | refine Below.setCell ?_ (by first | omega | (simp; done) | (simp; omega)) _ | refine Below.drew ?_))
  have hs := hB.size
  generalize w.alloc (.cells #[.int .i64 3, .int .i64 2, .int .i64 id, .int .i64 fr, .int .i64 tn, .int .i64 st, .int .i64 en, .int .i64 rt, .int .i64 rf, .int .i64 rn, .int .i64 rs, .int .i64 re, .int .i64 ro] 41) = w0 at *
  go_upto_region 2 with fail
  have hL := Blok.new w0 9 #[.string ⟨#[97]⟩, .string ⟨#[100]⟩, .string ⟨#[99]⟩]
  have hb : Below w0.heap.size w0 (w0.alloc (.cells #[.string ⟨#[97]⟩, .string ⟨#[100]⟩, .string ⟨#[99]⟩] 9)) := by (repeat (first | exact Below.refl _ _ | refine Below.alloc ?_ (by first | omega | (simp; done) | (simp; omega)) _ | refine Below.setCell ?_ (by first | omega | (simp; done) | (simp; omega)) _ | refine Below.drew ?_))
  replace hX := hX.below hb hX.lt
  replace hB := hB.trans (hb.mono hs)
  replace hs := hB.size
  clear hb
  generalize w0.alloc (.cells #[.string ⟨#[97]⟩, .string ⟨#[100]⟩, .string ⟨#[99]⟩] 9) = w1 at *
  generalize hzz : w0.heap.size = b1 at *
  clear hzz
  go_upto_region 3 with fail
  have hK := Blok.new w1 9 #[.string ⟨#[99, 111, 110, 116, 97, 99, 116]⟩, .string ⟨#[114, 97, 110, 103, 101]⟩]
  have hb : Below w1.heap.size w1 (w1.alloc (.cells #[.string ⟨#[99, 111, 110, 116, 97, 99, 116]⟩, .string ⟨#[114, 97, 110, 103, 101]⟩] 9)) := by (repeat (first | exact Below.refl _ _ | refine Below.alloc ?_ (by first | omega | (simp; done) | (simp; omega)) _ | refine Below.setCell ?_ (by first | omega | (simp; done) | (simp; omega)) _ | refine Below.drew ?_))
  replace hX := hX.below hb hX.lt
  replace hL := hL.below hb hL.lt
  replace hB := hB.trans (hb.mono hs)
  replace hs := hB.size
  clear hb
  generalize w1.alloc (.cells #[.string ⟨#[99, 111, 110, 116, 97, 99, 116]⟩, .string ⟨#[114, 97, 110, 103, 101]⟩] 9) = w2 at *
  generalize hzz : w1.heap.size = b2 at *
  clear hzz
  have y0 : w2.cell? ⟨w.heap.size, 0, none⟩ = some (.int .i64 3) := hX.cell 0
  have y1 : w2.cell? ⟨w.heap.size, 1, none⟩ = some (.int .i64 2) := hX.cell 1
  have lt_y := hX.lt
  have l0 : w2.cell? ⟨b1, 2, none⟩ = some (.string ⟨#[99]⟩) := hL.cell 2
  have k0 : w2.cell? ⟨b2, 1, none⟩ = some (.string ⟨#[114, 97, 110, 103, 101]⟩) := hK.cell 1
  have lt_l := hL.lt
  have lt_k := hK.lt
  have q_y0 := fun d os => cell_regrown y0 d os
  have q_y1 := fun d os => cell_regrown y1 d os
  have q_l0 := fun d os => cell_regrown l0 d os
  have q_k0 := fun d os => cell_regrown k0 d os
  try simp only [List.append]
  refine wp_region_grown_tail 12 (by kernel_rfl) (by kernel_rfl) ?_
  simp only [Nat.reduceAdd, List.take_succ_cons, List.take_zero]
  repeat (go_big_quiet_step (fail))
  refine wpQuiet_nil ?_
  intro w3 hqw
  obtain ⟨pq, rfl⟩ := hqw
  clear q_y0 q_y1 q_l0 q_k0
  have hb := below_regrown w2 pq.d pq.os
  replace hB := hB.trans (hb.mono hs)
  replace hs := hB.size
  clear hb
  clear y0 y1 l0 k0 lt_y lt_l lt_k hX hL hK
  generalize grow (redrawn w2 pq.d) pq.os = w3 at *
  go_wp2_with fail
  have ho := own_lit w3 w.heap.size 9 1 2 #[.string ⟨#[99]⟩, .string ⟨#[114, 97, 110, 103, 101]⟩] hs rfl (by simp [maxLen])
  go_ret
  exact ⟨w3.heap.size, rfl, ho, hB.alloc hs _⟩
theorem known_cases {d : Dr} (h : knownD d = true) : (d.op = 1 ∨ d.op = 2 ∨ d.op = 3) ∧ (d.kd = 1 ∨ d.kd = 2) := by
  obtain ⟨_, _, _, _, _, _, _, h1, h2⟩ := form_nums d h
  exact ⟨h1, h2⟩
theorem first_any (d : Dr) (h : knownD d = true) (w : World) : Calls Tryz.prog 36 #[.agg #[.int .i64 d.op, .int .i64 d.kd, .int .i64 d.id, .int .i64 d.fr, .int .i64 d.tn, .int .i64 d.st, .int .i64 d.en, .int .i64 d.rt, .int .i64 d.rf, .int .i64 d.rn, .int .i64 d.rs, .int .i64 d.re, .int .i64 d.ro]] w fun e w' => ∃ g, e = .returned (.slice (some ⟨g, 0, none⟩) 2 2) ∧ w'.ownsRow w.heap.size 9 1 (.slice (some ⟨g, 0, none⟩) 2 2) 2 (vs [gS opW d.op.toNat, gS kdW d.kd.toNat]) ∧ Below w.heap.size w w' := by
  obtain ⟨h1, h2⟩ := known_cases h
  obtain ⟨op, kd, id, fr, tn, st, en, rt, rf, rn, rs, re, ro⟩ := d
  dsimp only at h1 h2
  rcases h1 with rfl | rfl | rfl <;> rcases h2 with rfl | rfl
  · exact first_11 id fr tn st en rt rf rn rs re ro w
  · exact first_12 id fr tn st en rt rf rn rs re ro w
  · exact first_21 id fr tn st en rt rf rn rs re ro w
  · exact first_22 id fr tn st en rt rf rn rs re ro w
  · exact first_31 id fr tn st en rt rf rn rs re ro w
  · exact first_32 id fr tn st en rt rf rn rs re ro w
set_option maxHeartbeats 8000000 in
set_option maxRecDepth 100000 in
theorem rnums_11 (id fr tn st en rt rf rn rs re ro : Int) (w : World) : Calls Tryz.prog 37 #[.agg #[.int .i64 1, .int .i64 1, .int .i64 id, .int .i64 fr, .int .i64 tn, .int .i64 st, .int .i64 en, .int .i64 rt, .int .i64 rf, .int .i64 rn, .int .i64 rs, .int .i64 re, .int .i64 ro]] w fun e w' => ∃ v, e = .returned v ∧ w'.ownsRow w.heap.size 3 1 v 6 ([id, fr, tn, st, en, rt].map (Value.int .i64)) ∧ Below w.heap.size w w' := by
  have hX := Blok.new w 41 #[.int .i64 1, .int .i64 1, .int .i64 id, .int .i64 fr, .int .i64 tn, .int .i64 st, .int .i64 en, .int .i64 rt, .int .i64 rf, .int .i64 rn, .int .i64 rs, .int .i64 re, .int .i64 ro]
  have hB : Below w.heap.size w (w.alloc (.cells #[.int .i64 1, .int .i64 1, .int .i64 id, .int .i64 fr, .int .i64 tn, .int .i64 st, .int .i64 en, .int .i64 rt, .int .i64 rf, .int .i64 rn, .int .i64 rs, .int .i64 re, .int .i64 ro] 41)) := by (repeat (first | exact Below.refl _ _ | refine Below.alloc ?_ (by first | omega | (simp; done) | (simp; omega)) _ | refine Below.setCell ?_ (by first | omega | (simp; done) | (simp; omega)) _ | refine Below.drew ?_))
  have hs := hB.size
  go_enter Tryz.func37, Tryz.ntmps37
  go_upto_region 1 with fail
  generalize w.alloc (.cells #[.int .i64 1, .int .i64 1, .int .i64 id, .int .i64 fr, .int .i64 tn, .int .i64 st, .int .i64 en, .int .i64 rt, .int .i64 rf, .int .i64 rn, .int .i64 rs, .int .i64 re, .int .i64 ro] 41) = w0 at *
  have y0 : w0.cell? ⟨w.heap.size, 0, none⟩ = some (.int .i64 1) := hX.cell 0
  have y1 : w0.cell? ⟨w.heap.size, 1, none⟩ = some (.int .i64 1) := hX.cell 1
  have y2 : w0.cell? ⟨w.heap.size, 2, none⟩ = some (.int .i64 id) := hX.cell 2
  have y3 : w0.cell? ⟨w.heap.size, 3, none⟩ = some (.int .i64 fr) := hX.cell 3
  have y4 : w0.cell? ⟨w.heap.size, 4, none⟩ = some (.int .i64 tn) := hX.cell 4
  have y5 : w0.cell? ⟨w.heap.size, 5, none⟩ = some (.int .i64 st) := hX.cell 5
  have y6 : w0.cell? ⟨w.heap.size, 6, none⟩ = some (.int .i64 en) := hX.cell 6
  have y7 : w0.cell? ⟨w.heap.size, 7, none⟩ = some (.int .i64 rt) := hX.cell 7
  have y8 : w0.cell? ⟨w.heap.size, 8, none⟩ = some (.int .i64 rf) := hX.cell 8
  have y9 : w0.cell? ⟨w.heap.size, 9, none⟩ = some (.int .i64 rn) := hX.cell 9
  have y10 : w0.cell? ⟨w.heap.size, 10, none⟩ = some (.int .i64 rs) := hX.cell 10
  have y11 : w0.cell? ⟨w.heap.size, 11, none⟩ = some (.int .i64 re) := hX.cell 11
  have y12 : w0.cell? ⟨w.heap.size, 12, none⟩ = some (.int .i64 ro) := hX.cell 12
  have lt_y := hX.lt
  go_upto_region 2 with fail
  have hC := Blok.new w0 39 #[.int .i64 id, .int .i64 fr, .int .i64 tn, .int .i64 st, .int .i64 en, .int .i64 rt]
  have hb : Below w0.heap.size w0 (w0.alloc (.cells #[.int .i64 id, .int .i64 fr, .int .i64 tn, .int .i64 st, .int .i64 en, .int .i64 rt] 39)) := by (repeat (first | exact Below.refl _ _ | refine Below.alloc ?_ (by first | omega | (simp; done) | (simp; omega)) _ | refine Below.setCell ?_ (by first | omega | (simp; done) | (simp; omega)) _ | refine Below.drew ?_))
  clear y0 y1 y2 y3 y4 y5 y6 y7 y8 y9 y10 y11 y12 lt_y
  replace hX := hX.below hb hX.lt
  replace hB := hB.trans (hb.mono hs)
  replace hs := hB.size
  clear hb
  generalize w0.alloc (.cells #[.int .i64 id, .int .i64 fr, .int .i64 tn, .int .i64 st, .int .i64 en, .int .i64 rt] 39) = w1 at *
  generalize hzz : w0.heap.size = b1 at *
  clear hzz
  have y0 : w1.cell? ⟨w.heap.size, 0, none⟩ = some (.int .i64 1) := hX.cell 0
  have y1 : w1.cell? ⟨w.heap.size, 1, none⟩ = some (.int .i64 1) := hX.cell 1
  have y2 : w1.cell? ⟨w.heap.size, 2, none⟩ = some (.int .i64 id) := hX.cell 2
  have y3 : w1.cell? ⟨w.heap.size, 3, none⟩ = some (.int .i64 fr) := hX.cell 3
  have y4 : w1.cell? ⟨w.heap.size, 4, none⟩ = some (.int .i64 tn) := hX.cell 4
  have y5 : w1.cell? ⟨w.heap.size, 5, none⟩ = some (.int .i64 st) := hX.cell 5
  have y6 : w1.cell? ⟨w.heap.size, 6, none⟩ = some (.int .i64 en) := hX.cell 6
  have y7 : w1.cell? ⟨w.heap.size, 7, none⟩ = some (.int .i64 rt) := hX.cell 7
  have y8 : w1.cell? ⟨w.heap.size, 8, none⟩ = some (.int .i64 rf) := hX.cell 8
  have y9 : w1.cell? ⟨w.heap.size, 9, none⟩ = some (.int .i64 rn) := hX.cell 9
  have y10 : w1.cell? ⟨w.heap.size, 10, none⟩ = some (.int .i64 rs) := hX.cell 10
  have y11 : w1.cell? ⟨w.heap.size, 11, none⟩ = some (.int .i64 re) := hX.cell 11
  have y12 : w1.cell? ⟨w.heap.size, 12, none⟩ = some (.int .i64 ro) := hX.cell 12
  have lt_y := hX.lt
  go_upto_region 3 with fail
  have hR := Blok.new w1 37 #[.int .i64 rf, .int .i64 rn, .int .i64 rs, .int .i64 re, .int .i64 ro]
  have hb : Below w1.heap.size w1 (w1.alloc (.cells #[.int .i64 rf, .int .i64 rn, .int .i64 rs, .int .i64 re, .int .i64 ro] 37)) := by (repeat (first | exact Below.refl _ _ | refine Below.alloc ?_ (by first | omega | (simp; done) | (simp; omega)) _ | refine Below.setCell ?_ (by first | omega | (simp; done) | (simp; omega)) _ | refine Below.drew ?_))
  clear y0 y1 y2 y3 y4 y5 y6 y7 y8 y9 y10 y11 y12 lt_y
  replace hX := hX.below hb hX.lt
  replace hC := hC.below hb hC.lt
  replace hB := hB.trans (hb.mono hs)
  replace hs := hB.size
  clear hb
  generalize w1.alloc (.cells #[.int .i64 rf, .int .i64 rn, .int .i64 rs, .int .i64 re, .int .i64 ro] 37) = w2 at *
  generalize hzz : w1.heap.size = b2 at *
  clear hzz
  have y0 : w2.cell? ⟨w.heap.size, 0, none⟩ = some (.int .i64 1) := hX.cell 0
  have y1 : w2.cell? ⟨w.heap.size, 1, none⟩ = some (.int .i64 1) := hX.cell 1
  have lt_y := hX.lt
  have c0 : w2.cell? ⟨b1, 0, none⟩ = some (.int .i64 id) := hC.cell 0
  have c1 : w2.cell? ⟨b1, 1, none⟩ = some (.int .i64 fr) := hC.cell 1
  have c2 : w2.cell? ⟨b1, 2, none⟩ = some (.int .i64 tn) := hC.cell 2
  have c3 : w2.cell? ⟨b1, 3, none⟩ = some (.int .i64 st) := hC.cell 3
  have c4 : w2.cell? ⟨b1, 4, none⟩ = some (.int .i64 en) := hC.cell 4
  have c5 : w2.cell? ⟨b1, 5, none⟩ = some (.int .i64 rt) := hC.cell 5
  have lt_c := hC.lt
  have r0 : w2.cell? ⟨b2, 0, none⟩ = some (.int .i64 rf) := hR.cell 0
  have r1 : w2.cell? ⟨b2, 1, none⟩ = some (.int .i64 rn) := hR.cell 1
  have r2 : w2.cell? ⟨b2, 2, none⟩ = some (.int .i64 rs) := hR.cell 2
  have r3 : w2.cell? ⟨b2, 3, none⟩ = some (.int .i64 re) := hR.cell 3
  have r4 : w2.cell? ⟨b2, 4, none⟩ = some (.int .i64 ro) := hR.cell 4
  have lt_r := hR.lt
  clear hX hC hR
  go_wp2_with fail
  have ho := own_lit w2 w.heap.size 3 1 6 #[.int .i64 id, .int .i64 fr, .int .i64 tn, .int .i64 st, .int .i64 en, .int .i64 rt] hs rfl (by simp [maxLen])
  go_ret
  exact ⟨_, rfl, ho, hB.alloc hs _⟩
set_option maxHeartbeats 8000000 in
set_option maxRecDepth 100000 in
theorem rnums_21 (id fr tn st en rt rf rn rs re ro : Int) (w : World) : Calls Tryz.prog 37 #[.agg #[.int .i64 2, .int .i64 1, .int .i64 id, .int .i64 fr, .int .i64 tn, .int .i64 st, .int .i64 en, .int .i64 rt, .int .i64 rf, .int .i64 rn, .int .i64 rs, .int .i64 re, .int .i64 ro]] w fun e w' => ∃ v, e = .returned v ∧ w'.ownsRow w.heap.size 3 1 v 1 ([id].map (Value.int .i64)) ∧ Below w.heap.size w w' := by
  have hX := Blok.new w 41 #[.int .i64 2, .int .i64 1, .int .i64 id, .int .i64 fr, .int .i64 tn, .int .i64 st, .int .i64 en, .int .i64 rt, .int .i64 rf, .int .i64 rn, .int .i64 rs, .int .i64 re, .int .i64 ro]
  have hB : Below w.heap.size w (w.alloc (.cells #[.int .i64 2, .int .i64 1, .int .i64 id, .int .i64 fr, .int .i64 tn, .int .i64 st, .int .i64 en, .int .i64 rt, .int .i64 rf, .int .i64 rn, .int .i64 rs, .int .i64 re, .int .i64 ro] 41)) := by (repeat (first | exact Below.refl _ _ | refine Below.alloc ?_ (by first | omega | (simp; done) | (simp; omega)) _ | refine Below.setCell ?_ (by first | omega | (simp; done) | (simp; omega)) _ | refine Below.drew ?_))
  have hs := hB.size
  go_enter Tryz.func37, Tryz.ntmps37
  go_upto_region 1 with fail
  generalize w.alloc (.cells #[.int .i64 2, .int .i64 1, .int .i64 id, .int .i64 fr, .int .i64 tn, .int .i64 st, .int .i64 en, .int .i64 rt, .int .i64 rf, .int .i64 rn, .int .i64 rs, .int .i64 re, .int .i64 ro] 41) = w0 at *
  have y0 : w0.cell? ⟨w.heap.size, 0, none⟩ = some (.int .i64 2) := hX.cell 0
  have y1 : w0.cell? ⟨w.heap.size, 1, none⟩ = some (.int .i64 1) := hX.cell 1
  have y2 : w0.cell? ⟨w.heap.size, 2, none⟩ = some (.int .i64 id) := hX.cell 2
  have y3 : w0.cell? ⟨w.heap.size, 3, none⟩ = some (.int .i64 fr) := hX.cell 3
  have y4 : w0.cell? ⟨w.heap.size, 4, none⟩ = some (.int .i64 tn) := hX.cell 4
  have y5 : w0.cell? ⟨w.heap.size, 5, none⟩ = some (.int .i64 st) := hX.cell 5
  have y6 : w0.cell? ⟨w.heap.size, 6, none⟩ = some (.int .i64 en) := hX.cell 6
  have y7 : w0.cell? ⟨w.heap.size, 7, none⟩ = some (.int .i64 rt) := hX.cell 7
  have y8 : w0.cell? ⟨w.heap.size, 8, none⟩ = some (.int .i64 rf) := hX.cell 8
  have y9 : w0.cell? ⟨w.heap.size, 9, none⟩ = some (.int .i64 rn) := hX.cell 9
  have y10 : w0.cell? ⟨w.heap.size, 10, none⟩ = some (.int .i64 rs) := hX.cell 10
  have y11 : w0.cell? ⟨w.heap.size, 11, none⟩ = some (.int .i64 re) := hX.cell 11
  have y12 : w0.cell? ⟨w.heap.size, 12, none⟩ = some (.int .i64 ro) := hX.cell 12
  have lt_y := hX.lt
  go_upto_region 2 with fail
  have hC := Blok.new w0 39 #[.int .i64 id, .int .i64 fr, .int .i64 tn, .int .i64 st, .int .i64 en, .int .i64 rt]
  have hb : Below w0.heap.size w0 (w0.alloc (.cells #[.int .i64 id, .int .i64 fr, .int .i64 tn, .int .i64 st, .int .i64 en, .int .i64 rt] 39)) := by (repeat (first | exact Below.refl _ _ | refine Below.alloc ?_ (by first | omega | (simp; done) | (simp; omega)) _ | refine Below.setCell ?_ (by first | omega | (simp; done) | (simp; omega)) _ | refine Below.drew ?_))
  clear y0 y1 y2 y3 y4 y5 y6 y7 y8 y9 y10 y11 y12 lt_y
  replace hX := hX.below hb hX.lt
  replace hB := hB.trans (hb.mono hs)
  replace hs := hB.size
  clear hb
  generalize w0.alloc (.cells #[.int .i64 id, .int .i64 fr, .int .i64 tn, .int .i64 st, .int .i64 en, .int .i64 rt] 39) = w1 at *
  generalize hzz : w0.heap.size = b1 at *
  clear hzz
  have y0 : w1.cell? ⟨w.heap.size, 0, none⟩ = some (.int .i64 2) := hX.cell 0
  have y1 : w1.cell? ⟨w.heap.size, 1, none⟩ = some (.int .i64 1) := hX.cell 1
  have y2 : w1.cell? ⟨w.heap.size, 2, none⟩ = some (.int .i64 id) := hX.cell 2
  have y3 : w1.cell? ⟨w.heap.size, 3, none⟩ = some (.int .i64 fr) := hX.cell 3
  have y4 : w1.cell? ⟨w.heap.size, 4, none⟩ = some (.int .i64 tn) := hX.cell 4
  have y5 : w1.cell? ⟨w.heap.size, 5, none⟩ = some (.int .i64 st) := hX.cell 5
  have y6 : w1.cell? ⟨w.heap.size, 6, none⟩ = some (.int .i64 en) := hX.cell 6
  have y7 : w1.cell? ⟨w.heap.size, 7, none⟩ = some (.int .i64 rt) := hX.cell 7
  have y8 : w1.cell? ⟨w.heap.size, 8, none⟩ = some (.int .i64 rf) := hX.cell 8
  have y9 : w1.cell? ⟨w.heap.size, 9, none⟩ = some (.int .i64 rn) := hX.cell 9
  have y10 : w1.cell? ⟨w.heap.size, 10, none⟩ = some (.int .i64 rs) := hX.cell 10
  have y11 : w1.cell? ⟨w.heap.size, 11, none⟩ = some (.int .i64 re) := hX.cell 11
  have y12 : w1.cell? ⟨w.heap.size, 12, none⟩ = some (.int .i64 ro) := hX.cell 12
  have lt_y := hX.lt
  go_upto_region 3 with fail
  have hR := Blok.new w1 37 #[.int .i64 rf, .int .i64 rn, .int .i64 rs, .int .i64 re, .int .i64 ro]
  have hb : Below w1.heap.size w1 (w1.alloc (.cells #[.int .i64 rf, .int .i64 rn, .int .i64 rs, .int .i64 re, .int .i64 ro] 37)) := by (repeat (first | exact Below.refl _ _ | refine Below.alloc ?_ (by first | omega | (simp; done) | (simp; omega)) _ | refine Below.setCell ?_ (by first | omega | (simp; done) | (simp; omega)) _ | refine Below.drew ?_))
  clear y0 y1 y2 y3 y4 y5 y6 y7 y8 y9 y10 y11 y12 lt_y
  replace hX := hX.below hb hX.lt
  replace hC := hC.below hb hC.lt
  replace hB := hB.trans (hb.mono hs)
  replace hs := hB.size
  clear hb
  generalize w1.alloc (.cells #[.int .i64 rf, .int .i64 rn, .int .i64 rs, .int .i64 re, .int .i64 ro] 37) = w2 at *
  generalize hzz : w1.heap.size = b2 at *
  clear hzz
  have y0 : w2.cell? ⟨w.heap.size, 0, none⟩ = some (.int .i64 2) := hX.cell 0
  have y1 : w2.cell? ⟨w.heap.size, 1, none⟩ = some (.int .i64 1) := hX.cell 1
  have lt_y := hX.lt
  have c0 : w2.cell? ⟨b1, 0, none⟩ = some (.int .i64 id) := hC.cell 0
  have c1 : w2.cell? ⟨b1, 1, none⟩ = some (.int .i64 fr) := hC.cell 1
  have c2 : w2.cell? ⟨b1, 2, none⟩ = some (.int .i64 tn) := hC.cell 2
  have c3 : w2.cell? ⟨b1, 3, none⟩ = some (.int .i64 st) := hC.cell 3
  have c4 : w2.cell? ⟨b1, 4, none⟩ = some (.int .i64 en) := hC.cell 4
  have c5 : w2.cell? ⟨b1, 5, none⟩ = some (.int .i64 rt) := hC.cell 5
  have lt_c := hC.lt
  have r0 : w2.cell? ⟨b2, 0, none⟩ = some (.int .i64 rf) := hR.cell 0
  have r1 : w2.cell? ⟨b2, 1, none⟩ = some (.int .i64 rn) := hR.cell 1
  have r2 : w2.cell? ⟨b2, 2, none⟩ = some (.int .i64 rs) := hR.cell 2
  have r3 : w2.cell? ⟨b2, 3, none⟩ = some (.int .i64 re) := hR.cell 3
  have r4 : w2.cell? ⟨b2, 4, none⟩ = some (.int .i64 ro) := hR.cell 4
  have lt_r := hR.lt
  clear hX hC hR
  go_wp2_with fail
  have ho := own_lit w2 w.heap.size 3 1 1 #[.int .i64 id] hs rfl (by simp [maxLen])
  go_ret
  exact ⟨_, rfl, ho, hB.alloc hs _⟩
set_option maxHeartbeats 8000000 in
set_option maxRecDepth 100000 in
theorem rnums_31 (id fr tn st en rt rf rn rs re ro : Int) (w : World) : Calls Tryz.prog 37 #[.agg #[.int .i64 3, .int .i64 1, .int .i64 id, .int .i64 fr, .int .i64 tn, .int .i64 st, .int .i64 en, .int .i64 rt, .int .i64 rf, .int .i64 rn, .int .i64 rs, .int .i64 re, .int .i64 ro]] w fun e w' => ∃ v, e = .returned v ∧ w'.ownsRow w.heap.size 3 1 v 2 ([id, rt].map (Value.int .i64)) ∧ Below w.heap.size w w' := by
  have hX := Blok.new w 41 #[.int .i64 3, .int .i64 1, .int .i64 id, .int .i64 fr, .int .i64 tn, .int .i64 st, .int .i64 en, .int .i64 rt, .int .i64 rf, .int .i64 rn, .int .i64 rs, .int .i64 re, .int .i64 ro]
  have hB : Below w.heap.size w (w.alloc (.cells #[.int .i64 3, .int .i64 1, .int .i64 id, .int .i64 fr, .int .i64 tn, .int .i64 st, .int .i64 en, .int .i64 rt, .int .i64 rf, .int .i64 rn, .int .i64 rs, .int .i64 re, .int .i64 ro] 41)) := by (repeat (first | exact Below.refl _ _ | refine Below.alloc ?_ (by first | omega | (simp; done) | (simp; omega)) _ | refine Below.setCell ?_ (by first | omega | (simp; done) | (simp; omega)) _ | refine Below.drew ?_))
  have hs := hB.size
  go_enter Tryz.func37, Tryz.ntmps37
  go_upto_region 1 with fail
  generalize w.alloc (.cells #[.int .i64 3, .int .i64 1, .int .i64 id, .int .i64 fr, .int .i64 tn, .int .i64 st, .int .i64 en, .int .i64 rt, .int .i64 rf, .int .i64 rn, .int .i64 rs, .int .i64 re, .int .i64 ro] 41) = w0 at *
  have y0 : w0.cell? ⟨w.heap.size, 0, none⟩ = some (.int .i64 3) := hX.cell 0
  have y1 : w0.cell? ⟨w.heap.size, 1, none⟩ = some (.int .i64 1) := hX.cell 1
  have y2 : w0.cell? ⟨w.heap.size, 2, none⟩ = some (.int .i64 id) := hX.cell 2
  have y3 : w0.cell? ⟨w.heap.size, 3, none⟩ = some (.int .i64 fr) := hX.cell 3
  have y4 : w0.cell? ⟨w.heap.size, 4, none⟩ = some (.int .i64 tn) := hX.cell 4
  have y5 : w0.cell? ⟨w.heap.size, 5, none⟩ = some (.int .i64 st) := hX.cell 5
  have y6 : w0.cell? ⟨w.heap.size, 6, none⟩ = some (.int .i64 en) := hX.cell 6
  have y7 : w0.cell? ⟨w.heap.size, 7, none⟩ = some (.int .i64 rt) := hX.cell 7
  have y8 : w0.cell? ⟨w.heap.size, 8, none⟩ = some (.int .i64 rf) := hX.cell 8
  have y9 : w0.cell? ⟨w.heap.size, 9, none⟩ = some (.int .i64 rn) := hX.cell 9
  have y10 : w0.cell? ⟨w.heap.size, 10, none⟩ = some (.int .i64 rs) := hX.cell 10
  have y11 : w0.cell? ⟨w.heap.size, 11, none⟩ = some (.int .i64 re) := hX.cell 11
  have y12 : w0.cell? ⟨w.heap.size, 12, none⟩ = some (.int .i64 ro) := hX.cell 12
  have lt_y := hX.lt
  go_upto_region 2 with fail
  have hC := Blok.new w0 39 #[.int .i64 id, .int .i64 fr, .int .i64 tn, .int .i64 st, .int .i64 en, .int .i64 rt]
  have hb : Below w0.heap.size w0 (w0.alloc (.cells #[.int .i64 id, .int .i64 fr, .int .i64 tn, .int .i64 st, .int .i64 en, .int .i64 rt] 39)) := by (repeat (first | exact Below.refl _ _ | refine Below.alloc ?_ (by first | omega | (simp; done) | (simp; omega)) _ | refine Below.setCell ?_ (by first | omega | (simp; done) | (simp; omega)) _ | refine Below.drew ?_))
  clear y0 y1 y2 y3 y4 y5 y6 y7 y8 y9 y10 y11 y12 lt_y
  replace hX := hX.below hb hX.lt
  replace hB := hB.trans (hb.mono hs)
  replace hs := hB.size
  clear hb
  generalize w0.alloc (.cells #[.int .i64 id, .int .i64 fr, .int .i64 tn, .int .i64 st, .int .i64 en, .int .i64 rt] 39) = w1 at *
  generalize hzz : w0.heap.size = b1 at *
  clear hzz
  have y0 : w1.cell? ⟨w.heap.size, 0, none⟩ = some (.int .i64 3) := hX.cell 0
  have y1 : w1.cell? ⟨w.heap.size, 1, none⟩ = some (.int .i64 1) := hX.cell 1
  have y2 : w1.cell? ⟨w.heap.size, 2, none⟩ = some (.int .i64 id) := hX.cell 2
  have y3 : w1.cell? ⟨w.heap.size, 3, none⟩ = some (.int .i64 fr) := hX.cell 3
  have y4 : w1.cell? ⟨w.heap.size, 4, none⟩ = some (.int .i64 tn) := hX.cell 4
  have y5 : w1.cell? ⟨w.heap.size, 5, none⟩ = some (.int .i64 st) := hX.cell 5
  have y6 : w1.cell? ⟨w.heap.size, 6, none⟩ = some (.int .i64 en) := hX.cell 6
  have y7 : w1.cell? ⟨w.heap.size, 7, none⟩ = some (.int .i64 rt) := hX.cell 7
  have y8 : w1.cell? ⟨w.heap.size, 8, none⟩ = some (.int .i64 rf) := hX.cell 8
  have y9 : w1.cell? ⟨w.heap.size, 9, none⟩ = some (.int .i64 rn) := hX.cell 9
  have y10 : w1.cell? ⟨w.heap.size, 10, none⟩ = some (.int .i64 rs) := hX.cell 10
  have y11 : w1.cell? ⟨w.heap.size, 11, none⟩ = some (.int .i64 re) := hX.cell 11
  have y12 : w1.cell? ⟨w.heap.size, 12, none⟩ = some (.int .i64 ro) := hX.cell 12
  have lt_y := hX.lt
  go_upto_region 3 with fail
  have hR := Blok.new w1 37 #[.int .i64 rf, .int .i64 rn, .int .i64 rs, .int .i64 re, .int .i64 ro]
  have hb : Below w1.heap.size w1 (w1.alloc (.cells #[.int .i64 rf, .int .i64 rn, .int .i64 rs, .int .i64 re, .int .i64 ro] 37)) := by (repeat (first | exact Below.refl _ _ | refine Below.alloc ?_ (by first | omega | (simp; done) | (simp; omega)) _ | refine Below.setCell ?_ (by first | omega | (simp; done) | (simp; omega)) _ | refine Below.drew ?_))
  clear y0 y1 y2 y3 y4 y5 y6 y7 y8 y9 y10 y11 y12 lt_y
  replace hX := hX.below hb hX.lt
  replace hC := hC.below hb hC.lt
  replace hB := hB.trans (hb.mono hs)
  replace hs := hB.size
  clear hb
  generalize w1.alloc (.cells #[.int .i64 rf, .int .i64 rn, .int .i64 rs, .int .i64 re, .int .i64 ro] 37) = w2 at *
  generalize hzz : w1.heap.size = b2 at *
  clear hzz
  have y0 : w2.cell? ⟨w.heap.size, 0, none⟩ = some (.int .i64 3) := hX.cell 0
  have y1 : w2.cell? ⟨w.heap.size, 1, none⟩ = some (.int .i64 1) := hX.cell 1
  have lt_y := hX.lt
  have c0 : w2.cell? ⟨b1, 0, none⟩ = some (.int .i64 id) := hC.cell 0
  have c1 : w2.cell? ⟨b1, 1, none⟩ = some (.int .i64 fr) := hC.cell 1
  have c2 : w2.cell? ⟨b1, 2, none⟩ = some (.int .i64 tn) := hC.cell 2
  have c3 : w2.cell? ⟨b1, 3, none⟩ = some (.int .i64 st) := hC.cell 3
  have c4 : w2.cell? ⟨b1, 4, none⟩ = some (.int .i64 en) := hC.cell 4
  have c5 : w2.cell? ⟨b1, 5, none⟩ = some (.int .i64 rt) := hC.cell 5
  have lt_c := hC.lt
  have r0 : w2.cell? ⟨b2, 0, none⟩ = some (.int .i64 rf) := hR.cell 0
  have r1 : w2.cell? ⟨b2, 1, none⟩ = some (.int .i64 rn) := hR.cell 1
  have r2 : w2.cell? ⟨b2, 2, none⟩ = some (.int .i64 rs) := hR.cell 2
  have r3 : w2.cell? ⟨b2, 3, none⟩ = some (.int .i64 re) := hR.cell 3
  have r4 : w2.cell? ⟨b2, 4, none⟩ = some (.int .i64 ro) := hR.cell 4
  have lt_r := hR.lt
  clear hX hC hR
  go_wp2_with fail
  have ho := own_lit w2 w.heap.size 3 1 2 #[.int .i64 id, .int .i64 rt] hs rfl (by simp [maxLen])
  go_ret
  exact ⟨_, rfl, ho, hB.alloc hs _⟩
set_option maxHeartbeats 8000000 in
set_option maxRecDepth 100000 in
theorem rnums_12 (id fr tn st en rt rf rn rs re ro : Int) (w : World) : Calls Tryz.prog 37 #[.agg #[.int .i64 1, .int .i64 2, .int .i64 id, .int .i64 fr, .int .i64 tn, .int .i64 st, .int .i64 en, .int .i64 rt, .int .i64 rf, .int .i64 rn, .int .i64 rs, .int .i64 re, .int .i64 ro]] w fun e w' => ∃ v, e = .returned v ∧ w'.ownsRow w.heap.size 3 1 v 5 ([rf, rn, rs, re, ro].map (Value.int .i64)) ∧ Below w.heap.size w w' := by
  have hX := Blok.new w 41 #[.int .i64 1, .int .i64 2, .int .i64 id, .int .i64 fr, .int .i64 tn, .int .i64 st, .int .i64 en, .int .i64 rt, .int .i64 rf, .int .i64 rn, .int .i64 rs, .int .i64 re, .int .i64 ro]
  have hB : Below w.heap.size w (w.alloc (.cells #[.int .i64 1, .int .i64 2, .int .i64 id, .int .i64 fr, .int .i64 tn, .int .i64 st, .int .i64 en, .int .i64 rt, .int .i64 rf, .int .i64 rn, .int .i64 rs, .int .i64 re, .int .i64 ro] 41)) := by (repeat (first | exact Below.refl _ _ | refine Below.alloc ?_ (by first | omega | (simp; done) | (simp; omega)) _ | refine Below.setCell ?_ (by first | omega | (simp; done) | (simp; omega)) _ | refine Below.drew ?_))
  have hs := hB.size
  go_enter Tryz.func37, Tryz.ntmps37
  go_upto_region 1 with fail
  generalize w.alloc (.cells #[.int .i64 1, .int .i64 2, .int .i64 id, .int .i64 fr, .int .i64 tn, .int .i64 st, .int .i64 en, .int .i64 rt, .int .i64 rf, .int .i64 rn, .int .i64 rs, .int .i64 re, .int .i64 ro] 41) = w0 at *
  have y0 : w0.cell? ⟨w.heap.size, 0, none⟩ = some (.int .i64 1) := hX.cell 0
  have y1 : w0.cell? ⟨w.heap.size, 1, none⟩ = some (.int .i64 2) := hX.cell 1
  have y2 : w0.cell? ⟨w.heap.size, 2, none⟩ = some (.int .i64 id) := hX.cell 2
  have y3 : w0.cell? ⟨w.heap.size, 3, none⟩ = some (.int .i64 fr) := hX.cell 3
  have y4 : w0.cell? ⟨w.heap.size, 4, none⟩ = some (.int .i64 tn) := hX.cell 4
  have y5 : w0.cell? ⟨w.heap.size, 5, none⟩ = some (.int .i64 st) := hX.cell 5
  have y6 : w0.cell? ⟨w.heap.size, 6, none⟩ = some (.int .i64 en) := hX.cell 6
  have y7 : w0.cell? ⟨w.heap.size, 7, none⟩ = some (.int .i64 rt) := hX.cell 7
  have y8 : w0.cell? ⟨w.heap.size, 8, none⟩ = some (.int .i64 rf) := hX.cell 8
  have y9 : w0.cell? ⟨w.heap.size, 9, none⟩ = some (.int .i64 rn) := hX.cell 9
  have y10 : w0.cell? ⟨w.heap.size, 10, none⟩ = some (.int .i64 rs) := hX.cell 10
  have y11 : w0.cell? ⟨w.heap.size, 11, none⟩ = some (.int .i64 re) := hX.cell 11
  have y12 : w0.cell? ⟨w.heap.size, 12, none⟩ = some (.int .i64 ro) := hX.cell 12
  have lt_y := hX.lt
  go_upto_region 2 with fail
  have hC := Blok.new w0 39 #[.int .i64 id, .int .i64 fr, .int .i64 tn, .int .i64 st, .int .i64 en, .int .i64 rt]
  have hb : Below w0.heap.size w0 (w0.alloc (.cells #[.int .i64 id, .int .i64 fr, .int .i64 tn, .int .i64 st, .int .i64 en, .int .i64 rt] 39)) := by (repeat (first | exact Below.refl _ _ | refine Below.alloc ?_ (by first | omega | (simp; done) | (simp; omega)) _ | refine Below.setCell ?_ (by first | omega | (simp; done) | (simp; omega)) _ | refine Below.drew ?_))
  clear y0 y1 y2 y3 y4 y5 y6 y7 y8 y9 y10 y11 y12 lt_y
  replace hX := hX.below hb hX.lt
  replace hB := hB.trans (hb.mono hs)
  replace hs := hB.size
  clear hb
  generalize w0.alloc (.cells #[.int .i64 id, .int .i64 fr, .int .i64 tn, .int .i64 st, .int .i64 en, .int .i64 rt] 39) = w1 at *
  generalize hzz : w0.heap.size = b1 at *
  clear hzz
  have y0 : w1.cell? ⟨w.heap.size, 0, none⟩ = some (.int .i64 1) := hX.cell 0
  have y1 : w1.cell? ⟨w.heap.size, 1, none⟩ = some (.int .i64 2) := hX.cell 1
  have y2 : w1.cell? ⟨w.heap.size, 2, none⟩ = some (.int .i64 id) := hX.cell 2
  have y3 : w1.cell? ⟨w.heap.size, 3, none⟩ = some (.int .i64 fr) := hX.cell 3
  have y4 : w1.cell? ⟨w.heap.size, 4, none⟩ = some (.int .i64 tn) := hX.cell 4
  have y5 : w1.cell? ⟨w.heap.size, 5, none⟩ = some (.int .i64 st) := hX.cell 5
  have y6 : w1.cell? ⟨w.heap.size, 6, none⟩ = some (.int .i64 en) := hX.cell 6
  have y7 : w1.cell? ⟨w.heap.size, 7, none⟩ = some (.int .i64 rt) := hX.cell 7
  have y8 : w1.cell? ⟨w.heap.size, 8, none⟩ = some (.int .i64 rf) := hX.cell 8
  have y9 : w1.cell? ⟨w.heap.size, 9, none⟩ = some (.int .i64 rn) := hX.cell 9
  have y10 : w1.cell? ⟨w.heap.size, 10, none⟩ = some (.int .i64 rs) := hX.cell 10
  have y11 : w1.cell? ⟨w.heap.size, 11, none⟩ = some (.int .i64 re) := hX.cell 11
  have y12 : w1.cell? ⟨w.heap.size, 12, none⟩ = some (.int .i64 ro) := hX.cell 12
  have lt_y := hX.lt
  go_upto_region 3 with fail
  have hR := Blok.new w1 37 #[.int .i64 rf, .int .i64 rn, .int .i64 rs, .int .i64 re, .int .i64 ro]
  have hb : Below w1.heap.size w1 (w1.alloc (.cells #[.int .i64 rf, .int .i64 rn, .int .i64 rs, .int .i64 re, .int .i64 ro] 37)) := by (repeat (first | exact Below.refl _ _ | refine Below.alloc ?_ (by first | omega | (simp; done) | (simp; omega)) _ | refine Below.setCell ?_ (by first | omega | (simp; done) | (simp; omega)) _ | refine Below.drew ?_))
  clear y0 y1 y2 y3 y4 y5 y6 y7 y8 y9 y10 y11 y12 lt_y
  replace hX := hX.below hb hX.lt
  replace hC := hC.below hb hC.lt
  replace hB := hB.trans (hb.mono hs)
  replace hs := hB.size
  clear hb
  generalize w1.alloc (.cells #[.int .i64 rf, .int .i64 rn, .int .i64 rs, .int .i64 re, .int .i64 ro] 37) = w2 at *
  generalize hzz : w1.heap.size = b2 at *
  clear hzz
  have y0 : w2.cell? ⟨w.heap.size, 0, none⟩ = some (.int .i64 1) := hX.cell 0
  have y1 : w2.cell? ⟨w.heap.size, 1, none⟩ = some (.int .i64 2) := hX.cell 1
  have lt_y := hX.lt
  have c0 : w2.cell? ⟨b1, 0, none⟩ = some (.int .i64 id) := hC.cell 0
  have c1 : w2.cell? ⟨b1, 1, none⟩ = some (.int .i64 fr) := hC.cell 1
  have c2 : w2.cell? ⟨b1, 2, none⟩ = some (.int .i64 tn) := hC.cell 2
  have c3 : w2.cell? ⟨b1, 3, none⟩ = some (.int .i64 st) := hC.cell 3
  have c4 : w2.cell? ⟨b1, 4, none⟩ = some (.int .i64 en) := hC.cell 4
  have c5 : w2.cell? ⟨b1, 5, none⟩ = some (.int .i64 rt) := hC.cell 5
  have lt_c := hC.lt
  have r0 : w2.cell? ⟨b2, 0, none⟩ = some (.int .i64 rf) := hR.cell 0
  have r1 : w2.cell? ⟨b2, 1, none⟩ = some (.int .i64 rn) := hR.cell 1
  have r2 : w2.cell? ⟨b2, 2, none⟩ = some (.int .i64 rs) := hR.cell 2
  have r3 : w2.cell? ⟨b2, 3, none⟩ = some (.int .i64 re) := hR.cell 3
  have r4 : w2.cell? ⟨b2, 4, none⟩ = some (.int .i64 ro) := hR.cell 4
  have lt_r := hR.lt
  clear hX hC hR
  go_wp2_with fail
  have ho := own_lit w2 w.heap.size 3 1 5 #[.int .i64 rf, .int .i64 rn, .int .i64 rs, .int .i64 re, .int .i64 ro] hs rfl (by simp [maxLen])
  go_ret
  exact ⟨_, rfl, ho, hB.alloc hs _⟩
set_option maxHeartbeats 8000000 in
set_option maxRecDepth 100000 in
theorem rnums_22 (id fr tn st en rt rf rn rs re ro : Int) (w : World) : Calls Tryz.prog 37 #[.agg #[.int .i64 2, .int .i64 2, .int .i64 id, .int .i64 fr, .int .i64 tn, .int .i64 st, .int .i64 en, .int .i64 rt, .int .i64 rf, .int .i64 rn, .int .i64 rs, .int .i64 re, .int .i64 ro]] w fun e w' => ∃ v, e = .returned v ∧ w'.ownsRow w.heap.size 3 1 v 3 ([rf, rn, rs].map (Value.int .i64)) ∧ Below w.heap.size w w' := by
  have hX := Blok.new w 41 #[.int .i64 2, .int .i64 2, .int .i64 id, .int .i64 fr, .int .i64 tn, .int .i64 st, .int .i64 en, .int .i64 rt, .int .i64 rf, .int .i64 rn, .int .i64 rs, .int .i64 re, .int .i64 ro]
  have hB : Below w.heap.size w (w.alloc (.cells #[.int .i64 2, .int .i64 2, .int .i64 id, .int .i64 fr, .int .i64 tn, .int .i64 st, .int .i64 en, .int .i64 rt, .int .i64 rf, .int .i64 rn, .int .i64 rs, .int .i64 re, .int .i64 ro] 41)) := by (repeat (first | exact Below.refl _ _ | refine Below.alloc ?_ (by first | omega | (simp; done) | (simp; omega)) _ | refine Below.setCell ?_ (by first | omega | (simp; done) | (simp; omega)) _ | refine Below.drew ?_))
  have hs := hB.size
  go_enter Tryz.func37, Tryz.ntmps37
  go_upto_region 1 with fail
  generalize w.alloc (.cells #[.int .i64 2, .int .i64 2, .int .i64 id, .int .i64 fr, .int .i64 tn, .int .i64 st, .int .i64 en, .int .i64 rt, .int .i64 rf, .int .i64 rn, .int .i64 rs, .int .i64 re, .int .i64 ro] 41) = w0 at *
  have y0 : w0.cell? ⟨w.heap.size, 0, none⟩ = some (.int .i64 2) := hX.cell 0
  have y1 : w0.cell? ⟨w.heap.size, 1, none⟩ = some (.int .i64 2) := hX.cell 1
  have y2 : w0.cell? ⟨w.heap.size, 2, none⟩ = some (.int .i64 id) := hX.cell 2
  have y3 : w0.cell? ⟨w.heap.size, 3, none⟩ = some (.int .i64 fr) := hX.cell 3
  have y4 : w0.cell? ⟨w.heap.size, 4, none⟩ = some (.int .i64 tn) := hX.cell 4
  have y5 : w0.cell? ⟨w.heap.size, 5, none⟩ = some (.int .i64 st) := hX.cell 5
  have y6 : w0.cell? ⟨w.heap.size, 6, none⟩ = some (.int .i64 en) := hX.cell 6
  have y7 : w0.cell? ⟨w.heap.size, 7, none⟩ = some (.int .i64 rt) := hX.cell 7
  have y8 : w0.cell? ⟨w.heap.size, 8, none⟩ = some (.int .i64 rf) := hX.cell 8
  have y9 : w0.cell? ⟨w.heap.size, 9, none⟩ = some (.int .i64 rn) := hX.cell 9
  have y10 : w0.cell? ⟨w.heap.size, 10, none⟩ = some (.int .i64 rs) := hX.cell 10
  have y11 : w0.cell? ⟨w.heap.size, 11, none⟩ = some (.int .i64 re) := hX.cell 11
  have y12 : w0.cell? ⟨w.heap.size, 12, none⟩ = some (.int .i64 ro) := hX.cell 12
  have lt_y := hX.lt
  go_upto_region 2 with fail
  have hC := Blok.new w0 39 #[.int .i64 id, .int .i64 fr, .int .i64 tn, .int .i64 st, .int .i64 en, .int .i64 rt]
  have hb : Below w0.heap.size w0 (w0.alloc (.cells #[.int .i64 id, .int .i64 fr, .int .i64 tn, .int .i64 st, .int .i64 en, .int .i64 rt] 39)) := by (repeat (first | exact Below.refl _ _ | refine Below.alloc ?_ (by first | omega | (simp; done) | (simp; omega)) _ | refine Below.setCell ?_ (by first | omega | (simp; done) | (simp; omega)) _ | refine Below.drew ?_))
  clear y0 y1 y2 y3 y4 y5 y6 y7 y8 y9 y10 y11 y12 lt_y
  replace hX := hX.below hb hX.lt
  replace hB := hB.trans (hb.mono hs)
  replace hs := hB.size
  clear hb
  generalize w0.alloc (.cells #[.int .i64 id, .int .i64 fr, .int .i64 tn, .int .i64 st, .int .i64 en, .int .i64 rt] 39) = w1 at *
  generalize hzz : w0.heap.size = b1 at *
  clear hzz
  have y0 : w1.cell? ⟨w.heap.size, 0, none⟩ = some (.int .i64 2) := hX.cell 0
  have y1 : w1.cell? ⟨w.heap.size, 1, none⟩ = some (.int .i64 2) := hX.cell 1
  have y2 : w1.cell? ⟨w.heap.size, 2, none⟩ = some (.int .i64 id) := hX.cell 2
  have y3 : w1.cell? ⟨w.heap.size, 3, none⟩ = some (.int .i64 fr) := hX.cell 3
  have y4 : w1.cell? ⟨w.heap.size, 4, none⟩ = some (.int .i64 tn) := hX.cell 4
  have y5 : w1.cell? ⟨w.heap.size, 5, none⟩ = some (.int .i64 st) := hX.cell 5
  have y6 : w1.cell? ⟨w.heap.size, 6, none⟩ = some (.int .i64 en) := hX.cell 6
  have y7 : w1.cell? ⟨w.heap.size, 7, none⟩ = some (.int .i64 rt) := hX.cell 7
  have y8 : w1.cell? ⟨w.heap.size, 8, none⟩ = some (.int .i64 rf) := hX.cell 8
  have y9 : w1.cell? ⟨w.heap.size, 9, none⟩ = some (.int .i64 rn) := hX.cell 9
  have y10 : w1.cell? ⟨w.heap.size, 10, none⟩ = some (.int .i64 rs) := hX.cell 10
  have y11 : w1.cell? ⟨w.heap.size, 11, none⟩ = some (.int .i64 re) := hX.cell 11
  have y12 : w1.cell? ⟨w.heap.size, 12, none⟩ = some (.int .i64 ro) := hX.cell 12
  have lt_y := hX.lt
  go_upto_region 3 with fail
  have hR := Blok.new w1 37 #[.int .i64 rf, .int .i64 rn, .int .i64 rs, .int .i64 re, .int .i64 ro]
  have hb : Below w1.heap.size w1 (w1.alloc (.cells #[.int .i64 rf, .int .i64 rn, .int .i64 rs, .int .i64 re, .int .i64 ro] 37)) := by (repeat (first | exact Below.refl _ _ | refine Below.alloc ?_ (by first | omega | (simp; done) | (simp; omega)) _ | refine Below.setCell ?_ (by first | omega | (simp; done) | (simp; omega)) _ | refine Below.drew ?_))
  clear y0 y1 y2 y3 y4 y5 y6 y7 y8 y9 y10 y11 y12 lt_y
  replace hX := hX.below hb hX.lt
  replace hC := hC.below hb hC.lt
  replace hB := hB.trans (hb.mono hs)
  replace hs := hB.size
  clear hb
  generalize w1.alloc (.cells #[.int .i64 rf, .int .i64 rn, .int .i64 rs, .int .i64 re, .int .i64 ro] 37) = w2 at *
  generalize hzz : w1.heap.size = b2 at *
  clear hzz
  have y0 : w2.cell? ⟨w.heap.size, 0, none⟩ = some (.int .i64 2) := hX.cell 0
  have y1 : w2.cell? ⟨w.heap.size, 1, none⟩ = some (.int .i64 2) := hX.cell 1
  have lt_y := hX.lt
  have c0 : w2.cell? ⟨b1, 0, none⟩ = some (.int .i64 id) := hC.cell 0
  have c1 : w2.cell? ⟨b1, 1, none⟩ = some (.int .i64 fr) := hC.cell 1
  have c2 : w2.cell? ⟨b1, 2, none⟩ = some (.int .i64 tn) := hC.cell 2
  have c3 : w2.cell? ⟨b1, 3, none⟩ = some (.int .i64 st) := hC.cell 3
  have c4 : w2.cell? ⟨b1, 4, none⟩ = some (.int .i64 en) := hC.cell 4
  have c5 : w2.cell? ⟨b1, 5, none⟩ = some (.int .i64 rt) := hC.cell 5
  have lt_c := hC.lt
  have r0 : w2.cell? ⟨b2, 0, none⟩ = some (.int .i64 rf) := hR.cell 0
  have r1 : w2.cell? ⟨b2, 1, none⟩ = some (.int .i64 rn) := hR.cell 1
  have r2 : w2.cell? ⟨b2, 2, none⟩ = some (.int .i64 rs) := hR.cell 2
  have r3 : w2.cell? ⟨b2, 3, none⟩ = some (.int .i64 re) := hR.cell 3
  have r4 : w2.cell? ⟨b2, 4, none⟩ = some (.int .i64 ro) := hR.cell 4
  have lt_r := hR.lt
  clear hX hC hR
  go_wp2_with fail
  have ho := own_lit w2 w.heap.size 3 1 3 #[.int .i64 rf, .int .i64 rn, .int .i64 rs] hs rfl (by simp [maxLen])
  go_ret
  exact ⟨_, rfl, ho, hB.alloc hs _⟩
set_option maxHeartbeats 8000000 in
set_option maxRecDepth 100000 in
theorem rnums_32 (id fr tn st en rt rf rn rs re ro : Int) (w : World) : Calls Tryz.prog 37 #[.agg #[.int .i64 3, .int .i64 2, .int .i64 id, .int .i64 fr, .int .i64 tn, .int .i64 st, .int .i64 en, .int .i64 rt, .int .i64 rf, .int .i64 rn, .int .i64 rs, .int .i64 re, .int .i64 ro]] w fun e w' => ∃ v, e = .returned v ∧ w'.ownsRow w.heap.size 3 1 v 4 ([rf, rn, rs, ro].map (Value.int .i64)) ∧ Below w.heap.size w w' := by
  have hX := Blok.new w 41 #[.int .i64 3, .int .i64 2, .int .i64 id, .int .i64 fr, .int .i64 tn, .int .i64 st, .int .i64 en, .int .i64 rt, .int .i64 rf, .int .i64 rn, .int .i64 rs, .int .i64 re, .int .i64 ro]
  have hB : Below w.heap.size w (w.alloc (.cells #[.int .i64 3, .int .i64 2, .int .i64 id, .int .i64 fr, .int .i64 tn, .int .i64 st, .int .i64 en, .int .i64 rt, .int .i64 rf, .int .i64 rn, .int .i64 rs, .int .i64 re, .int .i64 ro] 41)) := by (repeat (first | exact Below.refl _ _ | refine Below.alloc ?_ (by first | omega | (simp; done) | (simp; omega)) _ | refine Below.setCell ?_ (by first | omega | (simp; done) | (simp; omega)) _ | refine Below.drew ?_))
  have hs := hB.size
  go_enter Tryz.func37, Tryz.ntmps37
  go_upto_region 1 with fail
  generalize w.alloc (.cells #[.int .i64 3, .int .i64 2, .int .i64 id, .int .i64 fr, .int .i64 tn, .int .i64 st, .int .i64 en, .int .i64 rt, .int .i64 rf, .int .i64 rn, .int .i64 rs, .int .i64 re, .int .i64 ro] 41) = w0 at *
  have y0 : w0.cell? ⟨w.heap.size, 0, none⟩ = some (.int .i64 3) := hX.cell 0
  have y1 : w0.cell? ⟨w.heap.size, 1, none⟩ = some (.int .i64 2) := hX.cell 1
  have y2 : w0.cell? ⟨w.heap.size, 2, none⟩ = some (.int .i64 id) := hX.cell 2
  have y3 : w0.cell? ⟨w.heap.size, 3, none⟩ = some (.int .i64 fr) := hX.cell 3
  have y4 : w0.cell? ⟨w.heap.size, 4, none⟩ = some (.int .i64 tn) := hX.cell 4
  have y5 : w0.cell? ⟨w.heap.size, 5, none⟩ = some (.int .i64 st) := hX.cell 5
  have y6 : w0.cell? ⟨w.heap.size, 6, none⟩ = some (.int .i64 en) := hX.cell 6
  have y7 : w0.cell? ⟨w.heap.size, 7, none⟩ = some (.int .i64 rt) := hX.cell 7
  have y8 : w0.cell? ⟨w.heap.size, 8, none⟩ = some (.int .i64 rf) := hX.cell 8
  have y9 : w0.cell? ⟨w.heap.size, 9, none⟩ = some (.int .i64 rn) := hX.cell 9
  have y10 : w0.cell? ⟨w.heap.size, 10, none⟩ = some (.int .i64 rs) := hX.cell 10
  have y11 : w0.cell? ⟨w.heap.size, 11, none⟩ = some (.int .i64 re) := hX.cell 11
  have y12 : w0.cell? ⟨w.heap.size, 12, none⟩ = some (.int .i64 ro) := hX.cell 12
  have lt_y := hX.lt
  go_upto_region 2 with fail
  have hC := Blok.new w0 39 #[.int .i64 id, .int .i64 fr, .int .i64 tn, .int .i64 st, .int .i64 en, .int .i64 rt]
  have hb : Below w0.heap.size w0 (w0.alloc (.cells #[.int .i64 id, .int .i64 fr, .int .i64 tn, .int .i64 st, .int .i64 en, .int .i64 rt] 39)) := by (repeat (first | exact Below.refl _ _ | refine Below.alloc ?_ (by first | omega | (simp; done) | (simp; omega)) _ | refine Below.setCell ?_ (by first | omega | (simp; done) | (simp; omega)) _ | refine Below.drew ?_))
  clear y0 y1 y2 y3 y4 y5 y6 y7 y8 y9 y10 y11 y12 lt_y
  replace hX := hX.below hb hX.lt
  replace hB := hB.trans (hb.mono hs)
  replace hs := hB.size
  clear hb
  generalize w0.alloc (.cells #[.int .i64 id, .int .i64 fr, .int .i64 tn, .int .i64 st, .int .i64 en, .int .i64 rt] 39) = w1 at *
  generalize hzz : w0.heap.size = b1 at *
  clear hzz
  have y0 : w1.cell? ⟨w.heap.size, 0, none⟩ = some (.int .i64 3) := hX.cell 0
  have y1 : w1.cell? ⟨w.heap.size, 1, none⟩ = some (.int .i64 2) := hX.cell 1
  have y2 : w1.cell? ⟨w.heap.size, 2, none⟩ = some (.int .i64 id) := hX.cell 2
  have y3 : w1.cell? ⟨w.heap.size, 3, none⟩ = some (.int .i64 fr) := hX.cell 3
  have y4 : w1.cell? ⟨w.heap.size, 4, none⟩ = some (.int .i64 tn) := hX.cell 4
  have y5 : w1.cell? ⟨w.heap.size, 5, none⟩ = some (.int .i64 st) := hX.cell 5
  have y6 : w1.cell? ⟨w.heap.size, 6, none⟩ = some (.int .i64 en) := hX.cell 6
  have y7 : w1.cell? ⟨w.heap.size, 7, none⟩ = some (.int .i64 rt) := hX.cell 7
  have y8 : w1.cell? ⟨w.heap.size, 8, none⟩ = some (.int .i64 rf) := hX.cell 8
  have y9 : w1.cell? ⟨w.heap.size, 9, none⟩ = some (.int .i64 rn) := hX.cell 9
  have y10 : w1.cell? ⟨w.heap.size, 10, none⟩ = some (.int .i64 rs) := hX.cell 10
  have y11 : w1.cell? ⟨w.heap.size, 11, none⟩ = some (.int .i64 re) := hX.cell 11
  have y12 : w1.cell? ⟨w.heap.size, 12, none⟩ = some (.int .i64 ro) := hX.cell 12
  have lt_y := hX.lt
  go_upto_region 3 with fail
  have hR := Blok.new w1 37 #[.int .i64 rf, .int .i64 rn, .int .i64 rs, .int .i64 re, .int .i64 ro]
  have hb : Below w1.heap.size w1 (w1.alloc (.cells #[.int .i64 rf, .int .i64 rn, .int .i64 rs, .int .i64 re, .int .i64 ro] 37)) := by (repeat (first | exact Below.refl _ _ | refine Below.alloc ?_ (by first | omega | (simp; done) | (simp; omega)) _ | refine Below.setCell ?_ (by first | omega | (simp; done) | (simp; omega)) _ | refine Below.drew ?_))
  clear y0 y1 y2 y3 y4 y5 y6 y7 y8 y9 y10 y11 y12 lt_y
  replace hX := hX.below hb hX.lt
  replace hC := hC.below hb hC.lt
  replace hB := hB.trans (hb.mono hs)
  replace hs := hB.size
  clear hb
  generalize w1.alloc (.cells #[.int .i64 rf, .int .i64 rn, .int .i64 rs, .int .i64 re, .int .i64 ro] 37) = w2 at *
  generalize hzz : w1.heap.size = b2 at *
  clear hzz
  have y0 : w2.cell? ⟨w.heap.size, 0, none⟩ = some (.int .i64 3) := hX.cell 0
  have y1 : w2.cell? ⟨w.heap.size, 1, none⟩ = some (.int .i64 2) := hX.cell 1
  have lt_y := hX.lt
  have c0 : w2.cell? ⟨b1, 0, none⟩ = some (.int .i64 id) := hC.cell 0
  have c1 : w2.cell? ⟨b1, 1, none⟩ = some (.int .i64 fr) := hC.cell 1
  have c2 : w2.cell? ⟨b1, 2, none⟩ = some (.int .i64 tn) := hC.cell 2
  have c3 : w2.cell? ⟨b1, 3, none⟩ = some (.int .i64 st) := hC.cell 3
  have c4 : w2.cell? ⟨b1, 4, none⟩ = some (.int .i64 en) := hC.cell 4
  have c5 : w2.cell? ⟨b1, 5, none⟩ = some (.int .i64 rt) := hC.cell 5
  have lt_c := hC.lt
  have r0 : w2.cell? ⟨b2, 0, none⟩ = some (.int .i64 rf) := hR.cell 0
  have r1 : w2.cell? ⟨b2, 1, none⟩ = some (.int .i64 rn) := hR.cell 1
  have r2 : w2.cell? ⟨b2, 2, none⟩ = some (.int .i64 rs) := hR.cell 2
  have r3 : w2.cell? ⟨b2, 3, none⟩ = some (.int .i64 re) := hR.cell 3
  have r4 : w2.cell? ⟨b2, 4, none⟩ = some (.int .i64 ro) := hR.cell 4
  have lt_r := hR.lt
  clear hX hC hR
  go_wp2_with fail
  have ho := own_lit w2 w.heap.size 3 1 4 #[.int .i64 rf, .int .i64 rn, .int .i64 rs, .int .i64 ro] hs rfl (by simp [maxLen])
  go_ret
  exact ⟨_, rfl, ho, hB.alloc hs _⟩
theorem rnums_any (d : Dr) (h : knownD d = true) (w : World) : Calls Tryz.prog 37 #[.agg #[.int .i64 d.op, .int .i64 d.kd, .int .i64 d.id, .int .i64 d.fr, .int .i64 d.tn, .int .i64 d.st, .int .i64 d.en, .int .i64 d.rt, .int .i64 d.rf, .int .i64 d.rn, .int .i64 d.rs, .int .i64 d.re, .int .i64 d.ro]] w fun e w' => ∃ v, e = .returned v ∧ w'.ownsRow w.heap.size 3 1 v (numsD d).length ((numsD d).map (Value.int .i64)) ∧ Below w.heap.size w w' := by
  obtain ⟨h1, h2⟩ := known_cases h
  obtain ⟨op, kd, id, fr, tn, st, en, rt, rf, rn, rs, re, ro⟩ := d
  dsimp only at h1 h2
  rcases h1 with rfl | rfl | rfl <;> rcases h2 with rfl | rfl
  · exact rnums_11 id fr tn st en rt rf rn rs re ro w
  · exact rnums_12 id fr tn st en rt rf rn rs re ro w
  · exact rnums_21 id fr tn st en rt rf rn rs re ro w
  · exact rnums_22 id fr tn st en rt rf rn rs re ro w
  · exact rnums_31 id fr tn st en rt rf rn rs re ro w
  · exact rnums_32 id fr tn st en rt rf rn rs re ro w
def Sep2 (A : Option Addr) (n g : Nat) : Prop := ∀ ad, A = some ad → 0 < n → ad.block ≠ g
def OffV (A : Option Addr) (n : Nat) (v : Value) : Prop := ∀ ad, A = some ad → 0 < n → ∀ g, v.ownBlock = some g → ad.block ≠ g
theorem OffV.next {w : World} {A : Option Addr} {n c K : Nat} {xs : List Value} {v v' : Value} (h : OffV A n v) (hs : Sl w w.heap.size K A n c xs) (hv : v'.ownBlock = v.ownBlock ∨ v'.ownBlock = some w.heap.size) : OffV A n v' := by
  intro ad e hn g hg
  rcases hv with hv | hv
  · rw [hv] at hg
    exact h ad e hn g hg
  · rw [hv] at hg
    injection hg with hg
    obtain ⟨ad', e', hlt, _⟩ := hs.lst.2 hn
    rw [e] at e'
    injection e' with e'
    subst e'
    omega
theorem sl_off {w w' : World} {K : Nat} {A : Option Addr} {n c : Nat} {xs : List Value} {v : Value} (h : Sl w w.heap.size K A n c xs) (hg : w.grownBy w' v.ownBlock) (hb : OffV A n v) : Sl w' w'.heap.size K A n c xs := by
  refine ⟨?_, h.cap, h.max, h.nil⟩
  refine ⟨h.lst.1, fun hn => ?_⟩
  obtain ⟨ad, e, hlt, hc⟩ := h.lst.2 hn
  refine ⟨ad, e, Nat.lt_of_lt_of_le hlt hg.size, fun j u hj => ?_⟩
  rw [World.cell?_of_block (w := w) (hg.block _ (by rw [add_block]; exact hlt) (by rw [add_block]; exact fun e2 => hb ad e hn ad.block e2.symm rfl))]
  exact hc j u hj
def gI4 (d : List Int) (i : Nat) : Int := d.getD i 0
theorem gI4_eq {d : List Int} {k : Nat} (h : k < d.length) : gI4 d k = d[k] := by simp [gI4, List.getD_eq_getElem?_getD, List.getElem?_eq_getElem h]
theorem gI4_mem {d : List Int} {k : Nat} (h : k < d.length) : gI4 d k ∈ d := by rw [gI4_eq h]; exact List.getElem_mem _
theorem take_nextI4 {l : List Int} {k : Nat} (h : k < l.length) : l.take (k + 1) = l.take k ++ [gI4 l k] := by
  rw [List.take_succ_eq_append_getElem h, gI4_eq h]
theorem Lst.atI4 {w : World} {B : Nat} {A : Option Addr} {n : Nat} {l : List Int} (h : Lst w B 1 A n (l.map (Value.int .i64))) (hl : l.length = n) {k : Nat} (hk : k < n) : ∃ ad, A = some ad ∧ ad.block < B ∧ w.cell? (ad.add k) = some (.int .i64 (gI4 l k)) := by
  obtain ⟨ad, e, hb, hc⟩ := h.at_ (by omega)
  refine ⟨ad, e, hb, hc _ _ ?_⟩
  rw [List.getElem?_map, List.getElem?_eq_getElem (by omega), gI4_eq (by omega)]
  rfl
set_option maxHeartbeats 8000000 in
set_option maxRecDepth 100000 in
theorem rwords04_no (d : Dr) (w : World) (hr : rightD d = false) : Calls Tryz.prog 23 #[.agg #[.int .i64 d.op, .int .i64 d.kd, .int .i64 d.id, .int .i64 d.fr, .int .i64 d.tn, .int .i64 d.st, .int .i64 d.en, .int .i64 d.rt, .int .i64 d.rf, .int .i64 d.rn, .int .i64 d.rs, .int .i64 d.re, .int .i64 d.ro]] w fun e w' => e = .returned (.tuple #[.slice none 0 0, .bool false]) ∧ Below w.heap.size w w' := by
  have hX := Blok.new w 41 #[.int .i64 d.op, .int .i64 d.kd, .int .i64 d.id, .int .i64 d.fr, .int .i64 d.tn, .int .i64 d.st, .int .i64 d.en, .int .i64 d.rt, .int .i64 d.rf, .int .i64 d.rn, .int .i64 d.rs, .int .i64 d.re, .int .i64 d.ro]
  have hB : Below w.heap.size w (w.alloc (.cells #[.int .i64 d.op, .int .i64 d.kd, .int .i64 d.id, .int .i64 d.fr, .int .i64 d.tn, .int .i64 d.st, .int .i64 d.en, .int .i64 d.rt, .int .i64 d.rf, .int .i64 d.rn, .int .i64 d.rs, .int .i64 d.re, .int .i64 d.ro] 41)) := by (repeat (first | exact Below.refl _ _ | refine Below.alloc ?_ (by first | omega | (simp; done) | (simp; omega)) _ | refine Below.setCell ?_ (by first | omega | (simp; done) | (simp; omega)) _ | refine Below.drew ?_))
  have hs := hB.size
  have HR := Lib.hid hr
  clear hr
  go_enter Tryz.func23, Tryz.ntmps23
  go_upto_region 1 with fail
  generalize w.alloc (.cells #[.int .i64 d.op, .int .i64 d.kd, .int .i64 d.id, .int .i64 d.fr, .int .i64 d.tn, .int .i64 d.st, .int .i64 d.en, .int .i64 d.rt, .int .i64 d.rf, .int .i64 d.rn, .int .i64 d.rs, .int .i64 d.re, .int .i64 d.ro] 41) = w0 at *
  have y0 : w0.cell? ⟨w.heap.size, 0, none⟩ = some (.int .i64 d.op) := hX.cell 0
  have y1 : w0.cell? ⟨w.heap.size, 1, none⟩ = some (.int .i64 d.kd) := hX.cell 1
  have y2 : w0.cell? ⟨w.heap.size, 2, none⟩ = some (.int .i64 d.id) := hX.cell 2
  have y3 : w0.cell? ⟨w.heap.size, 3, none⟩ = some (.int .i64 d.fr) := hX.cell 3
  have y4 : w0.cell? ⟨w.heap.size, 4, none⟩ = some (.int .i64 d.tn) := hX.cell 4
  have y5 : w0.cell? ⟨w.heap.size, 5, none⟩ = some (.int .i64 d.st) := hX.cell 5
  have y6 : w0.cell? ⟨w.heap.size, 6, none⟩ = some (.int .i64 d.en) := hX.cell 6
  have y7 : w0.cell? ⟨w.heap.size, 7, none⟩ = some (.int .i64 d.rt) := hX.cell 7
  have y8 : w0.cell? ⟨w.heap.size, 8, none⟩ = some (.int .i64 d.rf) := hX.cell 8
  have y9 : w0.cell? ⟨w.heap.size, 9, none⟩ = some (.int .i64 d.rn) := hX.cell 9
  have y10 : w0.cell? ⟨w.heap.size, 10, none⟩ = some (.int .i64 d.rs) := hX.cell 10
  have y11 : w0.cell? ⟨w.heap.size, 11, none⟩ = some (.int .i64 d.re) := hX.cell 11
  have y12 : w0.cell? ⟨w.heap.size, 12, none⟩ = some (.int .i64 d.ro) := hX.cell 12
  have lt_y := hX.lt
  go_wp2_with fail
  clear y0 y1 y2 y3 y4 y5 y6 y7 y8 y9 y10 y11 y12 lt_y
  refine (rr04_any d w0 false HR.out).mono ?_
  rintro e w1 ⟨rfl, hb⟩
  replace hB := hB.trans (hb.mono hs)
  go_wp2_with fail
  go_ret2
  exact ⟨rfl, hB⟩
set_option maxHeartbeats 8000000 in
set_option maxRecDepth 100000 in
theorem rwords04_yes (d : Dr) (w : World) (hr : rightD d = true) : Calls Tryz.prog 23 #[.agg #[.int .i64 d.op, .int .i64 d.kd, .int .i64 d.id, .int .i64 d.fr, .int .i64 d.tn, .int .i64 d.st, .int .i64 d.en, .int .i64 d.rt, .int .i64 d.rf, .int .i64 d.rn, .int .i64 d.rs, .int .i64 d.re, .int .i64 d.ro]] w fun e w' => ∃ v, e = .returned (.tuple #[v, .bool true]) ∧ w'.ownsRow w.heap.size 9 1 v (2 + (numsD d).length) (vs (wordsD d)) ∧ Below w.heap.size w w' := by
  obtain ⟨i0, hi0, hz0, hz1, hz2⟩ := info_parts infoS04
  have hX := Blok.new w 41 #[.int .i64 d.op, .int .i64 d.kd, .int .i64 d.id, .int .i64 d.fr, .int .i64 d.tn, .int .i64 d.st, .int .i64 d.en, .int .i64 d.rt, .int .i64 d.rf, .int .i64 d.rn, .int .i64 d.rs, .int .i64 d.re, .int .i64 d.ro]
  have hB : Below w.heap.size w (w.alloc (.cells #[.int .i64 d.op, .int .i64 d.kd, .int .i64 d.id, .int .i64 d.fr, .int .i64 d.tn, .int .i64 d.st, .int .i64 d.en, .int .i64 d.rt, .int .i64 d.rf, .int .i64 d.rn, .int .i64 d.rs, .int .i64 d.re, .int .i64 d.ro] 41)) := by (repeat (first | exact Below.refl _ _ | refine Below.alloc ?_ (by first | omega | (simp; done) | (simp; omega)) _ | refine Below.setCell ?_ (by first | omega | (simp; done) | (simp; omega)) _ | refine Below.drew ?_))
  have hs := hB.size
  have HR := Lib.hid hr
  have HNR := Lib.hid (right_nums hr)
  have hkn : knownD d = true := by unfold rightD at hr; simp only [Bool.and_eq_true] at hr; exact hr.1
  have HKN := Lib.hid hkn
  have hml := nums_le d
  obtain ⟨m, hm⟩ : ∃ m, (numsD d).length = m := ⟨_, rfl⟩
  rw [hm] at hml
  obtain ⟨ns, hns⟩ : ∃ ns, numsD d = ns := ⟨_, rfl⟩
  obtain ⟨so, hso⟩ : ∃ so, gS opW d.op.toNat = so := ⟨_, rfl⟩
  obtain ⟨sk, hsk⟩ : ∃ sk, gS kdW d.kd.toNat = sk := ⟨_, rfl⟩
  have hwd : wordsD d = [so, sk] ++ ns.map Lib.itoa := by unfold wordsD; rw [hso, hsk, hns]
  rw [hwd, hm]
  rw [hns] at HNR hm
  have HM := Lib.hid hm
  have HNS := Lib.hid hns
  have HSO := Lib.hid hso
  have HSK := Lib.hid hsk
  clear hr hkn hm hns hso hsk hwd
  go_enter Tryz.func23, Tryz.ntmps23
  go_upto_region 1 with fail
  generalize w.alloc (.cells #[.int .i64 d.op, .int .i64 d.kd, .int .i64 d.id, .int .i64 d.fr, .int .i64 d.tn, .int .i64 d.st, .int .i64 d.en, .int .i64 d.rt, .int .i64 d.rf, .int .i64 d.rn, .int .i64 d.rs, .int .i64 d.re, .int .i64 d.ro] 41) = w0 at *
  have y0 : w0.cell? ⟨w.heap.size, 0, none⟩ = some (.int .i64 d.op) := hX.cell 0
  have y1 : w0.cell? ⟨w.heap.size, 1, none⟩ = some (.int .i64 d.kd) := hX.cell 1
  have y2 : w0.cell? ⟨w.heap.size, 2, none⟩ = some (.int .i64 d.id) := hX.cell 2
  have y3 : w0.cell? ⟨w.heap.size, 3, none⟩ = some (.int .i64 d.fr) := hX.cell 3
  have y4 : w0.cell? ⟨w.heap.size, 4, none⟩ = some (.int .i64 d.tn) := hX.cell 4
  have y5 : w0.cell? ⟨w.heap.size, 5, none⟩ = some (.int .i64 d.st) := hX.cell 5
  have y6 : w0.cell? ⟨w.heap.size, 6, none⟩ = some (.int .i64 d.en) := hX.cell 6
  have y7 : w0.cell? ⟨w.heap.size, 7, none⟩ = some (.int .i64 d.rt) := hX.cell 7
  have y8 : w0.cell? ⟨w.heap.size, 8, none⟩ = some (.int .i64 d.rf) := hX.cell 8
  have y9 : w0.cell? ⟨w.heap.size, 9, none⟩ = some (.int .i64 d.rn) := hX.cell 9
  have y10 : w0.cell? ⟨w.heap.size, 10, none⟩ = some (.int .i64 d.rs) := hX.cell 10
  have y11 : w0.cell? ⟨w.heap.size, 11, none⟩ = some (.int .i64 d.re) := hX.cell 11
  have y12 : w0.cell? ⟨w.heap.size, 12, none⟩ = some (.int .i64 d.ro) := hX.cell 12
  have lt_y := hX.lt
  go_wp2_with fail
  clear y0 y1 y2 y3 y4 y5 y6 y7 y8 y9 y10 y11 y12 lt_y
  refine (rr04_any d w0 true HR.out).mono ?_
  rintro e w1 ⟨rfl, hb⟩
  replace hX := hX.below hb hX.lt
  replace hB := hB.trans (hb.mono hs)
  replace hs := hB.size
  clear hb
  have y0 : w1.cell? ⟨w.heap.size, 0, none⟩ = some (.int .i64 d.op) := hX.cell 0
  have y1 : w1.cell? ⟨w.heap.size, 1, none⟩ = some (.int .i64 d.kd) := hX.cell 1
  have y2 : w1.cell? ⟨w.heap.size, 2, none⟩ = some (.int .i64 d.id) := hX.cell 2
  have y3 : w1.cell? ⟨w.heap.size, 3, none⟩ = some (.int .i64 d.fr) := hX.cell 3
  have y4 : w1.cell? ⟨w.heap.size, 4, none⟩ = some (.int .i64 d.tn) := hX.cell 4
  have y5 : w1.cell? ⟨w.heap.size, 5, none⟩ = some (.int .i64 d.st) := hX.cell 5
  have y6 : w1.cell? ⟨w.heap.size, 6, none⟩ = some (.int .i64 d.en) := hX.cell 6
  have y7 : w1.cell? ⟨w.heap.size, 7, none⟩ = some (.int .i64 d.rt) := hX.cell 7
  have y8 : w1.cell? ⟨w.heap.size, 8, none⟩ = some (.int .i64 d.rf) := hX.cell 8
  have y9 : w1.cell? ⟨w.heap.size, 9, none⟩ = some (.int .i64 d.rn) := hX.cell 9
  have y10 : w1.cell? ⟨w.heap.size, 10, none⟩ = some (.int .i64 d.rs) := hX.cell 10
  have y11 : w1.cell? ⟨w.heap.size, 11, none⟩ = some (.int .i64 d.re) := hX.cell 11
  have y12 : w1.cell? ⟨w.heap.size, 12, none⟩ = some (.int .i64 d.ro) := hX.cell 12
  have lt_y := hX.lt
  go_wp2_with fail
  clear y0 y1 y2 y3 y4 y5 y6 y7 y8 y9 y10 y11 y12 lt_y
  refine (first_any d HKN.out w1).mono ?_
  rintro e w2 ⟨g, rfl, hown, hb⟩
  rw [HSO.out, HSK.out] at hown
  have hs1 := hs
  replace hX := hX.below hb hX.lt
  replace hB := hB.trans (hb.mono hs)
  replace hs := hB.size
  clear hb
  have y0 : w2.cell? ⟨w.heap.size, 0, none⟩ = some (.int .i64 d.op) := hX.cell 0
  have y1 : w2.cell? ⟨w.heap.size, 1, none⟩ = some (.int .i64 d.kd) := hX.cell 1
  have y2 : w2.cell? ⟨w.heap.size, 2, none⟩ = some (.int .i64 d.id) := hX.cell 2
  have y3 : w2.cell? ⟨w.heap.size, 3, none⟩ = some (.int .i64 d.fr) := hX.cell 3
  have y4 : w2.cell? ⟨w.heap.size, 4, none⟩ = some (.int .i64 d.tn) := hX.cell 4
  have y5 : w2.cell? ⟨w.heap.size, 5, none⟩ = some (.int .i64 d.st) := hX.cell 5
  have y6 : w2.cell? ⟨w.heap.size, 6, none⟩ = some (.int .i64 d.en) := hX.cell 6
  have y7 : w2.cell? ⟨w.heap.size, 7, none⟩ = some (.int .i64 d.rt) := hX.cell 7
  have y8 : w2.cell? ⟨w.heap.size, 8, none⟩ = some (.int .i64 d.rf) := hX.cell 8
  have y9 : w2.cell? ⟨w.heap.size, 9, none⟩ = some (.int .i64 d.rn) := hX.cell 9
  have y10 : w2.cell? ⟨w.heap.size, 10, none⟩ = some (.int .i64 d.rs) := hX.cell 10
  have y11 : w2.cell? ⟨w.heap.size, 11, none⟩ = some (.int .i64 d.re) := hX.cell 11
  have y12 : w2.cell? ⟨w.heap.size, 12, none⟩ = some (.int .i64 d.ro) := hX.cell 12
  have lt_y := hX.lt
  go_wp2_with fail
  clear y0 y1 y2 y3 y4 y5 y6 y7 y8 y9 y10 y11 y12 lt_y
  refine (rnums_any d HKN.out w2).mono ?_
  rintro e w3 ⟨v, rfl, hv, hb⟩
  rw [HNS.out, HM.out] at hv
  have hown0 := hown
  replace hown := own_down (own_below hown hb) hs1
  replace hX := hX.below hb hX.lt
  replace hB := hB.trans (hb.mono hs)
  replace hs := hB.size
  clear hb
  obtain ⟨An, cn, rfl⟩ := slice_of_own hv
  have hln := Sl.of_own hv
  have hbase := (hv.lt)
  have hsep : Sep2 An m g := fun ad e hp => by
    subst e
    have h1 := (hbase ad.block rfl).1
    have h2 := (hown0.lt g rfl).2
    omega
  have HLN := Lib.hid (fun w' (hb : Below w3.heap.size w3 w') => hln.below hb)
  clear hv hbase hX
  go_wp2_with fail
  go_loopw [4, 6] (fun ev iv wr => ∃ (i : Nat), iv = .int .i64 i ∧ i ≤ m ∧ wr.ownsRow w.heap.size 9 1 ev (2 + i) (vs ([so, sk] ++ (ns.take i).map Lib.itoa)) ∧ Below w.heap.size w wr ∧ Sl wr wr.heap.size 1 An m cn (ns.map (Value.int .i64)) ∧ OffV An m ev) (fun _ iv _ => m - (intOf iv).toNat)
  case atStart => exact ⟨0, rfl, by omega, by simpa using hown, hB, hln, fun ad e hp q hq => by injection hq with hq; subst hq; exact hsep ad e hp⟩
  case round =>
    clear hown hB hs hln HLN hown0 hsep
    obtain ⟨i, rfl, hi, hown, hB, hln, hoff⟩ := hrel
    have hs := hB.size
    obtain ⟨Ae, ce, rfl⟩ := slice_of_own hown
    by_cases hin : i < m
    · obtain ⟨ad, ea, hab, c0⟩ := hln.lst.atI4 HM.out hin
      subst ea
      have hil : i < ns.length := by rw [HM.out]; exact hin
      have hx1 := HNR.out _ (gI4_mem hil)
      have hnx := take_nextI4 hil
      obtain ⟨x, hx⟩ : ∃ x, gI4 ns i = x := ⟨_, rfl⟩
      rw [hx] at c0 hx1 hnx
      have HNX := Lib.hid hnx
      clear hx hil hnx
      go_wp2_with fail
      clear c0
      refine (rtext_any (n := x) (by omega) (by omega) wr).mono ?_
      rintro e w5 ⟨rfl, hb⟩
      replace hown := own_below hown hb
      replace hln := hln.up hb
      replace hB := hB.trans (hb.mono hs)
      replace hs := hB.size
      clear hb
      have hown2 := hown.alloc (.cells #[.string (bs (Lib.itoa x))] 9)
      have hb : Below w5.heap.size w5 (w5.alloc (.cells #[.string (bs (Lib.itoa x))] 9)) := by (repeat (first | exact Below.refl _ _ | refine Below.alloc ?_ (by first | omega | (simp; done) | (simp; omega)) _ | refine Below.setCell ?_ (by first | omega | (simp; done) | (simp; omega)) _ | refine Below.drew ?_))
      have hln2 := hln.up hb
      have hB2 := hB.trans (hb.mono hs)
      have hs2 := hB2.size
      clear hb
      go_wp2_with (first | (at_builtin; refine wpList_append_own_at _ rfl _ _ 42 rfl w.heap.size 9 i0 (.string ByteArray.empty) 1 16 Tryz.underlying42 hi0 hz0 hz1 hz2 rfl (by decide) _ _ _ rfl hown2 ⟨w5.heap.size, 0, none⟩ 1 1 [.string (bs (Lib.itoa x))] rfl rfl (cell_one_new _ _ _) (fun x hx => by simp at hx; subst hx; rfl) (by unfold maxLen; omega) (by omega) (by omega) ?_; intro v' w6 hown' hgrow6 hnil6 hat6))
      have hoff6 : OffV (some ad) m v' := hoff.next hln2 hat6
      have hln6 : Sl w6 w6.heap.size 1 (some ad) m cn (ns.map (Value.int .i64)) := sl_off hln2 hgrow6 hoff
      have hbN : Below w.heap.size w w6 := hB2.grown hgrow6 hs2 (fun q hq => (hown.lt q hq).1)
      have hown6 : w6.ownsRow w.heap.size 9 1 v' (2 + (i + 1)) (vs ([so, sk] ++ (ns.take (i + 1)).map Lib.itoa)) := by
        rw [HNX.out, List.map_append, ← List.append_assoc, vs_append]
        exact hown'
      clear hgrow6 hnil6 hat6 hown' hown2 hln2
      go_wp2_with fail
      go_roundw
      case rel => exact ⟨i + 1, by go_num, by omega, hown6, hbN, hln6, hoff6⟩
      case measure => simp [intOf]; omega
    · obtain rfl : m = i := by omega
      rw [List.take_of_length_le (by rw [HM.out]; omega)] at hown
      go_wp2_with fail
      go_ret2
      exact ⟨_, rfl, hown, hB⟩
end Go.Proofs.YtcclfmaockapjaaGreatDoor
