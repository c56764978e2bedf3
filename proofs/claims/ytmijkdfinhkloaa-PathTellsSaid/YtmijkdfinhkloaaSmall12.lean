/- Layer 12's small case comes out right. No condition. -/
import Derived.Test.YtmijkdfinhkloaaSmallH12
import Derived.Deep.RegionHeld3
namespace Go.Proofs.Ytmijkdfinhkloaa
open Go.ChangeShapes Go.WideShapes Go.ChangeAt Go.RowKit Go.Sort
set_option linter.unusedSimpArgs false
set_option linter.unusedVariables false
set_option maxHeartbeats 8000000 in
set_option maxRecDepth 100000 in
theorem small12 (w : World) :
    Calls Try.prog 9 #[] w fun e w' => e = .returned (.bool true) ∧ Below w.heap.size w w' := by
  have hB : Below w.heap.size w (w.alloc (.cells #[.int .i64 1, .int .i64 1, .int .i64 2, .int .i64 10, .int .i64 20, .int .i64 3, .int .i64 4, .int .i64 30, .int .i64 2, .int .i64 2, .int .i64 3, .int .i64 0, .int .i64 30, .int .i64 1, .int .i64 1, .int .i64 30, .int .i64 3, .int .i64 1, .int .i64 3, .int .i64 40, .int .i64 50, .int .i64 9, .int .i64 0, .int .i64 90, .int .i64 4, .int .i64 2, .int .i64 1, .int .i64 0, .int .i64 50, .int .i64 9, .int .i64 0, .int .i64 90] 41)) := by (repeat (first | exact Below.refl _ _ | refine Below.alloc ?_ (by first | omega | (simp; done) | (simp; omega)) _ | refine Below.setCell ?_ (by first | omega | (simp; done) | (simp; omega)) _ | refine Below.drew ?_))
  have hXn := Blok.new w 41 #[.int .i64 1, .int .i64 1, .int .i64 2, .int .i64 10, .int .i64 20, .int .i64 3, .int .i64 4, .int .i64 30, .int .i64 2, .int .i64 2, .int .i64 3, .int .i64 0, .int .i64 30, .int .i64 1, .int .i64 1, .int .i64 30, .int .i64 3, .int .i64 1, .int .i64 3, .int .i64 40, .int .i64 50, .int .i64 9, .int .i64 0, .int .i64 90, .int .i64 4, .int .i64 2, .int .i64 1, .int .i64 0, .int .i64 50, .int .i64 9, .int .i64 0, .int .i64 90]
  have hvn : (w.alloc (.cells #[.int .i64 1, .int .i64 1, .int .i64 2, .int .i64 10, .int .i64 20, .int .i64 3, .int .i64 4, .int .i64 30, .int .i64 2, .int .i64 2, .int .i64 3, .int .i64 0, .int .i64 30, .int .i64 1, .int .i64 1, .int .i64 30, .int .i64 3, .int .i64 1, .int .i64 3, .int .i64 40, .int .i64 50, .int .i64 9, .int .i64 0, .int .i64 90, .int .i64 4, .int .i64 2, .int .i64 1, .int .i64 0, .int .i64 50, .int .i64 9, .int .i64 0, .int .i64 90] 41)).ownsRow w.heap.size 41 8 (.slice (some ⟨w.heap.size, 0, none⟩) 4 4) 4 (flatEd netL) := own_lit w w.heap.size 41 8 4 #[.int .i64 1, .int .i64 1, .int .i64 2, .int .i64 10, .int .i64 20, .int .i64 3, .int .i64 4, .int .i64 30, .int .i64 2, .int .i64 2, .int .i64 3, .int .i64 0, .int .i64 30, .int .i64 1, .int .i64 1, .int .i64 30, .int .i64 3, .int .i64 1, .int .i64 3, .int .i64 40, .int .i64 50, .int .i64 9, .int .i64 0, .int .i64 90, .int .i64 4, .int .i64 2, .int .i64 1, .int .i64 0, .int .i64 50, .int .i64 9, .int .i64 0, .int .i64 90] (by first | omega | simp) rfl (by simp [maxLen])
  have hs := hB.size
  go_enter Try.func9, Try.ntmps9
  go_wp2_with fail
  refine (net_any w).mono ?_
  rintro e w' ⟨rfl, rfl⟩
  generalize w.alloc (.cells #[.int .i64 1, .int .i64 1, .int .i64 2, .int .i64 10, .int .i64 20, .int .i64 3, .int .i64 4, .int .i64 30, .int .i64 2, .int .i64 2, .int .i64 3, .int .i64 0, .int .i64 30, .int .i64 1, .int .i64 1, .int .i64 30, .int .i64 3, .int .i64 1, .int .i64 3, .int .i64 40, .int .i64 50, .int .i64 9, .int .i64 0, .int .i64 90, .int .i64 4, .int .i64 2, .int .i64 1, .int .i64 0, .int .i64 50, .int .i64 9, .int .i64 0, .int .i64 90] 41) = w0 at *
  skip
  go_wp2_with fail
  obtain ⟨bo, hbo⟩ : ∃ q, w0.heap.size = q := ⟨_, rfl⟩
  have hs_ := hB.size
  have hO := own_lit (w0) 0 3 1 2 #[.int .i64 1, .int .i64 2] (by omega) rfl (by simp [maxLen])
  replace hvn := hvn.alloc (.cells #[.int .i64 1, .int .i64 2] 3)
  replace hXn := hXn.alloc (.cells #[.int .i64 1, .int .i64 2] 3)
  replace hB := hB.alloc hs (.cells #[.int .i64 1, .int .i64 2] 3)
  replace hs := hB.size
  clear hs_
  generalize (w0.alloc (.cells #[.int .i64 1, .int .i64 2] 3)) = w1 at *
  rw [hbo] at hO
  try rw [hbo]
  refine (proute_yes (some ⟨w.heap.size, 0, none⟩) 4 4 netL (some ⟨bo, 0, none⟩) 2 2 [1, 2] 1 3 0 7 w1 rfl (by omega) rfl (by omega) (fun k hk => by rcases (by omega : k = 0 ∨ k = 1) with rfl | rfl <;> decide +kernel) (Sl.of_own hvn) (Sl.of_own hO) [⟨1, 10, 17⟩, ⟨2, 17, 25⟩] 25 (by decide +kernel)).mono ?_
  rintro e w2 ⟨va, rfl, hva, hb⟩
  clear hO hbo
  replace hva : w2.ownsRow 0 47 3 va 2 (flatHp [⟨1, 10, 17⟩, ⟨2, 17, 25⟩]) := own_down (base' := 0) hva (Nat.zero_le _)
  replace hvn := own_below hvn hb
  replace hXn := hXn.below hb hXn.lt
  replace hB := hB.trans (hb.mono hs)
  replace hs := hB.size
  clear hb
  obtain ⟨Aa, ca, rfl⟩ := slice_of_own hva
  go_wp2_with fail
  have hs_ := hB.size
  have hXa := Blok.new (w2) 26 #[.slice Aa 2 ca, .int .i64 25]
  replace hvn := hvn.alloc (.cells #[.slice Aa 2 ca, .int .i64 25] 26)
  replace hva := hva.alloc (.cells #[.slice Aa 2 ca, .int .i64 25] 26)
  replace hXn := hXn.alloc (.cells #[.slice Aa 2 ca, .int .i64 25] 26)
  replace hB := hB.alloc hs (.cells #[.slice Aa 2 ca, .int .i64 25] 26)
  replace hs := hB.size
  clear hs_
  generalize (w2.alloc (.cells #[.slice Aa 2 ca, .int .i64 25] 26)) = w3 at *
  refine (proute_yes (some ⟨w.heap.size, 0, none⟩) 4 4 netL none 0 0 [] 1 1 5 7 w3 rfl (by omega) rfl (by omega) (fun k hk => by omega) (Sl.of_own hvn) (Sl.nil0 _ _ _) [] 5 (by decide +kernel)).mono ?_
  rintro e w4 ⟨vc, rfl, hvc, hb⟩
  replace hvc : w4.ownsRow 0 47 3 vc 0 ([]) := own_down (base' := 0) hvc (Nat.zero_le _)
  replace hvn := own_below hvn hb
  replace hva := own_below hva hb
  replace hXn := hXn.below hb hXn.lt
  replace hXa := hXa.below hb hXa.lt
  replace hB := hB.trans (hb.mono hs)
  replace hs := hB.size
  clear hb
  obtain ⟨Ac, cc, rfl⟩ := slice_of_own hvc
  go_wp2_with fail
  obtain ⟨bo, hbo⟩ : ∃ q, w4.heap.size + 1 = q := ⟨_, rfl⟩
  have hs_ := hB.size
  have hXc := Blok.new (w4) 26 #[.slice Ac 0 cc, .int .i64 5]
  replace hvn := hvn.alloc (.cells #[.slice Ac 0 cc, .int .i64 5] 26)
  replace hva := hva.alloc (.cells #[.slice Ac 0 cc, .int .i64 5] 26)
  replace hvc := hvc.alloc (.cells #[.slice Ac 0 cc, .int .i64 5] 26)
  replace hXn := hXn.alloc (.cells #[.slice Ac 0 cc, .int .i64 5] 26)
  replace hXa := hXa.alloc (.cells #[.slice Ac 0 cc, .int .i64 5] 26)
  replace hB := hB.alloc hs (.cells #[.slice Ac 0 cc, .int .i64 5] 26)
  replace hs := hB.size
  clear hs_
  have hs_ := hB.size
  have hO := own_lit ((w4.alloc (.cells #[.slice Ac 0 cc, .int .i64 5] 26))) 0 3 1 2 #[.int .i64 1, .int .i64 4] (by omega) rfl (by simp [maxLen])
  replace hvn := hvn.alloc (.cells #[.int .i64 1, .int .i64 4] 3)
  replace hva := hva.alloc (.cells #[.int .i64 1, .int .i64 4] 3)
  replace hvc := hvc.alloc (.cells #[.int .i64 1, .int .i64 4] 3)
  replace hXn := hXn.alloc (.cells #[.int .i64 1, .int .i64 4] 3)
  replace hXa := hXa.alloc (.cells #[.int .i64 1, .int .i64 4] 3)
  replace hXc := hXc.alloc (.cells #[.int .i64 1, .int .i64 4] 3)
  replace hB := hB.alloc hs (.cells #[.int .i64 1, .int .i64 4] 3)
  replace hs := hB.size
  clear hs_
  simp only [World.size_alloc] at hO
  generalize ((w4.alloc (.cells #[.slice Ac 0 cc, .int .i64 5] 26)).alloc (.cells #[.int .i64 1, .int .i64 4] 3)) = w5 at *
  rw [hbo] at hO
  try rw [hbo]
  refine (proute_no (some ⟨w.heap.size, 0, none⟩) 4 4 netL (some ⟨bo, 0, none⟩) 2 2 [1, 4] 1 1 0 7 w5 rfl (by omega) rfl (by omega) (fun k hk => by rcases (by omega : k = 0 ∨ k = 1) with rfl | rfl <;> decide +kernel) (Sl.of_own hvn) (Sl.of_own hO) (by decide +kernel)).mono ?_
  rintro e w6 ⟨ve, rfl, hve, hb⟩
  clear hO hbo
  replace hve : w6.ownsRow 0 47 3 ve 0 ([]) := own_down (base' := 0) hve (Nat.zero_le _)
  replace hvn := own_below hvn hb
  replace hva := own_below hva hb
  replace hvc := own_below hvc hb
  replace hXn := hXn.below hb hXn.lt
  replace hXa := hXa.below hb hXa.lt
  replace hXc := hXc.below hb hXc.lt
  replace hB := hB.trans (hb.mono hs)
  replace hs := hB.size
  clear hb
  obtain ⟨Ae, ce, rfl⟩ := slice_of_own hve
  clear hve
  go_wp2_with fail
  obtain ⟨bo, hbo⟩ : ∃ q, w6.heap.size + 1 = q := ⟨_, rfl⟩
  have hs_ := hB.size
  replace hvn := hvn.alloc (.cells #[.slice Ae 0 ce, .int .i64 0] 26)
  replace hva := hva.alloc (.cells #[.slice Ae 0 ce, .int .i64 0] 26)
  replace hvc := hvc.alloc (.cells #[.slice Ae 0 ce, .int .i64 0] 26)
  replace hXn := hXn.alloc (.cells #[.slice Ae 0 ce, .int .i64 0] 26)
  replace hXa := hXa.alloc (.cells #[.slice Ae 0 ce, .int .i64 0] 26)
  replace hXc := hXc.alloc (.cells #[.slice Ae 0 ce, .int .i64 0] 26)
  replace hB := hB.alloc hs (.cells #[.slice Ae 0 ce, .int .i64 0] 26)
  replace hs := hB.size
  clear hs_
  have hs_ := hB.size
  have hO := own_lit ((w6.alloc (.cells #[.slice Ae 0 ce, .int .i64 0] 26))) 0 3 1 2 #[.int .i64 1, .int .i64 4] (by omega) rfl (by simp [maxLen])
  replace hvn := hvn.alloc (.cells #[.int .i64 1, .int .i64 4] 3)
  replace hva := hva.alloc (.cells #[.int .i64 1, .int .i64 4] 3)
  replace hvc := hvc.alloc (.cells #[.int .i64 1, .int .i64 4] 3)
  replace hXn := hXn.alloc (.cells #[.int .i64 1, .int .i64 4] 3)
  replace hXa := hXa.alloc (.cells #[.int .i64 1, .int .i64 4] 3)
  replace hXc := hXc.alloc (.cells #[.int .i64 1, .int .i64 4] 3)
  replace hB := hB.alloc hs (.cells #[.int .i64 1, .int .i64 4] 3)
  replace hs := hB.size
  clear hs_
  simp only [World.size_alloc] at hO
  generalize ((w6.alloc (.cells #[.slice Ae 0 ce, .int .i64 0] 26)).alloc (.cells #[.int .i64 1, .int .i64 4] 3)) = w7 at *
  rw [hbo] at hO
  try rw [hbo]
  refine (pwalk_yes (some ⟨w.heap.size, 0, none⟩) 4 4 netL (some ⟨bo, 0, none⟩) 2 2 [1, 4] 1 0 7 w7 rfl (by omega) rfl (by omega) (fun k hk => by rcases (by omega : k = 0 ∨ k = 1) with rfl | rfl <;> decide +kernel) (Sl.of_own hvn) (Sl.of_own hO) [⟨1, 10, 17⟩, ⟨4, 17, 18⟩] (by decide +kernel)).mono ?_
  rintro e w8 ⟨vf, rfl, hvf, hb⟩
  clear hO hbo
  replace hvf : w8.ownsRow 0 47 3 vf 2 (flatHp [⟨1, 10, 17⟩, ⟨4, 17, 18⟩]) := own_down (base' := 0) hvf (Nat.zero_le _)
  replace hvn := own_below hvn hb
  replace hva := own_below hva hb
  replace hvc := own_below hvc hb
  replace hXn := hXn.below hb hXn.lt
  replace hXa := hXa.below hb hXa.lt
  replace hXc := hXc.below hb hXc.lt
  replace hB := hB.trans (hb.mono hs)
  replace hs := hB.size
  clear hb
  obtain ⟨Af, cf, rfl⟩ := slice_of_own hvf
  clear hvf
  go_wp2_with fail
  obtain ⟨bo, hbo⟩ : ∃ q, w8.heap.size = q := ⟨_, rfl⟩
  have hs_ := hB.size
  have hO := own_lit (w8) 0 3 1 2 #[.int .i64 2, .int .i64 1] (by omega) rfl (by simp [maxLen])
  replace hvn := hvn.alloc (.cells #[.int .i64 2, .int .i64 1] 3)
  replace hva := hva.alloc (.cells #[.int .i64 2, .int .i64 1] 3)
  replace hvc := hvc.alloc (.cells #[.int .i64 2, .int .i64 1] 3)
  replace hXn := hXn.alloc (.cells #[.int .i64 2, .int .i64 1] 3)
  replace hXa := hXa.alloc (.cells #[.int .i64 2, .int .i64 1] 3)
  replace hXc := hXc.alloc (.cells #[.int .i64 2, .int .i64 1] 3)
  replace hB := hB.alloc hs (.cells #[.int .i64 2, .int .i64 1] 3)
  replace hs := hB.size
  clear hs_
  generalize (w8.alloc (.cells #[.int .i64 2, .int .i64 1] 3)) = w9 at *
  rw [hbo] at hO
  try rw [hbo]
  refine (proute_no (some ⟨w.heap.size, 0, none⟩) 4 4 netL (some ⟨bo, 0, none⟩) 2 2 [2, 1] 1 3 0 7 w9 rfl (by omega) rfl (by omega) (fun k hk => by rcases (by omega : k = 0 ∨ k = 1) with rfl | rfl <;> decide +kernel) (Sl.of_own hvn) (Sl.of_own hO) (by decide +kernel)).mono ?_
  rintro e w10 ⟨vh, rfl, hvh, hb⟩
  clear hO hbo
  replace hvh : w10.ownsRow 0 47 3 vh 0 ([]) := own_down (base' := 0) hvh (Nat.zero_le _)
  replace hvn := own_below hvn hb
  replace hva := own_below hva hb
  replace hvc := own_below hvc hb
  replace hXn := hXn.below hb hXn.lt
  replace hXa := hXa.below hb hXa.lt
  replace hXc := hXc.below hb hXc.lt
  replace hB := hB.trans (hb.mono hs)
  replace hs := hB.size
  clear hb
  obtain ⟨Ah, ch, rfl⟩ := slice_of_own hvh
  clear hvh
  go_wp2_with fail
  obtain ⟨bo, hbo⟩ : ∃ q, w10.heap.size + 1 = q := ⟨_, rfl⟩
  have hs_ := hB.size
  replace hvn := hvn.alloc (.cells #[.slice Ah 0 ch, .int .i64 0] 26)
  replace hva := hva.alloc (.cells #[.slice Ah 0 ch, .int .i64 0] 26)
  replace hvc := hvc.alloc (.cells #[.slice Ah 0 ch, .int .i64 0] 26)
  replace hXn := hXn.alloc (.cells #[.slice Ah 0 ch, .int .i64 0] 26)
  replace hXa := hXa.alloc (.cells #[.slice Ah 0 ch, .int .i64 0] 26)
  replace hXc := hXc.alloc (.cells #[.slice Ah 0 ch, .int .i64 0] 26)
  replace hB := hB.alloc hs (.cells #[.slice Ah 0 ch, .int .i64 0] 26)
  replace hs := hB.size
  clear hs_
  have hs_ := hB.size
  have hO := own_lit ((w10.alloc (.cells #[.slice Ah 0 ch, .int .i64 0] 26))) 0 3 1 2 #[.int .i64 1, .int .i64 2] (by omega) rfl (by simp [maxLen])
  replace hvn := hvn.alloc (.cells #[.int .i64 1, .int .i64 2] 3)
  replace hva := hva.alloc (.cells #[.int .i64 1, .int .i64 2] 3)
  replace hvc := hvc.alloc (.cells #[.int .i64 1, .int .i64 2] 3)
  replace hXn := hXn.alloc (.cells #[.int .i64 1, .int .i64 2] 3)
  replace hXa := hXa.alloc (.cells #[.int .i64 1, .int .i64 2] 3)
  replace hXc := hXc.alloc (.cells #[.int .i64 1, .int .i64 2] 3)
  replace hB := hB.alloc hs (.cells #[.int .i64 1, .int .i64 2] 3)
  replace hs := hB.size
  clear hs_
  simp only [World.size_alloc] at hO
  generalize ((w10.alloc (.cells #[.slice Ah 0 ch, .int .i64 0] 26)).alloc (.cells #[.int .i64 1, .int .i64 2] 3)) = w11 at *
  rw [hbo] at hO
  try rw [hbo]
  refine (proute_no (some ⟨w.heap.size, 0, none⟩) 4 4 netL (some ⟨bo, 0, none⟩) 2 2 [1, 2] 1 3 0 20 w11 rfl (by omega) rfl (by omega) (fun k hk => by rcases (by omega : k = 0 ∨ k = 1) with rfl | rfl <;> decide +kernel) (Sl.of_own hvn) (Sl.of_own hO) (by decide +kernel)).mono ?_
  rintro e w12 ⟨vi, rfl, hvi, hb⟩
  clear hO hbo
  replace hvi : w12.ownsRow 0 47 3 vi 0 ([]) := own_down (base' := 0) hvi (Nat.zero_le _)
  replace hvn := own_below hvn hb
  replace hva := own_below hva hb
  replace hvc := own_below hvc hb
  replace hXn := hXn.below hb hXn.lt
  replace hXa := hXa.below hb hXa.lt
  replace hXc := hXc.below hb hXc.lt
  replace hB := hB.trans (hb.mono hs)
  replace hs := hB.size
  clear hb
  obtain ⟨Ai, ci, rfl⟩ := slice_of_own hvi
  clear hvi
  go_wp2_with fail
  obtain ⟨bo, hbo⟩ : ∃ q, w12.heap.size + 1 = q := ⟨_, rfl⟩
  have hs_ := hB.size
  replace hvn := hvn.alloc (.cells #[.slice Ai 0 ci, .int .i64 0] 26)
  replace hva := hva.alloc (.cells #[.slice Ai 0 ci, .int .i64 0] 26)
  replace hvc := hvc.alloc (.cells #[.slice Ai 0 ci, .int .i64 0] 26)
  replace hXn := hXn.alloc (.cells #[.slice Ai 0 ci, .int .i64 0] 26)
  replace hXa := hXa.alloc (.cells #[.slice Ai 0 ci, .int .i64 0] 26)
  replace hXc := hXc.alloc (.cells #[.slice Ai 0 ci, .int .i64 0] 26)
  replace hB := hB.alloc hs (.cells #[.slice Ai 0 ci, .int .i64 0] 26)
  replace hs := hB.size
  clear hs_
  have hs_ := hB.size
  have hO := own_lit ((w12.alloc (.cells #[.slice Ai 0 ci, .int .i64 0] 26))) 0 3 1 2 #[.int .i64 1, .int .i64 2] (by omega) rfl (by simp [maxLen])
  replace hvn := hvn.alloc (.cells #[.int .i64 1, .int .i64 2] 3)
  replace hva := hva.alloc (.cells #[.int .i64 1, .int .i64 2] 3)
  replace hvc := hvc.alloc (.cells #[.int .i64 1, .int .i64 2] 3)
  replace hXn := hXn.alloc (.cells #[.int .i64 1, .int .i64 2] 3)
  replace hXa := hXa.alloc (.cells #[.int .i64 1, .int .i64 2] 3)
  replace hXc := hXc.alloc (.cells #[.int .i64 1, .int .i64 2] 3)
  replace hB := hB.alloc hs (.cells #[.int .i64 1, .int .i64 2] 3)
  replace hs := hB.size
  clear hs_
  simp only [World.size_alloc] at hO
  generalize ((w12.alloc (.cells #[.slice Ai 0 ci, .int .i64 0] 26)).alloc (.cells #[.int .i64 1, .int .i64 2] 3)) = w13 at *
  rw [hbo] at hO
  try rw [hbo]
  refine (pEnds_yes (some ⟨w.heap.size, 0, none⟩) 4 4 netL (some ⟨bo, 0, none⟩) 2 2 [1, 2] 1 w13 rfl (by omega) rfl (by omega) (fun k hk => by rcases (by omega : k = 0 ∨ k = 1) with rfl | rfl <;> decide +kernel) (Sl.of_own hvn) (Sl.of_own hO) [1, 2, 3] (by decide +kernel)).mono ?_
  rintro e w14 ⟨vm, rfl, hvm, hb⟩
  clear hO hbo
  replace hvm : w14.ownsRow 0 3 1 vm 3 ([.int .i64 1, .int .i64 2, .int .i64 3]) := own_down (base' := 0) hvm (Nat.zero_le _)
  replace hvn := own_below hvn hb
  replace hva := own_below hva hb
  replace hvc := own_below hvc hb
  replace hXn := hXn.below hb hXn.lt
  replace hXa := hXa.below hb hXa.lt
  replace hXc := hXc.below hb hXc.lt
  replace hB := hB.trans (hb.mono hs)
  replace hs := hB.size
  clear hb
  obtain ⟨Am, cm, rfl⟩ := slice_of_own hvm
  go_wp2_with fail
  obtain ⟨bo, hbo⟩ : ∃ q, w14.heap.size = q := ⟨_, rfl⟩
  have hs_ := hB.size
  have hO := own_lit (w14) 0 3 1 1 #[.int .i64 9] (by omega) rfl (by simp [maxLen])
  replace hvn := hvn.alloc (.cells #[.int .i64 9] 3)
  replace hva := hva.alloc (.cells #[.int .i64 9] 3)
  replace hvc := hvc.alloc (.cells #[.int .i64 9] 3)
  replace hvm := hvm.alloc (.cells #[.int .i64 9] 3)
  replace hXn := hXn.alloc (.cells #[.int .i64 9] 3)
  replace hXa := hXa.alloc (.cells #[.int .i64 9] 3)
  replace hXc := hXc.alloc (.cells #[.int .i64 9] 3)
  replace hB := hB.alloc hs (.cells #[.int .i64 9] 3)
  replace hs := hB.size
  clear hs_
  generalize (w14.alloc (.cells #[.int .i64 9] 3)) = w15 at *
  rw [hbo] at hO
  try rw [hbo]
  refine (pEnds_no (some ⟨w.heap.size, 0, none⟩) 4 4 netL (some ⟨bo, 0, none⟩) 1 1 [9] 1 w15 rfl (by omega) rfl (by omega) (fun k hk => by have hk0 : k = 0 := (by omega); rw [hk0]; decide +kernel) (Sl.of_own hvn) (Sl.of_own hO) (by decide +kernel)).mono ?_
  rintro e w16 ⟨vk, rfl, hvk, hb⟩
  clear hO hbo
  replace hvk : w16.ownsRow 0 3 1 vk 0 ([]) := own_down (base' := 0) hvk (Nat.zero_le _)
  replace hvn := own_below hvn hb
  replace hva := own_below hva hb
  replace hvc := own_below hvc hb
  replace hvm := own_below hvm hb
  replace hXn := hXn.below hb hXn.lt
  replace hXa := hXa.below hb hXa.lt
  replace hXc := hXc.below hb hXc.lt
  replace hB := hB.trans (hb.mono hs)
  replace hs := hB.size
  clear hb
  obtain ⟨Ak, ck, rfl⟩ := slice_of_own hvk
  clear hvk
  have a_0 : w16.cell? ⟨w2.heap.size, 0, none⟩ = some (.slice Aa 2 ca) := hXa.cell 0
  have a_1 : w16.cell? ⟨w2.heap.size, 1, none⟩ = some (.int .i64 25) := hXa.cell 1
  have lt_a := hXa.lt
  go_wp2_with fail
  obtain ⟨bw, hbw⟩ : ∃ q, w16.heap.size = q := ⟨_, rfl⟩
  clear a_0 a_1 lt_a
  have hs_ := hB.size
  have hO := own_lit (w16) 0 47 3 2 #[.int .i64 1, .int .i64 10, .int .i64 17, .int .i64 2, .int .i64 17, .int .i64 25] (by omega) rfl (by simp [maxLen])
  replace hvn := hvn.alloc (.cells #[.int .i64 1, .int .i64 10, .int .i64 17, .int .i64 2, .int .i64 17, .int .i64 25] 47)
  replace hva := hva.alloc (.cells #[.int .i64 1, .int .i64 10, .int .i64 17, .int .i64 2, .int .i64 17, .int .i64 25] 47)
  replace hvc := hvc.alloc (.cells #[.int .i64 1, .int .i64 10, .int .i64 17, .int .i64 2, .int .i64 17, .int .i64 25] 47)
  replace hvm := hvm.alloc (.cells #[.int .i64 1, .int .i64 10, .int .i64 17, .int .i64 2, .int .i64 17, .int .i64 25] 47)
  replace hXn := hXn.alloc (.cells #[.int .i64 1, .int .i64 10, .int .i64 17, .int .i64 2, .int .i64 17, .int .i64 25] 47)
  replace hXa := hXa.alloc (.cells #[.int .i64 1, .int .i64 10, .int .i64 17, .int .i64 2, .int .i64 17, .int .i64 25] 47)
  replace hXc := hXc.alloc (.cells #[.int .i64 1, .int .i64 10, .int .i64 17, .int .i64 2, .int .i64 17, .int .i64 25] 47)
  replace hB := hB.alloc hs (.cells #[.int .i64 1, .int .i64 10, .int .i64 17, .int .i64 2, .int .i64 17, .int .i64 25] 47)
  replace hs := hB.size
  clear hs_
  have hs_ := hB.size
  have hXd := Blok.new ((w16.alloc (.cells #[.int .i64 1, .int .i64 10, .int .i64 17, .int .i64 2, .int .i64 17, .int .i64 25] 47))) 26 #[.slice (some ⟨w16.heap.size, 0, none⟩) 2 2, .int .i64 25]
  replace hvn := hvn.alloc (.cells #[.slice (some ⟨w16.heap.size, 0, none⟩) 2 2, .int .i64 25] 26)
  replace hva := hva.alloc (.cells #[.slice (some ⟨w16.heap.size, 0, none⟩) 2 2, .int .i64 25] 26)
  replace hvc := hvc.alloc (.cells #[.slice (some ⟨w16.heap.size, 0, none⟩) 2 2, .int .i64 25] 26)
  replace hvm := hvm.alloc (.cells #[.slice (some ⟨w16.heap.size, 0, none⟩) 2 2, .int .i64 25] 26)
  replace hXn := hXn.alloc (.cells #[.slice (some ⟨w16.heap.size, 0, none⟩) 2 2, .int .i64 25] 26)
  replace hXa := hXa.alloc (.cells #[.slice (some ⟨w16.heap.size, 0, none⟩) 2 2, .int .i64 25] 26)
  replace hXc := hXc.alloc (.cells #[.slice (some ⟨w16.heap.size, 0, none⟩) 2 2, .int .i64 25] 26)
  replace hO := hO.alloc (.cells #[.slice (some ⟨w16.heap.size, 0, none⟩) 2 2, .int .i64 25] 26)
  replace hB := hB.alloc hs (.cells #[.slice (some ⟨w16.heap.size, 0, none⟩) 2 2, .int .i64 25] 26)
  replace hs := hB.size
  clear hs_
  generalize ((w16.alloc (.cells #[.int .i64 1, .int .i64 10, .int .i64 17, .int .i64 2, .int .i64 17, .int .i64 25] 47)).alloc (.cells #[.slice (some ⟨w16.heap.size, 0, none⟩) 2 2, .int .i64 25] 26)) = w17 at *
  simp only [World.size_alloc] at hXd
  rw [hbw] at hO hXd
  try rw [hbw]
  clear hbw
  have HFOOT : Hid (∀ w', Below w17.heap.size w17 w' → w'.cell? ⟨w2.heap.size, 0, none⟩ = some (.slice Aa 2 ca) ∧ w'.cell? ⟨w2.heap.size, 1, none⟩ = some (.int .i64 25) ∧ w'.cell? ⟨w4.heap.size, 0, none⟩ = some (.slice Ac 0 cc) ∧ w'.cell? ⟨w4.heap.size, 1, none⟩ = some (.int .i64 5) ∧ w'.cell? ⟨(bw + 1), 0, none⟩ = some (.slice (some ⟨bw, 0, none⟩) 2 2) ∧ w'.cell? ⟨(bw + 1), 1, none⟩ = some (.int .i64 25) ∧ w'.cell? ⟨w.heap.size, 0, none⟩ = some (.int .i64 1) ∧ w'.cell? ⟨w.heap.size, 1, none⟩ = some (.int .i64 1) ∧ w'.cell? ⟨w.heap.size, 2, none⟩ = some (.int .i64 2) ∧ w'.cell? ⟨w.heap.size, 3, none⟩ = some (.int .i64 10) ∧ w'.cell? ⟨w.heap.size, 4, none⟩ = some (.int .i64 20) ∧ w'.cell? ⟨w.heap.size, 5, none⟩ = some (.int .i64 3) ∧ w'.cell? ⟨w.heap.size, 6, none⟩ = some (.int .i64 4) ∧ w'.cell? ⟨w.heap.size, 7, none⟩ = some (.int .i64 30) ∧ w'.cell? ⟨w.heap.size, 8, none⟩ = some (.int .i64 2) ∧ w'.cell? ⟨w.heap.size, 9, none⟩ = some (.int .i64 2) ∧ w'.cell? ⟨w.heap.size, 10, none⟩ = some (.int .i64 3) ∧ w'.cell? ⟨w.heap.size, 11, none⟩ = some (.int .i64 0) ∧ w'.cell? ⟨w.heap.size, 12, none⟩ = some (.int .i64 30) ∧ w'.cell? ⟨w.heap.size, 13, none⟩ = some (.int .i64 1) ∧ w'.cell? ⟨w.heap.size, 14, none⟩ = some (.int .i64 1) ∧ w'.cell? ⟨w.heap.size, 15, none⟩ = some (.int .i64 30)) := fun w' h => ⟨(hXa.below h hXa.lt).cell 0, (hXa.below h hXa.lt).cell 1, (hXc.below h hXc.lt).cell 0, (hXc.below h hXc.lt).cell 1, (hXd.below h hXd.lt).cell 0, (hXd.below h hXd.lt).cell 1, (hXn.below h hXn.lt).cell 0, (hXn.below h hXn.lt).cell 1, (hXn.below h hXn.lt).cell 2, (hXn.below h hXn.lt).cell 3, (hXn.below h hXn.lt).cell 4, (hXn.below h hXn.lt).cell 5, (hXn.below h hXn.lt).cell 6, (hXn.below h hXn.lt).cell 7, (hXn.below h hXn.lt).cell 8, (hXn.below h hXn.lt).cell 9, (hXn.below h hXn.lt).cell 10, (hXn.below h hXn.lt).cell 11, (hXn.below h hXn.lt).cell 12, (hXn.below h hXn.lt).cell 13, (hXn.below h hXn.lt).cell 14, (hXn.below h hXn.lt).cell 15⟩
  have HSA : Hid (∀ w', Below w17.heap.size w17 w' → Sl w' w'.heap.size 3 Aa 2 ca (flatHp hopA)) := fun w' h => Sl.of_own (own_below hva h)
  have HSO : Hid (∀ w', Below w17.heap.size w17 w' → Sl w' w'.heap.size 3 (some ⟨bw, 0, none⟩) 2 2 (flatHp hopA)) := fun w' h => Sl.of_own (own_below hO h)
  have HSC : Hid (∀ w', Below w17.heap.size w17 w' → Sl w' w'.heap.size 3 Ac 0 cc (flatHp [])) := fun w' h => Sl.of_own (own_below hvc h)
  have HSM : Hid (∀ w', Below w17.heap.size w17 w' → Sl w' w'.heap.size 1 Am 3 cm ([1, 2, 3].map (Value.int .i64))) := fun w' h => Sl.of_own (own_below hvm h)
  have HSN : Hid (∀ w', Below w17.heap.size w17 w' → Sl w' w'.heap.size 8 (some ⟨w.heap.size, 0, none⟩) 4 4 (flatEd netL)) := fun w' h => Sl.of_own (own_below hvn h)
  have a_0 : w17.cell? ⟨w2.heap.size, 0, none⟩ = some (.slice Aa 2 ca) := hXa.cell 0
  have a_1 : w17.cell? ⟨w2.heap.size, 1, none⟩ = some (.int .i64 25) := hXa.cell 1
  have lt_a := hXa.lt
  have c_0 : w17.cell? ⟨w4.heap.size, 0, none⟩ = some (.slice Ac 0 cc) := hXc.cell 0
  have c_1 : w17.cell? ⟨w4.heap.size, 1, none⟩ = some (.int .i64 5) := hXc.cell 1
  have lt_c := hXc.lt
  have d_0 : w17.cell? ⟨(bw + 1), 0, none⟩ = some (.slice (some ⟨bw, 0, none⟩) 2 2) := hXd.cell 0
  have d_1 : w17.cell? ⟨(bw + 1), 1, none⟩ = some (.int .i64 25) := hXd.cell 1
  have lt_d := hXd.lt
  have n_0 : w17.cell? ⟨w.heap.size, 0, none⟩ = some (.int .i64 1) := hXn.cell 0
  have n_1 : w17.cell? ⟨w.heap.size, 1, none⟩ = some (.int .i64 1) := hXn.cell 1
  have n_2 : w17.cell? ⟨w.heap.size, 2, none⟩ = some (.int .i64 2) := hXn.cell 2
  have n_3 : w17.cell? ⟨w.heap.size, 3, none⟩ = some (.int .i64 10) := hXn.cell 3
  have n_4 : w17.cell? ⟨w.heap.size, 4, none⟩ = some (.int .i64 20) := hXn.cell 4
  have n_5 : w17.cell? ⟨w.heap.size, 5, none⟩ = some (.int .i64 3) := hXn.cell 5
  have n_6 : w17.cell? ⟨w.heap.size, 6, none⟩ = some (.int .i64 4) := hXn.cell 6
  have n_7 : w17.cell? ⟨w.heap.size, 7, none⟩ = some (.int .i64 30) := hXn.cell 7
  have n_8 : w17.cell? ⟨w.heap.size, 8, none⟩ = some (.int .i64 2) := hXn.cell 8
  have n_9 : w17.cell? ⟨w.heap.size, 9, none⟩ = some (.int .i64 2) := hXn.cell 9
  have n_10 : w17.cell? ⟨w.heap.size, 10, none⟩ = some (.int .i64 3) := hXn.cell 10
  have n_11 : w17.cell? ⟨w.heap.size, 11, none⟩ = some (.int .i64 0) := hXn.cell 11
  have n_12 : w17.cell? ⟨w.heap.size, 12, none⟩ = some (.int .i64 30) := hXn.cell 12
  have n_13 : w17.cell? ⟨w.heap.size, 13, none⟩ = some (.int .i64 1) := hXn.cell 13
  have n_14 : w17.cell? ⟨w.heap.size, 14, none⟩ = some (.int .i64 1) := hXn.cell 14
  have n_15 : w17.cell? ⟨w.heap.size, 15, none⟩ = some (.int .i64 30) := hXn.cell 15
  have lt_n := hXn.lt
  try simp only [List.append]
  go_region_held3 (fun w' => w'.cell? ⟨w2.heap.size, 0, none⟩ = some (.slice Aa 2 ca) ∧ w'.cell? ⟨w2.heap.size, 1, none⟩ = some (.int .i64 25) ∧ w'.cell? ⟨w4.heap.size, 0, none⟩ = some (.slice Ac 0 cc) ∧ w'.cell? ⟨w4.heap.size, 1, none⟩ = some (.int .i64 5) ∧ w'.cell? ⟨(bw + 1), 0, none⟩ = some (.slice (some ⟨bw, 0, none⟩) 2 2) ∧ w'.cell? ⟨(bw + 1), 1, none⟩ = some (.int .i64 25) ∧ w'.cell? ⟨w.heap.size, 0, none⟩ = some (.int .i64 1) ∧ w'.cell? ⟨w.heap.size, 1, none⟩ = some (.int .i64 1) ∧ w'.cell? ⟨w.heap.size, 2, none⟩ = some (.int .i64 2) ∧ w'.cell? ⟨w.heap.size, 3, none⟩ = some (.int .i64 10) ∧ w'.cell? ⟨w.heap.size, 4, none⟩ = some (.int .i64 20) ∧ w'.cell? ⟨w.heap.size, 5, none⟩ = some (.int .i64 3) ∧ w'.cell? ⟨w.heap.size, 6, none⟩ = some (.int .i64 4) ∧ w'.cell? ⟨w.heap.size, 7, none⟩ = some (.int .i64 30) ∧ w'.cell? ⟨w.heap.size, 8, none⟩ = some (.int .i64 2) ∧ w'.cell? ⟨w.heap.size, 9, none⟩ = some (.int .i64 2) ∧ w'.cell? ⟨w.heap.size, 10, none⟩ = some (.int .i64 3) ∧ w'.cell? ⟨w.heap.size, 11, none⟩ = some (.int .i64 0) ∧ w'.cell? ⟨w.heap.size, 12, none⟩ = some (.int .i64 30) ∧ w'.cell? ⟨w.heap.size, 13, none⟩ = some (.int .i64 1) ∧ w'.cell? ⟨w.heap.size, 14, none⟩ = some (.int .i64 1) ∧ w'.cell? ⟨w.heap.size, 15, none⟩ = some (.int .i64 30))
    (first | go_keep | exact HFOOT.out _ hC7 | exact HFOOT.out _ hC6 | exact HFOOT.out _ hC5 | exact HFOOT.out _ hC4 | exact HFOOT.out _ hC3 | exact HFOOT.out _ hC2 | exact HFOOT.out _ hC1)
    (first
      | (go_at_call 23; (with_reducible refine Calls.mono (psame_refl Aa (some ⟨bw, 0, none⟩) 2 ca 2 hopA 25 _ hopA_len (by omega) (HSA.out _ (by (repeat (first | exact Below.refl _ _ | refine Below.alloc ?_ (by first | omega | (simp; done) | (simp; omega)) _ | refine Below.setCell ?_ (by first | omega | (simp; done) | (simp; omega)) _ | refine Below.drew ?_)))) (HSO.out _ (by (repeat (first | exact Below.refl _ _ | refine Below.alloc ?_ (by first | omega | (simp; done) | (simp; omega)) _ | refine Below.setCell ?_ (by first | omega | (simp; done) | (simp; omega)) _ | refine Below.drew ?_))))) ?_); rintro e x1 ⟨rfl, hb_x1⟩; have hC1 : Below w17.heap.size w17 x1 := Below.trans (by (repeat (first | exact Below.refl _ _ | refine Below.alloc ?_ (by first | omega | (simp; done) | (simp; omega)) _ | refine Below.setCell ?_ (by first | omega | (simp; done) | (simp; omega)) _ | refine Below.drew ?_))) (hb_x1.mono (by first | exact Nat.le_refl _ | (simp; done))))
      | (go_at_call 23; (with_reducible refine Calls.mono (psame_refl Ac none 0 cc 0 [] 5 _ nil_len (by omega) (HSC.out _ (by first | exact hC1 | exact hC1.alloc hC1.size _ | exact (hC1.alloc hC1.size _).alloc (Nat.le_trans hC1.size (by simp)) _)) (nil_sl _)) ?_); rintro e x2 ⟨rfl, hb_x2⟩; have hC2 : Below w17.heap.size w17 x2 := Below.trans (by first | exact hC1 | exact hC1.alloc hC1.size _ | exact (hC1.alloc hC1.size _).alloc (Nat.le_trans hC1.size (by simp)) _) (hb_x2.mono (by first | exact Nat.le_refl _ | (simp; done) | exact hC1.size | exact Nat.le_trans hC1.size (by simp) | (have := hC1.size; simp at *; omega))))
      | (go_at_call 19; (with_reducible refine Calls.mono (ints_refl Am (some ⟨x2.heap.size, 0, none⟩) 3 cm 3 [1, 2, 3] _ i3_len (by omega) (HSM.out _ (by first | exact hC2 | exact hC2.alloc hC2.size _ | exact (hC2.alloc hC2.size _).alloc (Nat.le_trans hC2.size (by simp)) _)) (i3_lit x2)) ?_); rintro e x3 ⟨rfl, hb_x3⟩; have hC3 : Below w17.heap.size w17 x3 := Below.trans (by first | exact hC2 | exact hC2.alloc hC2.size _ | exact (hC2.alloc hC2.size _).alloc (Nat.le_trans hC2.size (by simp)) _) (hb_x3.mono (by first | exact Nat.le_refl _ | (simp; done) | exact hC2.size | exact Nat.le_trans hC2.size (by simp) | (have := hC2.size; simp at *; omega))))
      | (go_at_call 21; (with_reducible refine Calls.mono (pids_any Aa 2 ca hopA 25 _ hopA_len (by omega) (HSA.out _ (by first | exact hC3 | exact hC3.alloc hC3.size _ | exact (hC3.alloc hC3.size _).alloc (Nat.le_trans hC3.size (by simp)) _))) ?_); rintro e x4 ⟨vx, rfl, hvx, hb_x4⟩; have hC4 : Below w17.heap.size w17 x4 := Below.trans (by first | exact hC3 | exact hC3.alloc hC3.size _ | exact (hC3.alloc hC3.size _).alloc (Nat.le_trans hC3.size (by simp)) _) (hb_x4.mono (by first | exact Nat.le_refl _ | (simp; done) | exact hC3.size | exact Nat.le_trans hC3.size (by simp) | (have := hC3.size; simp at *; omega))); obtain ⟨Ax, cx, rfl⟩ := slice_of_own hvx; have hvx2 : x4.ownsRow _ 3 1 (.slice Ax 2 cx) 2 ([1, 2].map (Value.int .i64)) := hvx)
      | (go_at_call 19; (with_reducible refine Calls.mono (ints_refl Ax (some ⟨x4.heap.size, 0, none⟩) 2 cx 2 [1, 2] _ i2_len (by omega) (Sl.of_own (hvx2.alloc _)) (i2_lit x4)) ?_); rintro e x5 ⟨rfl, hb_x5⟩; have hC5 : Below w17.heap.size w17 x5 := Below.trans (by first | exact hC4 | exact hC4.alloc hC4.size _ | exact (hC4.alloc hC4.size _).alloc (Nat.le_trans hC4.size (by simp)) _) (hb_x5.mono (by first | exact Nat.le_refl _ | (simp; done) | exact hC4.size | exact Nat.le_trans hC4.size (by simp) | (have := hC4.size; simp at *; omega))))
      | (go_at_call 19; (with_reducible refine Calls.mono (ints_refl Ax (some ⟨x3.heap.size, 0, none⟩) 2 cx 2 [1, 2] _ i2_len (by omega) (Sl.of_own hvx2) ((i2_lit x3).up hb_x4)) ?_); rintro e x5 ⟨rfl, hb_x5⟩; have hC5 : Below w17.heap.size w17 x5 := Below.trans (by first | exact hC4 | exact hC4.alloc hC4.size _ | exact (hC4.alloc hC4.size _).alloc (Nat.le_trans hC4.size (by simp)) _) (hb_x5.mono (by first | exact Nat.le_refl _ | (simp; done) | exact hC4.size | exact Nat.le_trans hC4.size (by simp) | (have := hC4.size; simp at *; omega))))
      | (go_at_call 16; (with_reducible refine Calls.mono (pright_any (some ⟨w.heap.size, 0, none⟩) 4 4 netL _ netL_len (by omega) (HSN.out _ (by first | exact hC5 | exact hC5.alloc hC5.size _ | exact (hC5.alloc hC5.size _).alloc (Nat.le_trans hC5.size (by simp)) _)) true netL_right) ?_); rintro e x6 ⟨rfl, hb_x6⟩; have hC6 : Below w17.heap.size w17 x6 := Below.trans (by first | exact hC5 | exact hC5.alloc hC5.size _ | exact (hC5.alloc hC5.size _).alloc (Nat.le_trans hC5.size (by simp)) _) (hb_x6.mono (by first | exact Nat.le_refl _ | (simp; done) | exact hC5.size | exact Nat.le_trans hC5.size (by simp) | (have := hC5.size; simp at *; omega))))
      | (go_at_call 16; (with_reducible refine Calls.mono (pright_any (some ⟨x6.heap.size, 0, none⟩) 2 2 netX _ netX_len (by omega) (netX_lit x6) false netX_right) ?_); rintro e x7 ⟨rfl, hb_x7⟩; have hC7 : Below w17.heap.size w17 x7 := Below.trans (by first | exact hC6 | exact hC6.alloc hC6.size _ | exact (hC6.alloc hC6.size _).alloc (Nat.le_trans hC6.size (by simp)) _) (hb_x7.mono (by first | exact Nat.le_refl _ | (simp; done) | exact hC6.size | exact Nat.le_trans hC6.size (by simp) | (have := hC6.size; simp at *; omega)))))
  all_goals
    have hfin := hB.trans (hC7.mono hB.size)
    go_wp2
    go_ret
    exact ⟨rfl, hfin⟩
end Go.Proofs.Ytmijkdfinhkloaa
