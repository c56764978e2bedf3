/- order.Insert into less than 999 routes. No condition but that. -/
import Derived.Test.YtbhhkaaidhapbaaGQ1
namespace Go.Proofs.Ytbhhkaaidhapbaa
open Go.ChangeShapes Go.WideShapes Go.ChangeAt Go.RowKit Go.Sort
set_option linter.unusedSimpArgs false
set_option linter.unusedVariables false
set_option maxHeartbeats 2000000 in
set_option maxRecDepth 100000 in
theorem oins_any (A : Option Addr) (n c : Nat) (l : List Rx) (x : Rx) (most : Int) (q : Nat) (w : World) (hl : l.length = n) (hn : n < 999) (h : Sl w w.heap.size 2 A n c (flatRh (hdRx l))) (hok : ∀ y ∈ l, y.ok w) (hx : x.ok w) (hq : q = min most.toNat (compactT (sortT ((l ++ [x]).map Rx.rt))).length) :
    Calls Try.prog 13 #[.slice A n c, .agg #[.slice x.h.A x.h.n x.h.c, .int .i64 x.h.t], .int .i64 most] w fun e w' => ∃ g m, e = .returned (.slice (some ⟨g, 0, none⟩) q q) ∧ m.map Rx.rt = (compactT (sortT ((l ++ [x]).map Rx.rt))).take q ∧ (∀ y ∈ m, y.ok w') ∧ Sl w' w'.heap.size 2 (some ⟨g, 0, none⟩) q q (flatRh (hdRx m)) ∧ Below w.heap.size w w' := by
  have HQ := Lib.hid hq
  have HL := Lib.hid hl
  have HOK := Lib.hid hok
  have HX := Lib.hid hx
  have HH := Lib.hid h
  clear hq hl hok hx h
  go_enter Try.func13, Try.ntmps13
  go_wp2_with fail
  have hB0 : Below w.heap.size w (((w.alloc (.cells #[.slice x.h.A x.h.n x.h.c, .int .i64 x.h.t] 25)).alloc (.cells #[.slice x.h.A x.h.n x.h.c, .int .i64 x.h.t] 25)).alloc (.cells #[.slice A n c, .slice (some ⟨w.heap.size + 1, 0, none⟩) 1 1] 22)) := by (repeat (first | exact Below.refl _ _ | refine Below.alloc ?_ (by first | omega | (simp; done) | (simp; omega)) _ | refine Below.setCell ?_ (by first | omega | (simp; done) | (simp; omega)) _ | refine Below.drew ?_))
  have hlit := own_lit (w.alloc (.cells #[.slice x.h.A x.h.n x.h.c, .int .i64 x.h.t] 25)) w.heap.size 25 2 1 #[.slice x.h.A x.h.n x.h.c, .int .i64 x.h.t] (by simp) rfl (by simp [maxLen])
  have hO2 := Blok.new ((w.alloc (.cells #[.slice x.h.A x.h.n x.h.c, .int .i64 x.h.t] 25)).alloc (.cells #[.slice x.h.A x.h.n x.h.c, .int .i64 x.h.t] 25)) 22 #[.slice A n c, .slice (some ⟨w.heap.size + 1, 0, none⟩) 1 1]
  simp only [World.size_alloc] at hlit hO2
  have hr := (Sl.of_own hlit).up ((Below.refl _ _).alloc (Nat.le_refl _) (.cells #[.slice A n c, .slice (some ⟨w.heap.size + 1, 0, none⟩) 1 1] 22))
  have hls := HH.out.up hB0
  have HOK2 : Hid (∀ y ∈ l ++ [x], y.ok (((w.alloc (.cells #[.slice x.h.A x.h.n x.h.c, .int .i64 x.h.t] 25)).alloc (.cells #[.slice x.h.A x.h.n x.h.c, .int .i64 x.h.t] 25)).alloc (.cells #[.slice A n c, .slice (some ⟨w.heap.size + 1, 0, none⟩) 1 1] 22))) := fun y hy => by
    rcases List.mem_append.1 hy with hy | hy
    · exact (HOK.out y hy).below hB0
    · simp at hy; subst hy; exact HX.out.below hB0
  have hs0 := hB0.size
  clear hlit
  generalize (((w.alloc (.cells #[.slice x.h.A x.h.n x.h.c, .int .i64 x.h.t] 25)).alloc (.cells #[.slice x.h.A x.h.n x.h.c, .int .i64 x.h.t] 25)).alloc (.cells #[.slice A n c, .slice (some ⟨w.heap.size + 1, 0, none⟩) 1 1] 22)) = wz at *
  have hcat : catRh (fun k => if k = 0 then hdRx l else [x.h]) 2 = hdRx (l ++ [x]) := by simp [catRh, hdRx]
  have hlen : (hdRx (l ++ [x])).length = n + 1 := by simp [hdRx, HL.out]
  refine (concatRh (w.heap.size + 1 + 1) 2 2 (fun k => if k = 0 then A else some ⟨w.heap.size + 1, 0, none⟩) (fun k => if k = 0 then n else 1) (fun k => if k = 0 then c else 1) (fun k => if k = 0 then hdRx l else [x.h]) wz (by omega) (fun k hk => ?_) (by rw [hcat, hlen]; omega) (fun k hk => ?_) (fun k hk => ?_)).mono ?_
  · by_cases h0 : k = 0
    · simp only [h0, if_true]; simp [hdRx, HL.out]
    · simp only [h0, if_false]; rfl
  · obtain rfl | rfl : k = 0 ∨ k = 1 := by omega
    · exact hO2.cell 0
    · exact hO2.cell 1
  · obtain rfl | rfl : k = 0 ∨ k = 1 := by omega
    · exact hls
    · exact hr
  rintro e w4 ⟨v, rfl, hown, hb4⟩
  rw [hcat, hlen] at hown
  obtain ⟨A4, c4, rfl⟩ := slice_of_own hown
  have hB4 := hB0.trans (hb4.mono hs0)
  have HS4 := Lib.hid (Sl.of_own hown)
  have HOK4 : Hid (∀ y ∈ l ++ [x], y.ok w4) := fun y hy => (HOK2.out y hy).below hb4
  clear hO2 hr hls hown hb4 HOK2 hB0
  go_wp2_with fail
  refine (osort_any A4 (n + 1) c4 (l ++ [x]) w4 (by simp [HL.out]) (by omega) (by omega) HS4.out HOK4.out).mono ?_
  rintro e w5 ⟨g, c5, m, rfl, hm, hsame, ho5, hown5, hb5⟩
  have hrt := out_rt (l := l ++ [x]) (m := m) (n := n + 1) (by simp [HL.out]) hm hsame
  have hB5 := hB4.trans (hb5.mono hB4.size)
  obtain ⟨z, hz⟩ : ∃ z, compactX (sortX m) = z := ⟨_, rfl⟩
  rw [hz] at hrt ho5 hown5 ⊢
  have hqz : q = min most.toNat z.length := by rw [HQ.out, ← hrt, List.length_map]
  have HRT := Lib.hid hrt
  have HO5 := Lib.hid ho5
  have HS5 := Lib.hid (Sl.of_own hown5)
  have HQZ := Lib.hid hqz
  have hzc : z.length ≤ c5 := HS5.out.cap
  have hcm : c5 ≤ maxLen := HS5.out.max
  clear hrt ho5 hown5 hb5 hz hm hsame HS4 HOK4 hB4 HQ
  generalize hK : z.length = K at *
  have HK := Lib.hid hK
  clear hK
  go_wp2_with fail
  have hmq : (min (max most 0) (K : Int)).toNat = q := by omega
  have hqK : q ≤ K := by omega
  go_ret
  refine ⟨g, z.take q, ?_, ?_, fun y hy => (HO5.out y (List.mem_of_mem_take hy)).1, ?_, hB5⟩
  · show Ending.returned (Value.slice (some ⟨g, 0, none⟩) (min (max most 0) (K : Int)).toNat (min (max most 0) (K : Int)).toNat) = _
    rw [hmq]
  · rw [List.map_take, HRT.out]
  · have hu := HS5.out.upto (m := q) hqK
    rw [hd_take] at hu
    exact ⟨hu.lst, Nat.le_refl _, by omega, fun h => by cases h⟩
end Go.Proofs.Ytbhhkaaidhapbaa
