/- Contracts and plain facts, several texts of mine in one: Small11. No condition. -/
import Derived.Test.YtfdphpmcgidmiaaW14

/- Layer 11's small case comes out right, the sort's contract being a premise. -/
namespace Go.Proofs.Ytfdphpmcgidmiaa
open Go.ChangeShapes Go.WideShapes Go.ChangeAt Go.RowKit Go.Sort
set_option linter.unusedSimpArgs false
set_option linter.unusedVariables false
def baseC : List Co := [⟨7, 1, 2, 10, 20, 3⟩, ⟨5, 2, 1, 10, 20, 3⟩]
def baseR : List Rg := [⟨1, 2, 0, 20, 4⟩]
set_option maxHeartbeats 2000000 in
set_option maxRecDepth 100000 in
theorem base_any (w : World) :
    Calls Try.prog 30 #[] w fun e w' => ∃ A1 A, e = .returned (.agg #[.slice (some A1) 2 2, .slice (some A) 1 1, .int .i64 0, .int .i64 0]) ∧ w'.ownsRow (w.heap.size + 1) 28 6 (.slice (some A1) 2 2) 2 (flatCo baseC) ∧ w'.ownsRow (w.heap.size + 1) 59 5 (.slice (some A) 1 1) 1 (flatRg baseR) ∧ Below w.heap.size w w' := by
  have hX := Blok.new w 25 #[.slice none 0 0, .slice none 0 0, .int .i64 0, .int .i64 0]
  have hB : Below w.heap.size w (w.alloc (.cells #[.slice none 0 0, .slice none 0 0, .int .i64 0, .int .i64 0] 25)) := by (repeat (first | exact Below.refl _ _ | refine Below.alloc ?_ (by first | omega | (simp; done) | (simp; omega)) _ | refine Below.setCell ?_ (by first | omega | (simp; done) | (simp; omega)) _ | refine Below.drew ?_))
  have hs := hB.size
  have hsz : (w.alloc (.cells #[.slice none 0 0, .slice none 0 0, .int .i64 0, .int .i64 0] 25)).heap.size = w.heap.size + 1 := by simp
  go_enter Try.func30, Try.ntmps30
  go_upto_region 1 with fail
  generalize w.alloc (.cells #[.slice none 0 0, .slice none 0 0, .int .i64 0, .int .i64 0] 25) = w0 at *
  have r0 : w0.cell? ⟨w.heap.size, 0, none⟩ = some (.slice none 0 0) := hX.cell 0
  have f_0 := hX.free 0
  have r1 : w0.cell? ⟨w.heap.size, 1, none⟩ = some (.slice none 0 0) := hX.cell 1
  have f_1 := hX.free 1
  have r2 : w0.cell? ⟨w.heap.size, 2, none⟩ = some (.int .i64 0) := hX.cell 2
  have f_2 := hX.free 2
  have r3 : w0.cell? ⟨w.heap.size, 3, none⟩ = some (.int .i64 0) := hX.cell 3
  have f_3 := hX.free 3
  have lt_x := hX.lt
  have HX := Lib.hid hX
  clear hX
  go_wp2_with fail
  have hX := HX.out
  clear r0 r1 r2 r3
  have hF4 : ((((w0.setCell ⟨w.heap.size, 0, none⟩ (.slice (some ⟨w.heap.size + 1, 0, none⟩) 2 2)).setCell ⟨w.heap.size, 1, none⟩ (.slice (some ⟨w.heap.size + 1 + 1, 0, none⟩) 1 1)).setCell ⟨w.heap.size, 2, none⟩ (.int .i64 0)).setCell ⟨w.heap.size, 3, none⟩ (.int .i64 0)).heap.size = w.heap.size + 1 := by simp [hsz]
  have hF : Blok ((((w0.setCell ⟨w.heap.size, 0, none⟩ (.slice (some ⟨w.heap.size + 1, 0, none⟩) 2 2)).setCell ⟨w.heap.size, 1, none⟩ (.slice (some ⟨w.heap.size + 1 + 1, 0, none⟩) 1 1)).setCell ⟨w.heap.size, 2, none⟩ (.int .i64 0)).setCell ⟨w.heap.size, 3, none⟩ (.int .i64 0)) w.heap.size 25 #[.slice (some ⟨w.heap.size + 1, 0, none⟩) 2 2, .slice (some ⟨w.heap.size + 1 + 1, 0, none⟩) 1 1, .int .i64 0, .int .i64 0] := by have h := ((((hX.set_ 0 (.slice (some ⟨w.heap.size + 1, 0, none⟩) 2 2)).set_ 1 (.slice (some ⟨w.heap.size + 1 + 1, 0, none⟩) 1 1)).set_ 2 (.int .i64 0)).set_ 3 (.int .i64 0)); simpa using h
  have hle0 : w.heap.size ≤ w.heap.size := by first | exact Nat.le_refl _ | omega
  have hWf : Below w.heap.size w ((((w0.setCell ⟨w.heap.size, 0, none⟩ (.slice (some ⟨w.heap.size + 1, 0, none⟩) 2 2)).setCell ⟨w.heap.size, 1, none⟩ (.slice (some ⟨w.heap.size + 1 + 1, 0, none⟩) 1 1)).setCell ⟨w.heap.size, 2, none⟩ (.int .i64 0)).setCell ⟨w.heap.size, 3, none⟩ (.int .i64 0)) := ((((hB.setCell (p := ⟨w.heap.size, 0, none⟩) hle0 (.slice (some ⟨w.heap.size + 1, 0, none⟩) 2 2)).setCell (p := ⟨w.heap.size, 1, none⟩) hle0 (.slice (some ⟨w.heap.size + 1 + 1, 0, none⟩) 1 1)).setCell (p := ⟨w.heap.size, 2, none⟩) hle0 (.int .i64 0)).setCell (p := ⟨w.heap.size, 3, none⟩) hle0 (.int .i64 0))
  have hlF := hF.lt
  have hgw : w0.grownBy ((((w0.setCell ⟨w.heap.size, 0, none⟩ (.slice (some ⟨w.heap.size + 1, 0, none⟩) 2 2)).setCell ⟨w.heap.size, 1, none⟩ (.slice (some ⟨w.heap.size + 1 + 1, 0, none⟩) 1 1)).setCell ⟨w.heap.size, 2, none⟩ (.int .i64 0)).setCell ⟨w.heap.size, 3, none⟩ (.int .i64 0)) (some w.heap.size) := grown_trans (grown_trans (grown_trans (grown_set _ _ _) (grown_set _ _ _)) (grown_set _ _ _)) (grown_set _ _ _)
  generalize ((((w0.setCell ⟨w.heap.size, 0, none⟩ (.slice (some ⟨w.heap.size + 1, 0, none⟩) 2 2)).setCell ⟨w.heap.size, 1, none⟩ (.slice (some ⟨w.heap.size + 1 + 1, 0, none⟩) 1 1)).setCell ⟨w.heap.size, 2, none⟩ (.int .i64 0)).setCell ⟨w.heap.size, 3, none⟩ (.int .i64 0)) = wf at *
  have r0 : wf.cell? ⟨w.heap.size, 0, none⟩ = some (.slice (some ⟨w.heap.size + 1, 0, none⟩) 2 2) := hF.cell 0
  have r1 : wf.cell? ⟨w.heap.size, 1, none⟩ = some (.slice (some ⟨w.heap.size + 1 + 1, 0, none⟩) 1 1) := hF.cell 1
  have r2 : wf.cell? ⟨w.heap.size, 2, none⟩ = some (.int .i64 0) := hF.cell 2
  have r3 : wf.cell? ⟨w.heap.size, 3, none⟩ = some (.int .i64 0) := hF.cell 3
  refine bodyPost_ret (v := .agg #[.slice (some ⟨w.heap.size + 1, 0, none⟩) 2 2, .slice (some ⟨w.heap.size + 1 + 1, 0, none⟩) 1 1, .int .i64 0, .int .i64 0]) (by simp [results, Try.results30, go_sem, r0, r1, r2, r3, hlF]) rfl ?_
  have h1 := own_lit wf (w.heap.size + 1) 28 6 2 #[.int .i64 7, .int .i64 1, .int .i64 2, .int .i64 10, .int .i64 20, .int .i64 3, .int .i64 5, .int .i64 2, .int .i64 1, .int .i64 10, .int .i64 20, .int .i64 3] (by omega) rfl (by simp [maxLen])
  have h2 := own_lit (wf.alloc (.cells #[.int .i64 7, .int .i64 1, .int .i64 2, .int .i64 10, .int .i64 20, .int .i64 3, .int .i64 5, .int .i64 2, .int .i64 1, .int .i64 10, .int .i64 20, .int .i64 3] 28)) (w.heap.size + 1) 59 5 1 #[.int .i64 1, .int .i64 2, .int .i64 0, .int .i64 20, .int .i64 4] (by simp; omega) rfl (by simp [maxLen])
  replace h1 := h1.alloc (.cells #[.int .i64 1, .int .i64 2, .int .i64 0, .int .i64 20, .int .i64 4] 59)
  rw [hF4] at h1
  rw [World.size_alloc, hF4] at h2
  have hB9 := (hWf.alloc (by omega) (.cells #[.int .i64 7, .int .i64 1, .int .i64 2, .int .i64 10, .int .i64 20, .int .i64 3, .int .i64 5, .int .i64 2, .int .i64 1, .int .i64 10, .int .i64 20, .int .i64 3] 28)).alloc (by simp; omega) (.cells #[.int .i64 1, .int .i64 2, .int .i64 0, .int .i64 20, .int .i64 4] 59)
  exact ⟨_, _, rfl, h1, h2, hB9⟩
set_option maxHeartbeats 4000000 in
set_option maxRecDepth 100000 in
theorem vbare_of (HSORT : SortEdC) (A1 : Option Addr) (n1 c1 : Nat) (cs : List Co) (A : Option Addr) (n c : Nat) (rs : List Rg) (clk ver : Int) (w : World) (hd1 : cs.length = n1) (hn1 : n1 ≤ 1000000) (hd : rs.length = n) (hn : n ≤ 1000000) (h1 : Sl w w.heap.size 6 A1 n1 c1 (flatCo cs)) (h : Sl w w.heap.size 5 A n c (flatRg rs)) (hr : Kr.rightB rs = true) :
    Calls Try.prog 19 #[.agg #[.slice A1 n1 c1, .slice A n c, .int .i64 clk, .int .i64 ver]] w fun e w' => ∃ v m, e = .returned v ∧ m.Perm (allL rs [] 0 cs) ∧ (∀ i j, i < j → j < m.length → (gEd m i).id ≤ (gEd m j).id) ∧ w'.ownsRow w.heap.size 34 8 v m.length (flatEd m) ∧ Below w.heap.size w w' := by
  have hB : Below w.heap.size w (w.alloc (.cells #[.slice A1 n1 c1, .slice A n c, .int .i64 clk, .int .i64 ver] 25)) := by (repeat (first | exact Below.refl _ _ | refine Below.alloc ?_ (by first | omega | (simp; done) | (simp; omega)) _ | refine Below.setCell ?_ (by first | omega | (simp; done) | (simp; omega)) _ | refine Below.drew ?_))
  have HV := Lib.hid (fun w2 (hB : Below w.heap.size w w2) => vall_of HSORT A1 n1 c1 cs A n c rs clk ver none 0 0 [] 0 w2 hd1 hn1 hd hn rfl (by omega) (h1.up hB) (h.up hB) (Sl.nil0 _ _ _) hr (by decide +kernel))
  clear hd hd1 hr h h1
  go_enter Try.func19, Try.ntmps19
  go_wp2_with fail
  refine (HV.out _ hB).mono ?_
  rintro e w2 ⟨v, m, rfl, hp, hso, hown, hb⟩
  go_wp2_with fail
  go_ret
  exact ⟨v, m, rfl, hp, hso, own_base hown hB.size, hB.trans (hb.mono hB.size)⟩
def edA : Ed := ⟨7, 1, 2, 14, 20, 3, 4, 20⟩
def edF : Ed := ⟨7, 1, 2, 10, 20, 3, 4, 30⟩
def bkS : List Bk := [⟨7, 0, 10, 0⟩]
theorem all_a : allL baseR bkS 0 baseC = [edA] := by decide +kernel
theorem all_b : allL baseR [] 0 baseC = [edF] := by decide +kernel
theorem all_c : allL baseR bkS 2 baseC = [edF] := by decide +kernel
theorem baseR_right : Kr.rightB baseR = true := by decide +kernel
theorem bkS_right : Kb.rightB bkS = true := by decide +kernel
theorem one_len (x : Ed) : [x].length = 1 := rfl
theorem edge_no : edgeF baseR bkS ⟨5, 2, 1, 10, 20, 3⟩ 0 = none := by decide +kernel
set_option maxHeartbeats 8000000 in
set_option maxRecDepth 100000 in
theorem small11_of (HSORT : SortEdC) (w : World) :
    Calls Try.prog 8 #[] w fun e w' => e = .returned (.bool true) ∧ Below w.heap.size w w' := by
  have HS := Lib.hid HSORT
  clear HSORT
  go_enter Try.func8, Try.ntmps8
  go_wp2_with fail
  refine (base_any w).mono ?_
  rintro e w1 ⟨A1, A, rfl, hC, hR, hB⟩
  have hs := hB.size
  obtain ⟨g1, rfl⟩ : ∃ g1, A1 = ⟨g1, 0, none⟩ := by
    rcases hC.2 with ⟨h0, _⟩ | ⟨g', cap, cur, h0, _⟩
    · cases h0
    · injection h0 with e1
      injection e1 with e1
      exact ⟨g', e1⟩
  go_upto_region 2 with fail
  have hs_ := hB.size
  have hXp := Blok.new w1 25 #[.slice (some ⟨g1, 0, none⟩) 2 2, .slice (some A) 1 1, .int .i64 0, .int .i64 0]
  replace hC := hC.alloc (.cells #[.slice (some ⟨g1, 0, none⟩) 2 2, .slice (some A) 1 1, .int .i64 0, .int .i64 0] 25)
  replace hR := hR.alloc (.cells #[.slice (some ⟨g1, 0, none⟩) 2 2, .slice (some A) 1 1, .int .i64 0, .int .i64 0] 25)
  replace hB := hB.alloc hs (.cells #[.slice (some ⟨g1, 0, none⟩) 2 2, .slice (some A) 1 1, .int .i64 0, .int .i64 0] 25)
  replace hs := hB.size
  clear hs_
  obtain ⟨bw2, hbw2⟩ : ∃ q, w1.heap.size = q := ⟨_, rfl⟩
  rw [hbw2] at hXp
  try rw [hbw2]
  generalize w1.alloc (.cells #[.slice (some ⟨g1, 0, none⟩) 2 2, .slice (some A) 1 1, .int .i64 0, .int .i64 0] 25) = w2 at *
  go_upto_region 3 with fail
  have hs_ := hB.size
  have hL := own_lit w2 0 55 4 1 #[.int .i64 7, .int .i64 0, .int .i64 10, .int .i64 0] (by omega) rfl (by simp [maxLen])
  replace hC := hC.alloc (.cells #[.int .i64 7, .int .i64 0, .int .i64 10, .int .i64 0] 55)
  replace hR := hR.alloc (.cells #[.int .i64 7, .int .i64 0, .int .i64 10, .int .i64 0] 55)
  replace hXp := hXp.alloc (.cells #[.int .i64 7, .int .i64 0, .int .i64 10, .int .i64 0] 55)
  replace hB := hB.alloc hs (.cells #[.int .i64 7, .int .i64 0, .int .i64 10, .int .i64 0] 55)
  replace hs := hB.size
  clear hs_
  obtain ⟨bw3, hbw3⟩ : ∃ q, w2.heap.size = q := ⟨_, rfl⟩
  rw [hbw3] at hL
  try rw [hbw3]
  generalize w2.alloc (.cells #[.int .i64 7, .int .i64 0, .int .i64 10, .int .i64 0] 55) = w3 at *
  have p0 : w3.cell? ⟨bw2, 0, none⟩ = some (.slice (some ⟨g1, 0, none⟩) 2 2) := hXp.cell 0
  have p1 : w3.cell? ⟨bw2, 1, none⟩ = some (.slice (some A) 1 1) := hXp.cell 1
  have p2 : w3.cell? ⟨bw2, 2, none⟩ = some (.int .i64 0) := hXp.cell 2
  have p3 : w3.cell? ⟨bw2, 3, none⟩ = some (.int .i64 0) := hXp.cell 3
  have lt_p := hXp.lt
  go_wp2_with fail
  refine (vall_of HS.out (some ⟨g1, 0, none⟩) 2 2 baseC (some A) 1 1 baseR 0 0 (some ⟨bw3, 0, none⟩) 1 1 bkS 0 w3 rfl (by omega) rfl (by omega) rfl (by omega) (Sl.of_own hC) (Sl.of_own hR) (Sl.of_own hL) baseR_right bkS_right).mono ?_
  rintro e w4 ⟨va, m, rfl, hp, hso, hva, hb⟩
  rw [all_a] at hp
  have hm1 : m = [edA] := List.perm_singleton.1 hp
  subst hm1
  clear hp hso
  replace hva : w4.ownsRow 0 34 8 va 1 (flatEd [edA]) := own_base hva (Nat.zero_le _)
  clear p0 p1 p2 p3 lt_p
  replace hC := own_below hC hb
  replace hR := own_below hR hb
  replace hL := own_below hL hb
  replace hXp := hXp.below hb hXp.lt
  replace hB := hB.trans (hb.mono hs)
  replace hs := hB.size
  clear hb
  obtain ⟨Ava, cva, rfl⟩ := slice_of_own hva
  have p0 : w4.cell? ⟨bw2, 0, none⟩ = some (.slice (some ⟨g1, 0, none⟩) 2 2) := hXp.cell 0
  have p1 : w4.cell? ⟨bw2, 1, none⟩ = some (.slice (some A) 1 1) := hXp.cell 1
  have p2 : w4.cell? ⟨bw2, 2, none⟩ = some (.int .i64 0) := hXp.cell 2
  have p3 : w4.cell? ⟨bw2, 3, none⟩ = some (.int .i64 0) := hXp.cell 3
  have lt_p := hXp.lt
  go_wp2_with fail
  refine (vbare_of HS.out (some ⟨g1, 0, none⟩) 2 2 baseC (some A) 1 1 baseR 0 0 w4 rfl (by omega) rfl (by omega) (Sl.of_own hC) (Sl.of_own hR) baseR_right).mono ?_
  rintro e w5 ⟨vb, m, rfl, hp, hso, hvb, hb⟩
  rw [all_b] at hp
  have hm1 : m = [edF] := List.perm_singleton.1 hp
  subst hm1
  clear hp hso
  replace hvb : w5.ownsRow 0 34 8 vb 1 (flatEd [edF]) := own_base hvb (Nat.zero_le _)
  clear p0 p1 p2 p3 lt_p
  replace hC := own_below hC hb
  replace hR := own_below hR hb
  replace hL := own_below hL hb
  replace hva := own_below hva hb
  replace hXp := hXp.below hb hXp.lt
  replace hB := hB.trans (hb.mono hs)
  replace hs := hB.size
  clear hb
  obtain ⟨Avb, cvb, rfl⟩ := slice_of_own hvb
  have p0 : w5.cell? ⟨bw2, 0, none⟩ = some (.slice (some ⟨g1, 0, none⟩) 2 2) := hXp.cell 0
  have p1 : w5.cell? ⟨bw2, 1, none⟩ = some (.slice (some A) 1 1) := hXp.cell 1
  have p2 : w5.cell? ⟨bw2, 2, none⟩ = some (.int .i64 0) := hXp.cell 2
  have p3 : w5.cell? ⟨bw2, 3, none⟩ = some (.int .i64 0) := hXp.cell 3
  have lt_p := hXp.lt
  go_wp2_with fail
  refine (vall_of HS.out (some ⟨g1, 0, none⟩) 2 2 baseC (some A) 1 1 baseR 0 0 (some ⟨bw3, 0, none⟩) 1 1 bkS 2 w5 rfl (by omega) rfl (by omega) rfl (by omega) (Sl.of_own hC) (Sl.of_own hR) (Sl.of_own hL) baseR_right bkS_right).mono ?_
  rintro e w6 ⟨vc, m, rfl, hp, hso, hvc, hb⟩
  rw [all_c] at hp
  have hm1 : m = [edF] := List.perm_singleton.1 hp
  subst hm1
  clear hp hso
  replace hvc : w6.ownsRow 0 34 8 vc 1 (flatEd [edF]) := own_base hvc (Nat.zero_le _)
  clear p0 p1 p2 p3 lt_p
  replace hC := own_below hC hb
  replace hR := own_below hR hb
  replace hL := own_below hL hb
  replace hva := own_below hva hb
  replace hvb := own_below hvb hb
  replace hXp := hXp.below hb hXp.lt
  replace hB := hB.trans (hb.mono hs)
  replace hs := hB.size
  clear hb
  obtain ⟨Avc, cvc, rfl⟩ := slice_of_own hvc
  go_upto_region 7 with fail
  have hs_ := hB.size
  have hXe := Blok.new w6 34 #[.int .i64 7, .int .i64 1, .int .i64 2, .int .i64 14, .int .i64 20, .int .i64 3, .int .i64 4, .int .i64 20]
  replace hC := hC.alloc (.cells #[.int .i64 7, .int .i64 1, .int .i64 2, .int .i64 14, .int .i64 20, .int .i64 3, .int .i64 4, .int .i64 20] 34)
  replace hR := hR.alloc (.cells #[.int .i64 7, .int .i64 1, .int .i64 2, .int .i64 14, .int .i64 20, .int .i64 3, .int .i64 4, .int .i64 20] 34)
  replace hL := hL.alloc (.cells #[.int .i64 7, .int .i64 1, .int .i64 2, .int .i64 14, .int .i64 20, .int .i64 3, .int .i64 4, .int .i64 20] 34)
  replace hva := hva.alloc (.cells #[.int .i64 7, .int .i64 1, .int .i64 2, .int .i64 14, .int .i64 20, .int .i64 3, .int .i64 4, .int .i64 20] 34)
  replace hvb := hvb.alloc (.cells #[.int .i64 7, .int .i64 1, .int .i64 2, .int .i64 14, .int .i64 20, .int .i64 3, .int .i64 4, .int .i64 20] 34)
  replace hvc := hvc.alloc (.cells #[.int .i64 7, .int .i64 1, .int .i64 2, .int .i64 14, .int .i64 20, .int .i64 3, .int .i64 4, .int .i64 20] 34)
  replace hXp := hXp.alloc (.cells #[.int .i64 7, .int .i64 1, .int .i64 2, .int .i64 14, .int .i64 20, .int .i64 3, .int .i64 4, .int .i64 20] 34)
  replace hB := hB.alloc hs (.cells #[.int .i64 7, .int .i64 1, .int .i64 2, .int .i64 14, .int .i64 20, .int .i64 3, .int .i64 4, .int .i64 20] 34)
  replace hs := hB.size
  clear hs_
  obtain ⟨bw7, hbw7⟩ : ∃ q, w6.heap.size = q := ⟨_, rfl⟩
  rw [hbw7] at hXe
  try rw [hbw7]
  generalize w6.alloc (.cells #[.int .i64 7, .int .i64 1, .int .i64 2, .int .i64 14, .int .i64 20, .int .i64 3, .int .i64 4, .int .i64 20] 34) = w7 at *
  go_upto_region 8 with fail
  have hs_ := hB.size
  have hXf := Blok.new w7 34 #[.int .i64 7, .int .i64 1, .int .i64 2, .int .i64 10, .int .i64 20, .int .i64 3, .int .i64 4, .int .i64 30]
  replace hC := hC.alloc (.cells #[.int .i64 7, .int .i64 1, .int .i64 2, .int .i64 10, .int .i64 20, .int .i64 3, .int .i64 4, .int .i64 30] 34)
  replace hR := hR.alloc (.cells #[.int .i64 7, .int .i64 1, .int .i64 2, .int .i64 10, .int .i64 20, .int .i64 3, .int .i64 4, .int .i64 30] 34)
  replace hL := hL.alloc (.cells #[.int .i64 7, .int .i64 1, .int .i64 2, .int .i64 10, .int .i64 20, .int .i64 3, .int .i64 4, .int .i64 30] 34)
  replace hva := hva.alloc (.cells #[.int .i64 7, .int .i64 1, .int .i64 2, .int .i64 10, .int .i64 20, .int .i64 3, .int .i64 4, .int .i64 30] 34)
  replace hvb := hvb.alloc (.cells #[.int .i64 7, .int .i64 1, .int .i64 2, .int .i64 10, .int .i64 20, .int .i64 3, .int .i64 4, .int .i64 30] 34)
  replace hvc := hvc.alloc (.cells #[.int .i64 7, .int .i64 1, .int .i64 2, .int .i64 10, .int .i64 20, .int .i64 3, .int .i64 4, .int .i64 30] 34)
  replace hXp := hXp.alloc (.cells #[.int .i64 7, .int .i64 1, .int .i64 2, .int .i64 10, .int .i64 20, .int .i64 3, .int .i64 4, .int .i64 30] 34)
  replace hXe := hXe.alloc (.cells #[.int .i64 7, .int .i64 1, .int .i64 2, .int .i64 10, .int .i64 20, .int .i64 3, .int .i64 4, .int .i64 30] 34)
  replace hB := hB.alloc hs (.cells #[.int .i64 7, .int .i64 1, .int .i64 2, .int .i64 10, .int .i64 20, .int .i64 3, .int .i64 4, .int .i64 30] 34)
  replace hs := hB.size
  clear hs_
  obtain ⟨bw8, hbw8⟩ : ∃ q, w7.heap.size = q := ⟨_, rfl⟩
  rw [hbw8] at hXf
  try rw [hbw8]
  generalize w7.alloc (.cells #[.int .i64 7, .int .i64 1, .int .i64 2, .int .i64 10, .int .i64 20, .int .i64 3, .int .i64 4, .int .i64 30] 34) = w8 at *
  go_wp2_with fail
  refine (vfind_any Avb 1 cvb [edF] 7 w8 rfl (by omega) (Sl.of_own hvb) edF true (by decide +kernel) (by decide +kernel)).mono ?_
  rintro e w9 ⟨rfl, hb⟩
  replace hC := own_below hC hb
  replace hR := own_below hR hb
  replace hL := own_below hL hb
  replace hva := own_below hva hb
  replace hvb := own_below hvb hb
  replace hvc := own_below hvc hb
  replace hXp := hXp.below hb hXp.lt
  replace hXe := hXe.below hb hXe.lt
  replace hXf := hXf.below hb hXf.lt
  replace hB := hB.trans (hb.mono hs)
  replace hs := hB.size
  clear hb
  go_upto_region 9 with fail
  have hs_ := hB.size
  have hXg := Blok.new w9 34 #[.int .i64 edF.id, .int .i64 edF.fr, .int .i64 edF.tn, .int .i64 edF.op, .int .i64 edF.en, .int .i64 edF.ra, .int .i64 edF.ow, .int .i64 edF.ro]
  replace hC := hC.alloc (.cells #[.int .i64 edF.id, .int .i64 edF.fr, .int .i64 edF.tn, .int .i64 edF.op, .int .i64 edF.en, .int .i64 edF.ra, .int .i64 edF.ow, .int .i64 edF.ro] 34)
  replace hR := hR.alloc (.cells #[.int .i64 edF.id, .int .i64 edF.fr, .int .i64 edF.tn, .int .i64 edF.op, .int .i64 edF.en, .int .i64 edF.ra, .int .i64 edF.ow, .int .i64 edF.ro] 34)
  replace hL := hL.alloc (.cells #[.int .i64 edF.id, .int .i64 edF.fr, .int .i64 edF.tn, .int .i64 edF.op, .int .i64 edF.en, .int .i64 edF.ra, .int .i64 edF.ow, .int .i64 edF.ro] 34)
  replace hva := hva.alloc (.cells #[.int .i64 edF.id, .int .i64 edF.fr, .int .i64 edF.tn, .int .i64 edF.op, .int .i64 edF.en, .int .i64 edF.ra, .int .i64 edF.ow, .int .i64 edF.ro] 34)
  replace hvb := hvb.alloc (.cells #[.int .i64 edF.id, .int .i64 edF.fr, .int .i64 edF.tn, .int .i64 edF.op, .int .i64 edF.en, .int .i64 edF.ra, .int .i64 edF.ow, .int .i64 edF.ro] 34)
  replace hvc := hvc.alloc (.cells #[.int .i64 edF.id, .int .i64 edF.fr, .int .i64 edF.tn, .int .i64 edF.op, .int .i64 edF.en, .int .i64 edF.ra, .int .i64 edF.ow, .int .i64 edF.ro] 34)
  replace hXp := hXp.alloc (.cells #[.int .i64 edF.id, .int .i64 edF.fr, .int .i64 edF.tn, .int .i64 edF.op, .int .i64 edF.en, .int .i64 edF.ra, .int .i64 edF.ow, .int .i64 edF.ro] 34)
  replace hXe := hXe.alloc (.cells #[.int .i64 edF.id, .int .i64 edF.fr, .int .i64 edF.tn, .int .i64 edF.op, .int .i64 edF.en, .int .i64 edF.ra, .int .i64 edF.ow, .int .i64 edF.ro] 34)
  replace hXf := hXf.alloc (.cells #[.int .i64 edF.id, .int .i64 edF.fr, .int .i64 edF.tn, .int .i64 edF.op, .int .i64 edF.en, .int .i64 edF.ra, .int .i64 edF.ow, .int .i64 edF.ro] 34)
  replace hB := hB.alloc hs (.cells #[.int .i64 edF.id, .int .i64 edF.fr, .int .i64 edF.tn, .int .i64 edF.op, .int .i64 edF.en, .int .i64 edF.ra, .int .i64 edF.ow, .int .i64 edF.ro] 34)
  replace hs := hB.size
  clear hs_
  obtain ⟨bw10, hbw10⟩ : ∃ q, w9.heap.size = q := ⟨_, rfl⟩
  rw [hbw10] at hXg
  try rw [hbw10]
  generalize w9.alloc (.cells #[.int .i64 edF.id, .int .i64 edF.fr, .int .i64 edF.tn, .int .i64 edF.op, .int .i64 edF.en, .int .i64 edF.ra, .int .i64 edF.ow, .int .i64 edF.ro] 34) = w10 at *
  go_wp2_with fail
  refine (vfind_any Avb 1 cvb [edF] 5 w10 rfl (by omega) (Sl.of_own hvb) zeroEd false (by decide +kernel) (by decide +kernel)).mono ?_
  rintro e w11 ⟨rfl, hb⟩
  replace hC := own_below hC hb
  replace hR := own_below hR hb
  replace hL := own_below hL hb
  replace hva := own_below hva hb
  replace hvb := own_below hvb hb
  replace hvc := own_below hvc hb
  replace hXp := hXp.below hb hXp.lt
  replace hXe := hXe.below hb hXe.lt
  replace hXf := hXf.below hb hXf.lt
  replace hXg := hXg.below hb hXg.lt
  replace hB := hB.trans (hb.mono hs)
  replace hs := hB.size
  clear hb
  go_upto_region 10 with fail
  have hs_ := hB.size
  have hXn := Blok.new w11 34 #[.int .i64 zeroEd.id, .int .i64 zeroEd.fr, .int .i64 zeroEd.tn, .int .i64 zeroEd.op, .int .i64 zeroEd.en, .int .i64 zeroEd.ra, .int .i64 zeroEd.ow, .int .i64 zeroEd.ro]
  replace hC := hC.alloc (.cells #[.int .i64 zeroEd.id, .int .i64 zeroEd.fr, .int .i64 zeroEd.tn, .int .i64 zeroEd.op, .int .i64 zeroEd.en, .int .i64 zeroEd.ra, .int .i64 zeroEd.ow, .int .i64 zeroEd.ro] 34)
  replace hR := hR.alloc (.cells #[.int .i64 zeroEd.id, .int .i64 zeroEd.fr, .int .i64 zeroEd.tn, .int .i64 zeroEd.op, .int .i64 zeroEd.en, .int .i64 zeroEd.ra, .int .i64 zeroEd.ow, .int .i64 zeroEd.ro] 34)
  replace hL := hL.alloc (.cells #[.int .i64 zeroEd.id, .int .i64 zeroEd.fr, .int .i64 zeroEd.tn, .int .i64 zeroEd.op, .int .i64 zeroEd.en, .int .i64 zeroEd.ra, .int .i64 zeroEd.ow, .int .i64 zeroEd.ro] 34)
  replace hva := hva.alloc (.cells #[.int .i64 zeroEd.id, .int .i64 zeroEd.fr, .int .i64 zeroEd.tn, .int .i64 zeroEd.op, .int .i64 zeroEd.en, .int .i64 zeroEd.ra, .int .i64 zeroEd.ow, .int .i64 zeroEd.ro] 34)
  replace hvb := hvb.alloc (.cells #[.int .i64 zeroEd.id, .int .i64 zeroEd.fr, .int .i64 zeroEd.tn, .int .i64 zeroEd.op, .int .i64 zeroEd.en, .int .i64 zeroEd.ra, .int .i64 zeroEd.ow, .int .i64 zeroEd.ro] 34)
  replace hvc := hvc.alloc (.cells #[.int .i64 zeroEd.id, .int .i64 zeroEd.fr, .int .i64 zeroEd.tn, .int .i64 zeroEd.op, .int .i64 zeroEd.en, .int .i64 zeroEd.ra, .int .i64 zeroEd.ow, .int .i64 zeroEd.ro] 34)
  replace hXp := hXp.alloc (.cells #[.int .i64 zeroEd.id, .int .i64 zeroEd.fr, .int .i64 zeroEd.tn, .int .i64 zeroEd.op, .int .i64 zeroEd.en, .int .i64 zeroEd.ra, .int .i64 zeroEd.ow, .int .i64 zeroEd.ro] 34)
  replace hXe := hXe.alloc (.cells #[.int .i64 zeroEd.id, .int .i64 zeroEd.fr, .int .i64 zeroEd.tn, .int .i64 zeroEd.op, .int .i64 zeroEd.en, .int .i64 zeroEd.ra, .int .i64 zeroEd.ow, .int .i64 zeroEd.ro] 34)
  replace hXf := hXf.alloc (.cells #[.int .i64 zeroEd.id, .int .i64 zeroEd.fr, .int .i64 zeroEd.tn, .int .i64 zeroEd.op, .int .i64 zeroEd.en, .int .i64 zeroEd.ra, .int .i64 zeroEd.ow, .int .i64 zeroEd.ro] 34)
  replace hXg := hXg.alloc (.cells #[.int .i64 zeroEd.id, .int .i64 zeroEd.fr, .int .i64 zeroEd.tn, .int .i64 zeroEd.op, .int .i64 zeroEd.en, .int .i64 zeroEd.ra, .int .i64 zeroEd.ow, .int .i64 zeroEd.ro] 34)
  replace hB := hB.alloc hs (.cells #[.int .i64 zeroEd.id, .int .i64 zeroEd.fr, .int .i64 zeroEd.tn, .int .i64 zeroEd.op, .int .i64 zeroEd.en, .int .i64 zeroEd.ra, .int .i64 zeroEd.ow, .int .i64 zeroEd.ro] 34)
  replace hs := hB.size
  clear hs_
  obtain ⟨bw12, hbw12⟩ : ∃ q, w11.heap.size = q := ⟨_, rfl⟩
  rw [hbw12] at hXn
  try rw [hbw12]
  generalize w11.alloc (.cells #[.int .i64 zeroEd.id, .int .i64 zeroEd.fr, .int .i64 zeroEd.tn, .int .i64 zeroEd.op, .int .i64 zeroEd.en, .int .i64 zeroEd.ra, .int .i64 zeroEd.ow, .int .i64 zeroEd.ro] 34) = w12 at *
  have p0 : w12.cell? ⟨bw2, 0, none⟩ = some (.slice (some ⟨g1, 0, none⟩) 2 2) := hXp.cell 0
  have p1 : w12.cell? ⟨bw2, 1, none⟩ = some (.slice (some A) 1 1) := hXp.cell 1
  have p2 : w12.cell? ⟨bw2, 2, none⟩ = some (.int .i64 0) := hXp.cell 2
  have p3 : w12.cell? ⟨bw2, 3, none⟩ = some (.int .i64 0) := hXp.cell 3
  have lt_p := hXp.lt
  have c0 : w12.cell? ⟨g1, 6, none⟩ = some (.int .i64 5) := by rw [hC.cellAt 6 (by decide)]; rfl
  have c1 : w12.cell? ⟨g1, 7, none⟩ = some (.int .i64 2) := by rw [hC.cellAt 7 (by decide)]; rfl
  have c2 : w12.cell? ⟨g1, 8, none⟩ = some (.int .i64 1) := by rw [hC.cellAt 8 (by decide)]; rfl
  have c3 : w12.cell? ⟨g1, 9, none⟩ = some (.int .i64 10) := by rw [hC.cellAt 9 (by decide)]; rfl
  have c4 : w12.cell? ⟨g1, 10, none⟩ = some (.int .i64 20) := by rw [hC.cellAt 10 (by decide)]; rfl
  have c5 : w12.cell? ⟨g1, 11, none⟩ = some (.int .i64 3) := by rw [hC.cellAt 11 (by decide)]; rfl
  have HEG := Lib.hid (fun (w' : World) (hb : Below w12.heap.size w12 w') => edge_any (some ⟨g1, 0, none⟩) 2 2 (some A) 1 1 baseR 0 0 (some ⟨bw3, 0, none⟩) 1 1 bkS ⟨5, 2, 1, 10, 20, 3⟩ 0 w' rfl (by omega) rfl (by omega) (Sl.of_own (own_below hR hb)) (Sl.of_own (own_below hL hb)) baseR_right bkS_right none edge_no zeroEd rfl)
  go_wp2_with fail
  try simp only [List.append]
  refine wp_region_newvar (m := 10) (s := 11) (dm := 12) (dv := 46) (T := 34) (zs := #[.int .i64 0, .int .i64 0, .int .i64 0, .int .i64 0, .int .i64 0, .int .i64 0, .int .i64 0, .int .i64 0]) (cs := #[.int .i64 zeroEd.id, .int .i64 zeroEd.fr, .int .i64 zeroEd.tn, .int .i64 zeroEd.op, .int .i64 zeroEd.en, .int .i64 zeroEd.ra, .int .i64 zeroEd.ow, .int .i64 zeroEd.ro]) [0, 1, 2, 3, 4, 5, 6, 7, 8, 9, 12] (by kernel_rfl) (NewVar.of rfl rfl rfl (by kernel_rfl)) (by kernel_rfl) rfl (fun a w => by simp [execOp, go_sem]) rfl (by kernel_rfl) (by kernel_rfl) ?_
  apply Exists.intro
  refine ⟨?_, ?_, ?_, ?_, ?_⟩
  · intro wb hwb
    have q_p0 := cell_up p0 hwb
    have q_p1 := cell_up p1 hwb
    have q_p2 := cell_up p2 hwb
    have q_p3 := cell_up p3 hwb
    have q_c0 := cell_up c0 hwb
    have q_c1 := cell_up c1 hwb
    have q_c2 := cell_up c2 hwb
    have q_c3 := cell_up c3 hwb
    have q_c4 := cell_up c4 hwb
    have q_c5 := cell_up c5 hwb
    simp only [pickL, List.flatMap_cons, List.flatMap_nil, List.drop_succ_cons, List.drop_zero, List.take_succ_cons, List.take_zero, List.append_nil, List.cons_append, List.nil_append]
    repeat (go_big_quiet_step (((go_at_call 12; with_reducible exact Calls.regrown_of (HEG.out _ (up_below hwb _ _))))))
    exact wpQuiet_nil rfl
  · rfl
  · simp
  · rfl
  intro bX wX hX
  go_simp
  obtain ⟨_, _, hb⟩ := hX
  clear p0 p1 p2 p3 lt_p
  clear c0 c1 c2 c3 c4 c5 HEG
  replace hva := own_below hva hb
  replace hvb := own_below hvb hb
  replace hvc := own_below hvc hb
  replace hXe := hXe.below hb hXe.lt
  replace hXf := hXf.below hb hXf.lt
  replace hXg := hXg.below hb hXg.lt
  replace hB := hB.trans (hb.mono hs)
  replace hs := hB.size
  clear hb
  clear hXn hXp hC hR hL
  have e0 : wX.cell? ⟨bw7, 0, none⟩ = some (.int .i64 7) := hXe.cell 0
  have e1 : wX.cell? ⟨bw7, 1, none⟩ = some (.int .i64 1) := hXe.cell 1
  have e2 : wX.cell? ⟨bw7, 2, none⟩ = some (.int .i64 2) := hXe.cell 2
  have e3 : wX.cell? ⟨bw7, 3, none⟩ = some (.int .i64 14) := hXe.cell 3
  have e4 : wX.cell? ⟨bw7, 4, none⟩ = some (.int .i64 20) := hXe.cell 4
  have e5 : wX.cell? ⟨bw7, 5, none⟩ = some (.int .i64 3) := hXe.cell 5
  have e6 : wX.cell? ⟨bw7, 6, none⟩ = some (.int .i64 4) := hXe.cell 6
  have e7 : wX.cell? ⟨bw7, 7, none⟩ = some (.int .i64 20) := hXe.cell 7
  have lt_e := hXe.lt
  go_wp2_with fail
  clear e0 e1 e2 e3 e4 e5 e6 e7 lt_e
  have hs_ := hB.size
  have hs1 := own_lit wX 0 34 8 1 #[.int .i64 7, .int .i64 1, .int .i64 2, .int .i64 14, .int .i64 20, .int .i64 3, .int .i64 4, .int .i64 20] (by omega) rfl (by simp [maxLen])
  replace hva := hva.alloc (.cells #[.int .i64 7, .int .i64 1, .int .i64 2, .int .i64 14, .int .i64 20, .int .i64 3, .int .i64 4, .int .i64 20] 34)
  replace hvb := hvb.alloc (.cells #[.int .i64 7, .int .i64 1, .int .i64 2, .int .i64 14, .int .i64 20, .int .i64 3, .int .i64 4, .int .i64 20] 34)
  replace hvc := hvc.alloc (.cells #[.int .i64 7, .int .i64 1, .int .i64 2, .int .i64 14, .int .i64 20, .int .i64 3, .int .i64 4, .int .i64 20] 34)
  replace hXe := hXe.alloc (.cells #[.int .i64 7, .int .i64 1, .int .i64 2, .int .i64 14, .int .i64 20, .int .i64 3, .int .i64 4, .int .i64 20] 34)
  replace hXf := hXf.alloc (.cells #[.int .i64 7, .int .i64 1, .int .i64 2, .int .i64 14, .int .i64 20, .int .i64 3, .int .i64 4, .int .i64 20] 34)
  replace hXg := hXg.alloc (.cells #[.int .i64 7, .int .i64 1, .int .i64 2, .int .i64 14, .int .i64 20, .int .i64 3, .int .i64 4, .int .i64 20] 34)
  replace hB := hB.alloc hs (.cells #[.int .i64 7, .int .i64 1, .int .i64 2, .int .i64 14, .int .i64 20, .int .i64 3, .int .i64 4, .int .i64 20] 34)
  replace hs := hB.size
  clear hs_
  obtain ⟨bw15, hbw15⟩ : ∃ q, wX.heap.size = q := ⟨_, rfl⟩
  rw [hbw15] at hs1
  try rw [hbw15]
  generalize wX.alloc (.cells #[.int .i64 7, .int .i64 1, .int .i64 2, .int .i64 14, .int .i64 20, .int .i64 3, .int .i64 4, .int .i64 20] 34) = w15 at *
  refine (vsame_any Ava (some ⟨bw15, 0, none⟩) 1 cva 1 1 [edA] [edA] w15 rfl rfl (by omega) (by omega) (Sl.of_own hva) (Sl.of_own hs1) true (by decide +kernel)).mono ?_
  rintro e w16 ⟨rfl, hb⟩
  replace hva := own_below hva hb
  replace hvb := own_below hvb hb
  replace hvc := own_below hvc hb
  replace hs1 := own_below hs1 hb
  replace hXe := hXe.below hb hXe.lt
  replace hXf := hXf.below hb hXf.lt
  replace hXg := hXg.below hb hXg.lt
  replace hB := hB.trans (hb.mono hs)
  replace hs := hB.size
  clear hb
  clear hs1
  have f0 : w16.cell? ⟨bw8, 0, none⟩ = some (.int .i64 7) := hXf.cell 0
  have f1 : w16.cell? ⟨bw8, 1, none⟩ = some (.int .i64 1) := hXf.cell 1
  have f2 : w16.cell? ⟨bw8, 2, none⟩ = some (.int .i64 2) := hXf.cell 2
  have f3 : w16.cell? ⟨bw8, 3, none⟩ = some (.int .i64 10) := hXf.cell 3
  have f4 : w16.cell? ⟨bw8, 4, none⟩ = some (.int .i64 20) := hXf.cell 4
  have f5 : w16.cell? ⟨bw8, 5, none⟩ = some (.int .i64 3) := hXf.cell 5
  have f6 : w16.cell? ⟨bw8, 6, none⟩ = some (.int .i64 4) := hXf.cell 6
  have f7 : w16.cell? ⟨bw8, 7, none⟩ = some (.int .i64 30) := hXf.cell 7
  have lt_f := hXf.lt
  go_wp2_with fail
  clear f0 f1 f2 f3 f4 f5 f6 f7 lt_f
  have hs_ := hB.size
  have hs2 := own_lit w16 0 34 8 1 #[.int .i64 7, .int .i64 1, .int .i64 2, .int .i64 10, .int .i64 20, .int .i64 3, .int .i64 4, .int .i64 30] (by omega) rfl (by simp [maxLen])
  replace hva := hva.alloc (.cells #[.int .i64 7, .int .i64 1, .int .i64 2, .int .i64 10, .int .i64 20, .int .i64 3, .int .i64 4, .int .i64 30] 34)
  replace hvb := hvb.alloc (.cells #[.int .i64 7, .int .i64 1, .int .i64 2, .int .i64 10, .int .i64 20, .int .i64 3, .int .i64 4, .int .i64 30] 34)
  replace hvc := hvc.alloc (.cells #[.int .i64 7, .int .i64 1, .int .i64 2, .int .i64 10, .int .i64 20, .int .i64 3, .int .i64 4, .int .i64 30] 34)
  replace hXe := hXe.alloc (.cells #[.int .i64 7, .int .i64 1, .int .i64 2, .int .i64 10, .int .i64 20, .int .i64 3, .int .i64 4, .int .i64 30] 34)
  replace hXf := hXf.alloc (.cells #[.int .i64 7, .int .i64 1, .int .i64 2, .int .i64 10, .int .i64 20, .int .i64 3, .int .i64 4, .int .i64 30] 34)
  replace hXg := hXg.alloc (.cells #[.int .i64 7, .int .i64 1, .int .i64 2, .int .i64 10, .int .i64 20, .int .i64 3, .int .i64 4, .int .i64 30] 34)
  replace hB := hB.alloc hs (.cells #[.int .i64 7, .int .i64 1, .int .i64 2, .int .i64 10, .int .i64 20, .int .i64 3, .int .i64 4, .int .i64 30] 34)
  replace hs := hB.size
  clear hs_
  obtain ⟨bw17, hbw17⟩ : ∃ q, w16.heap.size = q := ⟨_, rfl⟩
  rw [hbw17] at hs2
  try rw [hbw17]
  generalize w16.alloc (.cells #[.int .i64 7, .int .i64 1, .int .i64 2, .int .i64 10, .int .i64 20, .int .i64 3, .int .i64 4, .int .i64 30] 34) = w17 at *
  refine (vsame_any Avb (some ⟨bw17, 0, none⟩) 1 cvb 1 1 [edF] [edF] w17 rfl rfl (by omega) (by omega) (Sl.of_own hvb) (Sl.of_own hs2) true (by decide +kernel)).mono ?_
  rintro e w18 ⟨rfl, hb⟩
  replace hva := own_below hva hb
  replace hvb := own_below hvb hb
  replace hvc := own_below hvc hb
  replace hs2 := own_below hs2 hb
  replace hXe := hXe.below hb hXe.lt
  replace hXf := hXf.below hb hXf.lt
  replace hXg := hXg.below hb hXg.lt
  replace hB := hB.trans (hb.mono hs)
  replace hs := hB.size
  clear hb
  clear hs2
  go_wp2_with fail
  refine (vsame_any Avc Avb 1 cvc 1 cvb [edF] [edF] w18 rfl rfl (by omega) (by omega) (Sl.of_own hvc) (Sl.of_own hvb) true (by decide +kernel)).mono ?_
  rintro e w19 ⟨rfl, hb⟩
  replace hva := own_below hva hb
  replace hvb := own_below hvb hb
  replace hvc := own_below hvc hb
  replace hXe := hXe.below hb hXe.lt
  replace hXf := hXf.below hb hXf.lt
  replace hXg := hXg.below hb hXg.lt
  replace hB := hB.trans (hb.mono hs)
  replace hs := hB.size
  clear hb
  have f0 : w19.cell? ⟨bw8, 0, none⟩ = some (.int .i64 7) := hXf.cell 0
  have f1 : w19.cell? ⟨bw8, 1, none⟩ = some (.int .i64 1) := hXf.cell 1
  have f2 : w19.cell? ⟨bw8, 2, none⟩ = some (.int .i64 2) := hXf.cell 2
  have f3 : w19.cell? ⟨bw8, 3, none⟩ = some (.int .i64 10) := hXf.cell 3
  have f4 : w19.cell? ⟨bw8, 4, none⟩ = some (.int .i64 20) := hXf.cell 4
  have f5 : w19.cell? ⟨bw8, 5, none⟩ = some (.int .i64 3) := hXf.cell 5
  have f6 : w19.cell? ⟨bw8, 6, none⟩ = some (.int .i64 4) := hXf.cell 6
  have f7 : w19.cell? ⟨bw8, 7, none⟩ = some (.int .i64 30) := hXf.cell 7
  have lt_f := hXf.lt
  have g0 : w19.cell? ⟨bw10, 0, none⟩ = some (.int .i64 7) := hXg.cell 0
  have g1 : w19.cell? ⟨bw10, 1, none⟩ = some (.int .i64 1) := hXg.cell 1
  have g2 : w19.cell? ⟨bw10, 2, none⟩ = some (.int .i64 2) := hXg.cell 2
  have g3 : w19.cell? ⟨bw10, 3, none⟩ = some (.int .i64 10) := hXg.cell 3
  have g4 : w19.cell? ⟨bw10, 4, none⟩ = some (.int .i64 20) := hXg.cell 4
  have g5 : w19.cell? ⟨bw10, 5, none⟩ = some (.int .i64 3) := hXg.cell 5
  have g6 : w19.cell? ⟨bw10, 6, none⟩ = some (.int .i64 4) := hXg.cell 6
  have g7 : w19.cell? ⟨bw10, 7, none⟩ = some (.int .i64 30) := hXg.cell 7
  have lt_g := hXg.lt
  go_wp2_with fail
  clear f0 f1 f2 f3 f4 f5 f6 f7 lt_f
  clear g0 g1 g2 g3 g4 g5 g6 g7 lt_g
  refine (vfrom_any Avb 1 cvb [edF] 1 w19 rfl (by omega) (Sl.of_own hvb) [edF] (by decide +kernel)).mono ?_
  rintro e w20 ⟨vf, rfl, hvf, hb⟩
  replace hva := own_below hva hb
  replace hvb := own_below hvb hb
  replace hvc := own_below hvc hb
  replace hXe := hXe.below hb hXe.lt
  replace hXf := hXf.below hb hXf.lt
  replace hXg := hXg.below hb hXg.lt
  replace hB := hB.trans (hb.mono hs)
  replace hs := hB.size
  clear hb
  replace hvf : w20.ownsRow _ 34 8 vf 1 (flatEd [edF]) := hvf
  obtain ⟨Avf, cvf, rfl⟩ := slice_of_own hvf
  clear hvf
  go_wp2_with fail
  refine (vfrom_any Avb 1 cvb [edF] 2 w20 rfl (by omega) (Sl.of_own hvb) [] (by decide +kernel)).mono ?_
  rintro e w21 ⟨vg, rfl, hvg, hb⟩
  replace hva := own_below hva hb
  replace hvb := own_below hvb hb
  replace hvc := own_below hvc hb
  replace hXe := hXe.below hb hXe.lt
  replace hXf := hXf.below hb hXf.lt
  replace hXg := hXg.below hb hXg.lt
  replace hB := hB.trans (hb.mono hs)
  replace hs := hB.size
  clear hb
  replace hvg : w21.ownsRow _ 34 8 vg 0 (flatEd []) := hvg
  obtain ⟨Avg, cvg, rfl⟩ := slice_of_own hvg
  clear hvg
  go_wp2_with fail
  refine (vsame_any Ava Avb 1 cva 1 cvb [edA] [edF] w21 rfl rfl (by omega) (by omega) (Sl.of_own hva) (Sl.of_own hvb) false (by decide +kernel)).mono ?_
  rintro e w22 ⟨rfl, hb⟩
  replace hva := own_below hva hb
  replace hvb := own_below hvb hb
  replace hvc := own_below hvc hb
  replace hXe := hXe.below hb hXe.lt
  replace hXf := hXf.below hb hXf.lt
  replace hXg := hXg.below hb hXg.lt
  replace hB := hB.trans (hb.mono hs)
  replace hs := hB.size
  clear hb
  go_wp2_with fail
  go_ret
  exact ⟨rfl, hB⟩
end Go.Proofs.Ytfdphpmcgidmiaa
