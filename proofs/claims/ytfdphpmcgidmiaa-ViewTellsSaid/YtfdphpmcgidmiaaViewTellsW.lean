/- Edges of contacts, and what is found of them, are the document's: ViewTells returns true. No condition. -/
import Derived.Test.YtfdphpmcgidmiaaW15
import Derived.Test.YtfdphpmcgidmiaaRows
import Derived.Test.YtfdphpmcgidmiaaOpenP
namespace Go.Proofs.Ytfdphpmcgidmiaa
open Go.ChangeShapes Go.WideShapes Go.ChangeAt Go.RowKit Go.Sort
set_option linter.unusedSimpArgs false
set_option linter.unusedVariables false
theorem small11 (w : World) : Calls Try.prog 8 #[] w fun e w' => e = .returned (.bool true) ∧ Below w.heap.size w w' := small11_of sortEd_any w
/-- The value is a row of these edges. -/
def EL (w : World) (v : Value) (M : List Ed) : Prop := ∃ A k c, v = .slice A k c ∧ M.length = k ∧ Sl w w.heap.size 8 A k c (flatEd M)
theorem EL.below {w w' : World} {v : Value} {M : List Ed} (h : EL w v M) (hb : Below w.heap.size w w') : EL w' v M := by
  obtain ⟨A, k, c, e, hk, hs⟩ := h
  exact ⟨A, k, c, e, hk, hs.up hb⟩
theorem EL.of_own {w : World} {base : Nat} {v : Value} {M : List Ed} (h : w.ownsRow base 34 8 v M.length (flatEd M)) : EL w v M := by
  obtain ⟨A, c, rfl⟩ := slice_of_own h
  exact ⟨A, _, c, rfl, rfl, Sl.of_own h⟩
theorem rsameV {w : World} {u v : Value} {M M' : List Ed} (hu : EL w u M) (hv : EL w v M') (hM : M.length ≤ 1000000) (r : Bool) (hr : decide (M = M') = r) : Calls Try.prog 17 #[u, v] w fun e w' => e = .returned (.bool r) ∧ Below w.heap.size w w' := by
  obtain ⟨A, k, c, rfl, hk, hs⟩ := hu
  obtain ⟨A', k', c', rfl, hk', hs'⟩ := hv
  subst hr
  exact rsame11_any A A' k c k' c' M M' w hk hk' (by omega) hs hs'
theorem vsameV {w : World} {u v : Value} {M M' : List Ed} (hu : EL w u M) (hv : EL w v M') (hM : M.length ≤ 1000000) (hM' : M'.length ≤ 1000000) (r : Bool) (hr : decide (M = M') = r) : Calls Try.prog 23 #[u, v] w fun e w' => e = .returned (.bool r) ∧ Below w.heap.size w w' := by
  obtain ⟨A, k, c, rfl, hk, hs⟩ := hu
  obtain ⟨A', k', c', rfl, hk', hs'⟩ := hv
  exact vsame_any A A' k c k' c' M M' w hk hk' (by omega) (by omega) hs hs' r hr
/-- The bare edges, sorted. -/
def bareE (rs : List Rg) (cs : List Co) : List Ed := (allL rs [] 0 cs).mergeSort (fun a b => decide (a.id ≤ b.id))
theorem bareE_all {rs : List Rg} {cs : List Co} (hr : Kc.rightC cs = true) : AllE rs [] 0 cs (bareE rs cs) := by
  refine allE_of hr (List.mergeSort_perm _ _) (pair_at ?_)
  have := List.pairwise_mergeSort (le := fun (a b : Ed) => decide (a.id ≤ b.id)) (fun a b c h1 h2 => by simp at *; omega) (fun a b => by simp; omega) (allL rs [] 0 cs)
  exact this.imp (fun h => by simpa using h)
set_option maxHeartbeats 32000000 in
set_option maxRecDepth 100000 in
theorem viewTells_w (A1 : Option Addr) (n1 c1 : Nat) (cs : List Co) (A : Option Addr) (n c : Nat) (rs : List Rg) (clk ver : Int) (A2 : Option Addr) (n2 c2 : Nat) (bk : List Bk) (cl : Int) (x : Co) (A3 : Option Addr) (n3 c3_ : Nat) (ms : List Ed) (q : Int) (hd1 : cs.length = n1) (hd : rs.length = n) (hd2 : bk.length = n2) (hd3 : ms.length = n3) (w : World) (h1 : Sl w w.heap.size 6 A1 n1 c1 (flatCo cs)) (h : Sl w w.heap.size 5 A n c (flatRg rs)) (h2 : Sl w w.heap.size 4 A2 n2 c2 (flatBk bk)) (h3 : Sl w w.heap.size 8 A3 n3 c3_ (flatEd ms)) :
    Calls Try.prog 3 #[.agg #[.slice A1 n1 c1, .slice A n c, .int .i64 clk, .int .i64 ver], .slice A2 n2 c2, .int .i64 cl, .agg #[.int .i64 x.id, .int .i64 x.fr, .int .i64 x.tn, .int .i64 x.st, .int .i64 x.en, .int .i64 x.rt], .slice A3 n3 c3_, .int .i64 q] w fun e w' => e = .returned (.bool true) ∧ Below w.heap.size w w' := by
  have hB : Below w.heap.size w ((w.alloc (.cells #[.slice A1 n1 c1, .slice A n c, .int .i64 clk, .int .i64 ver] 25)).alloc (.cells #[.int .i64 x.id, .int .i64 x.fr, .int .i64 x.tn, .int .i64 x.st, .int .i64 x.en, .int .i64 x.rt] 28)) := by (repeat (first | exact Below.refl _ _ | refine Below.alloc ?_ (by first | omega | (simp; done) | (simp; omega)) _ | refine Below.setCell ?_ (by first | omega | (simp; done) | (simp; omega)) _ | refine Below.drew ?_))
  have hP := (Blok.new w 25 #[.slice A1 n1 c1, .slice A n c, .int .i64 clk, .int .i64 ver]).alloc (.cells #[.int .i64 x.id, .int .i64 x.fr, .int .i64 x.tn, .int .i64 x.st, .int .i64 x.en, .int .i64 x.rt] 28)
  have hC := Blok.new (w.alloc (.cells #[.slice A1 n1 c1, .slice A n c, .int .i64 clk, .int .i64 ver] 25)) 28 #[.int .i64 x.id, .int .i64 x.fr, .int .i64 x.tn, .int .i64 x.st, .int .i64 x.en, .int .i64 x.rt]
  rw [World.size_alloc] at hC
  replace h1 := h1.up hB
  replace h := h.up hB
  replace h2 := h2.up hB
  replace h3 := h3.up hB
  have hs := hB.size
  have HD1 := Lib.hid hd1
  have HD := Lib.hid hd
  have HD2 := Lib.hid hd2
  have HD3 := Lib.hid hd3
  clear hd hd1 hd2 hd3
  go_enter Try.func3, Try.ntmps3
  go_wp2_with fail
  generalize ((w.alloc (.cells #[.slice A1 n1 c1, .slice A n c, .int .i64 clk, .int .i64 ver] 25)).alloc (.cells #[.int .i64 x.id, .int .i64 x.fr, .int .i64 x.tn, .int .i64 x.st, .int .i64 x.en, .int .i64 x.rt] 28)) = w0 at *
  refine (small11 w0).mono ?_
  rintro e w1 ⟨rfl, hb⟩
  replace h1 := h1.up hb
  replace h := h.up hb
  replace h2 := h2.up hb
  replace h3 := h3.up hb
  replace hP := hP.below hb hP.lt
  replace hC := hC.below hb hC.lt
  replace hB := hB.trans (hb.mono hs)
  replace hs := hB.size
  clear hb
  have p0 : w1.cell? ⟨w.heap.size, 0, none⟩ = some (.slice A1 n1 c1) := hP.cell 0
  have p1 : w1.cell? ⟨w.heap.size, 1, none⟩ = some (.slice A n c) := hP.cell 1
  have p2 : w1.cell? ⟨w.heap.size, 2, none⟩ = some (.int .i64 clk) := hP.cell 2
  have p3 : w1.cell? ⟨w.heap.size, 3, none⟩ = some (.int .i64 ver) := hP.cell 3
  have lt_p := hP.lt
  go_wp2_with fail
  clear p0 p1 p2 p3 lt_p
  refine (few_any A1 n1 c1 A n c clk ver w1 _ rfl).mono ?_
  rintro e w2 ⟨rfl, hb⟩
  replace h1 := h1.up hb
  replace h := h.up hb
  replace h2 := h2.up hb
  replace h3 := h3.up hb
  replace hP := hP.below hb hP.lt
  replace hC := hC.below hb hC.lt
  replace hB := hB.trans (hb.mono hs)
  replace hs := hB.size
  clear hb
  by_cases hf : ¬ (n1 ≤ 50 ∧ n ≤ 50)
  · rw [decide_eq_false hf]
    go_wp2_with fail
    go_ret
    exact ⟨rfl, hB⟩
  replace hf := Decidable.not_not.1 hf
  rw [decide_eq_true hf]
  obtain ⟨hf1, hf2⟩ := hf
  by_cases hf3 : 50 < n2
  · have g0 : decide ((n2 : Int) > 50) = true := decide_eq_true (by omega)
    go_wp2_with fail
    go_ret
    exact ⟨rfl, hB⟩
  have g9 : decide ((n2 : Int) > 50) = false := decide_eq_false (by omega)
  by_cases hf4 : 50 < n3
  · have g0 : decide ((n3 : Int) > 50) = true := decide_eq_true (by omega)
    go_wp2_with fail
    go_ret
    exact ⟨rfl, hB⟩
  have g8 : decide ((n3 : Int) > 50) = false := decide_eq_false (by omega)
  by_cases hc0 : cl < 0
  · have g0 : decide (cl < 0) = true := decide_eq_true hc0
    go_wp2_with fail
    go_ret
    exact ⟨rfl, hB⟩
  have g0 : decide (cl < 0) = false := decide_eq_false hc0
  by_cases hc2 : cl > 2
  · have g2 : decide (cl > 2) = true := decide_eq_true hc2
    go_wp2_with fail
    go_ret
    exact ⟨rfl, hB⟩
  have g2 : decide (cl > 2) = false := decide_eq_false hc2
  have HCL : Hid (inB cl 0 2 = true) := by show inB cl 0 2 = true; unfold inB; exact decide_eq_true (by omega)
  clear hc0 hc2
  have p0 : w2.cell? ⟨w.heap.size, 0, none⟩ = some (.slice A1 n1 c1) := hP.cell 0
  have p1 : w2.cell? ⟨w.heap.size, 1, none⟩ = some (.slice A n c) := hP.cell 1
  have p2 : w2.cell? ⟨w.heap.size, 2, none⟩ = some (.int .i64 clk) := hP.cell 2
  have p3 : w2.cell? ⟨w.heap.size, 3, none⟩ = some (.int .i64 ver) := hP.cell 3
  have lt_p := hP.lt
  go_wp2_with fail
  clear p0 p1 p2 p3 lt_p g0 g2 g9 g8
  obtain ⟨rb, hrb⟩ : ∃ rb, rightP cs rs clk ver = rb := ⟨_, rfl⟩
  refine (rright8_any A1 n1 c1 cs A n c rs clk ver w2 HD1.out (by omega) HD.out (by omega) h1 h rb hrb).mono ?_
  rintro e w3 ⟨rfl, hb⟩
  replace h1 := h1.up hb
  replace h := h.up hb
  replace h2 := h2.up hb
  replace h3 := h3.up hb
  replace hP := hP.below hb hP.lt
  replace hC := hC.below hb hC.lt
  replace hB := hB.trans (hb.mono hs)
  replace hs := hB.size
  clear hb
  go_wp2_with fail
  refine (Kb.rright_any A2 n2 c2 bk w3 HD2.out (by omega) h2).mono ?_
  rintro e w4 ⟨rfl, hb⟩
  replace h1 := h1.up hb
  replace h := h.up hb
  replace h2 := h2.up hb
  replace h3 := h3.up hb
  replace hP := hP.below hb hP.lt
  replace hC := hC.below hb hC.lt
  replace hB := hB.trans (hb.mono hs)
  replace hs := hB.size
  clear hb
  obtain ⟨lb, hlb⟩ : ∃ lb, Kb.rightB bk = lb := ⟨_, rfl⟩
  rw [hlb]
  cases rb
  · clear hrb hlb
    go_wp2_with fail
    go_ret
    exact ⟨rfl, hB⟩
  cases lb
  · clear hrb hlb
    go_wp2_with fail
    go_ret
    exact ⟨rfl, hB⟩
  have HRP := Lib.hid (rightP_spec.1 hrb)
  have HLB := Lib.hid hlb
  clear hrb hlb
  obtain ⟨oe, ho⟩ : ∃ o, edgeF rs bk x cl = o := ⟨_, rfl⟩
  obtain ⟨y, hy⟩ : ∃ y, oe.getD zeroEd = y := ⟨_, rfl⟩
  obtain ⟨z, hz⟩ : ∃ z, (findE ms q).getD zeroEd = z := ⟨_, rfl⟩
  obtain ⟨zb, hzb⟩ : ∃ b, (findE ms q).isSome = b := ⟨_, rfl⟩
  obtain ⟨ob, hob⟩ : ∃ b, oe.isSome = b := ⟨_, rfl⟩
  have HO := Lib.hid ho
  have HY := Lib.hid hy
  have HZ := Lib.hid hz
  have HZB := Lib.hid hzb
  have HOB := Lib.hid hob
  clear ho hy hz hzb hob
  have p0 : w4.cell? ⟨w.heap.size, 0, none⟩ = some (.slice A1 n1 c1) := hP.cell 0
  have p1 : w4.cell? ⟨w.heap.size, 1, none⟩ = some (.slice A n c) := hP.cell 1
  have p2 : w4.cell? ⟨w.heap.size, 2, none⟩ = some (.int .i64 clk) := hP.cell 2
  have p3 : w4.cell? ⟨w.heap.size, 3, none⟩ = some (.int .i64 ver) := hP.cell 3
  have lt_p := hP.lt
  have k0 : w4.cell? ⟨w.heap.size + 1, 0, none⟩ = some (.int .i64 x.id) := hC.cell 0
  have k1 : w4.cell? ⟨w.heap.size + 1, 1, none⟩ = some (.int .i64 x.fr) := hC.cell 1
  have k2 : w4.cell? ⟨w.heap.size + 1, 2, none⟩ = some (.int .i64 x.tn) := hC.cell 2
  have k3 : w4.cell? ⟨w.heap.size + 1, 3, none⟩ = some (.int .i64 x.st) := hC.cell 3
  have k4 : w4.cell? ⟨w.heap.size + 1, 4, none⟩ = some (.int .i64 x.en) := hC.cell 4
  have k5 : w4.cell? ⟨w.heap.size + 1, 5, none⟩ = some (.int .i64 x.rt) := hC.cell 5
  have lt_c := hC.lt
  go_wp2_with fail
  clear p0 p1 p2 p3 lt_p k0 k1 k2 k3 k4 k5 lt_c
  refine (edge_any A1 n1 c1 A n c rs clk ver A2 n2 c2 bk x cl w4 HD.out (by omega) HD2.out (by omega) h h2 HRP.out.rg HLB.out oe HO.out y HY.out).mono ?_
  rintro e w5 ⟨rfl, hb⟩
  replace h1 := h1.up hb
  replace h := h.up hb
  replace h2 := h2.up hb
  replace h3 := h3.up hb
  replace hP := hP.below hb hP.lt
  replace hC := hC.below hb hC.lt
  replace hB := hB.trans (hb.mono hs)
  replace hs := hB.size
  clear hb
  rw [HOB.out]
  go_upto_region 10 with fail
  have hY1 := Blok.new w5 34 #[.int .i64 y.id, .int .i64 y.fr, .int .i64 y.tn, .int .i64 y.op, .int .i64 y.en, .int .i64 y.ra, .int .i64 y.ow, .int .i64 y.ro]
  have hb : Below w5.heap.size w5 (w5.alloc (.cells #[.int .i64 y.id, .int .i64 y.fr, .int .i64 y.tn, .int .i64 y.op, .int .i64 y.en, .int .i64 y.ra, .int .i64 y.ow, .int .i64 y.ro] 34)) := by (repeat (first | exact Below.refl _ _ | refine Below.alloc ?_ (by first | omega | (simp; done) | (simp; omega)) _ | refine Below.setCell ?_ (by first | omega | (simp; done) | (simp; omega)) _ | refine Below.drew ?_))
  replace h1 := h1.up hb
  replace h := h.up hb
  replace h2 := h2.up hb
  replace h3 := h3.up hb
  replace hP := hP.below hb hP.lt
  replace hC := hC.below hb hC.lt
  replace hB := hB.trans (hb.mono hs)
  replace hs := hB.size
  clear hb
  generalize w5.alloc (.cells #[.int .i64 y.id, .int .i64 y.fr, .int .i64 y.tn, .int .i64 y.op, .int .i64 y.en, .int .i64 y.ra, .int .i64 y.ow, .int .i64 y.ro] 34) = w6 at *
  generalize w5.heap.size = b17 at *
  have p0 : w6.cell? ⟨w.heap.size, 0, none⟩ = some (.slice A1 n1 c1) := hP.cell 0
  have p1 : w6.cell? ⟨w.heap.size, 1, none⟩ = some (.slice A n c) := hP.cell 1
  have p2 : w6.cell? ⟨w.heap.size, 2, none⟩ = some (.int .i64 clk) := hP.cell 2
  have p3 : w6.cell? ⟨w.heap.size, 3, none⟩ = some (.int .i64 ver) := hP.cell 3
  have lt_p := hP.lt
  have k0 : w6.cell? ⟨w.heap.size + 1, 0, none⟩ = some (.int .i64 x.id) := hC.cell 0
  have k1 : w6.cell? ⟨w.heap.size + 1, 1, none⟩ = some (.int .i64 x.fr) := hC.cell 1
  have k2 : w6.cell? ⟨w.heap.size + 1, 2, none⟩ = some (.int .i64 x.tn) := hC.cell 2
  have k3 : w6.cell? ⟨w.heap.size + 1, 3, none⟩ = some (.int .i64 x.st) := hC.cell 3
  have k4 : w6.cell? ⟨w.heap.size + 1, 4, none⟩ = some (.int .i64 x.en) := hC.cell 4
  have k5 : w6.cell? ⟨w.heap.size + 1, 5, none⟩ = some (.int .i64 x.rt) := hC.cell 5
  have lt_c := hC.lt
  go_wp2_with fail
  clear p0 p1 p2 p3 lt_p k0 k1 k2 k3 k4 k5 lt_c
  refine (redge_any A1 n1 c1 A n c rs clk ver A2 n2 c2 bk x cl w6 HD.out (by omega) HD2.out (by omega) h h2 HLB.out HCL.out oe HO.out y HY.out).mono ?_
  rintro e w7 ⟨rfl, hb⟩
  replace h1 := h1.up hb
  replace h := h.up hb
  replace h2 := h2.up hb
  replace h3 := h3.up hb
  replace hP := hP.below hb hP.lt
  replace hC := hC.below hb hC.lt
  replace hY1 := hY1.below hb hY1.lt
  replace hB := hB.trans (hb.mono hs)
  replace hs := hB.size
  clear hb
  rw [HOB.out]
  go_upto_region 11 with fail
  have hY2 := Blok.new w7 34 #[.int .i64 y.id, .int .i64 y.fr, .int .i64 y.tn, .int .i64 y.op, .int .i64 y.en, .int .i64 y.ra, .int .i64 y.ow, .int .i64 y.ro]
  have hb : Below w7.heap.size w7 (w7.alloc (.cells #[.int .i64 y.id, .int .i64 y.fr, .int .i64 y.tn, .int .i64 y.op, .int .i64 y.en, .int .i64 y.ra, .int .i64 y.ow, .int .i64 y.ro] 34)) := by (repeat (first | exact Below.refl _ _ | refine Below.alloc ?_ (by first | omega | (simp; done) | (simp; omega)) _ | refine Below.setCell ?_ (by first | omega | (simp; done) | (simp; omega)) _ | refine Below.drew ?_))
  replace h1 := h1.up hb
  replace h := h.up hb
  replace h2 := h2.up hb
  replace h3 := h3.up hb
  replace hP := hP.below hb hP.lt
  replace hC := hC.below hb hC.lt
  replace hY1 := hY1.below hb hY1.lt
  replace hB := hB.trans (hb.mono hs)
  replace hs := hB.size
  clear hb
  generalize w7.alloc (.cells #[.int .i64 y.id, .int .i64 y.fr, .int .i64 y.tn, .int .i64 y.op, .int .i64 y.en, .int .i64 y.ra, .int .i64 y.ow, .int .i64 y.ro] 34) = w8 at *
  generalize w7.heap.size = b19 at *
  go_wp2_with fail
  refine (vfind_any A3 n3 c3_ ms q w8 HD3.out (by omega) h3 z zb HZ.out HZB.out).mono ?_
  rintro e w9 ⟨rfl, hb⟩
  replace h1 := h1.up hb
  replace h := h.up hb
  replace h2 := h2.up hb
  replace h3 := h3.up hb
  replace hP := hP.below hb hP.lt
  replace hC := hC.below hb hC.lt
  replace hY1 := hY1.below hb hY1.lt
  replace hY2 := hY2.below hb hY2.lt
  replace hB := hB.trans (hb.mono hs)
  replace hs := hB.size
  clear hb
  go_upto_region 12 with fail
  have hY3 := Blok.new w9 34 #[.int .i64 z.id, .int .i64 z.fr, .int .i64 z.tn, .int .i64 z.op, .int .i64 z.en, .int .i64 z.ra, .int .i64 z.ow, .int .i64 z.ro]
  have hb : Below w9.heap.size w9 (w9.alloc (.cells #[.int .i64 z.id, .int .i64 z.fr, .int .i64 z.tn, .int .i64 z.op, .int .i64 z.en, .int .i64 z.ra, .int .i64 z.ow, .int .i64 z.ro] 34)) := by (repeat (first | exact Below.refl _ _ | refine Below.alloc ?_ (by first | omega | (simp; done) | (simp; omega)) _ | refine Below.setCell ?_ (by first | omega | (simp; done) | (simp; omega)) _ | refine Below.drew ?_))
  replace h1 := h1.up hb
  replace h := h.up hb
  replace h2 := h2.up hb
  replace h3 := h3.up hb
  replace hP := hP.below hb hP.lt
  replace hC := hC.below hb hC.lt
  replace hY1 := hY1.below hb hY1.lt
  replace hY2 := hY2.below hb hY2.lt
  replace hB := hB.trans (hb.mono hs)
  replace hs := hB.size
  clear hb
  generalize w9.alloc (.cells #[.int .i64 z.id, .int .i64 z.fr, .int .i64 z.tn, .int .i64 z.op, .int .i64 z.en, .int .i64 z.ra, .int .i64 z.ow, .int .i64 z.ro] 34) = w10 at *
  generalize w9.heap.size = b21 at *
  go_wp2_with fail
  refine (rfind11_any A3 n3 c3_ ms q w10 HD3.out (by omega) h3 z zb HZ.out HZB.out).mono ?_
  rintro e w11 ⟨rfl, hb⟩
  replace h1 := h1.up hb
  replace h := h.up hb
  replace h2 := h2.up hb
  replace h3 := h3.up hb
  replace hP := hP.below hb hP.lt
  replace hC := hC.below hb hC.lt
  replace hY1 := hY1.below hb hY1.lt
  replace hY2 := hY2.below hb hY2.lt
  replace hY3 := hY3.below hb hY3.lt
  replace hB := hB.trans (hb.mono hs)
  replace hs := hB.size
  clear hb
  go_upto_region 13 with fail
  have hY4 := Blok.new w11 34 #[.int .i64 z.id, .int .i64 z.fr, .int .i64 z.tn, .int .i64 z.op, .int .i64 z.en, .int .i64 z.ra, .int .i64 z.ow, .int .i64 z.ro]
  have hb : Below w11.heap.size w11 (w11.alloc (.cells #[.int .i64 z.id, .int .i64 z.fr, .int .i64 z.tn, .int .i64 z.op, .int .i64 z.en, .int .i64 z.ra, .int .i64 z.ow, .int .i64 z.ro] 34)) := by (repeat (first | exact Below.refl _ _ | refine Below.alloc ?_ (by first | omega | (simp; done) | (simp; omega)) _ | refine Below.setCell ?_ (by first | omega | (simp; done) | (simp; omega)) _ | refine Below.drew ?_))
  replace h1 := h1.up hb
  replace h := h.up hb
  replace h2 := h2.up hb
  replace h3 := h3.up hb
  replace hP := hP.below hb hP.lt
  replace hC := hC.below hb hC.lt
  replace hY1 := hY1.below hb hY1.lt
  replace hY2 := hY2.below hb hY2.lt
  replace hY3 := hY3.below hb hY3.lt
  replace hB := hB.trans (hb.mono hs)
  replace hs := hB.size
  clear hb
  generalize w11.alloc (.cells #[.int .i64 z.id, .int .i64 z.fr, .int .i64 z.tn, .int .i64 z.op, .int .i64 z.en, .int .i64 z.ra, .int .i64 z.ow, .int .i64 z.ro] 34) = w12 at *
  generalize w11.heap.size = b23 at *
  have p0 : w12.cell? ⟨w.heap.size, 0, none⟩ = some (.slice A1 n1 c1) := hP.cell 0
  have p1 : w12.cell? ⟨w.heap.size, 1, none⟩ = some (.slice A n c) := hP.cell 1
  have p2 : w12.cell? ⟨w.heap.size, 2, none⟩ = some (.int .i64 clk) := hP.cell 2
  have p3 : w12.cell? ⟨w.heap.size, 3, none⟩ = some (.int .i64 ver) := hP.cell 3
  have lt_p := hP.lt
  go_wp2_with fail
  clear p0 p1 p2 p3 lt_p
  refine (vall_of sortEd_any A1 n1 c1 cs A n c rs clk ver A2 n2 c2 bk cl w12 HD1.out (by omega) HD.out (by omega) HD2.out (by omega) h1 h h2 HRP.out.rg HLB.out).mono ?_
  rintro e w13 ⟨va, ma, rfl, hp, hso, ha, hb⟩
  have HMA := Lib.hid (allE_of HRP.out.co hp hso)
  clear hp hso
  replace h1 := h1.up hb
  replace h := h.up hb
  replace h2 := h2.up hb
  replace h3 := h3.up hb
  replace hP := hP.below hb hP.lt
  replace hC := hC.below hb hC.lt
  replace hY1 := hY1.below hb hY1.lt
  replace hY2 := hY2.below hb hY2.lt
  replace hY3 := hY3.below hb hY3.lt
  replace hY4 := hY4.below hb hY4.lt
  replace hB := hB.trans (hb.mono hs)
  replace hs := hB.size
  clear hb
  have hea := EL.of_own ha
  have HMB := Lib.hid (bareE_all (rs := rs) (cs := cs) HRP.out.co)
  have HML : Hid (ma.length ≤ 50 ∧ (bareE rs cs).length ≤ 50 ∧ ms.length ≤ 50) := ⟨by have := HMA.out.len; have := HD1.out; omega, by have := HMB.out.len; have := HD1.out; omega, by have := HD3.out; omega⟩
  have hem : EL w13 (.slice A3 n3 c3_) ms := ⟨_, _, _, rfl, HD3.out, h3⟩
  obtain ⟨mb, hmb⟩ : ∃ m, bareE rs cs = m := ⟨_, rfl⟩
  obtain ⟨mf, hmf⟩ : ∃ m, ms.filter (fun e => e.fr == q) = m := ⟨_, rfl⟩
  rw [hmb] at HMB HML
  have HMF := Lib.hid hmf
  have HFL : Hid (mf.length ≤ 50) := by show mf.length ≤ 50; rw [← HMF.out]; have h5 := List.length_filter_le (fun e : Ed => e.fr == q) ms; have := HML.out.2.2; omega
  obtain ⟨r0, hr0⟩ : ∃ b, decide (ms = ma) = b := ⟨_, rfl⟩
  have HR0 := Lib.hid hr0
  have hEY : ∀ w0, (binOp .eql 34 (.agg #[.int .i64 y.id, .int .i64 y.fr, .int .i64 y.tn, .int .i64 y.op, .int .i64 y.en, .int .i64 y.ra, .int .i64 y.ow, .int .i64 y.ro]) (.agg #[.int .i64 y.id, .int .i64 y.fr, .int .i64 y.tn, .int .i64 y.op, .int .i64 y.en, .int .i64 y.ra, .int .i64 y.ow, .int .i64 y.ro])).run Try.prog w0 = .ok (.bool true) w0 := fun w0 => by have h5 := eqlEd y y w0; simpa using h5
  have hEZ : ∀ w0, (binOp .eql 34 (.agg #[.int .i64 z.id, .int .i64 z.fr, .int .i64 z.tn, .int .i64 z.op, .int .i64 z.en, .int .i64 z.ra, .int .i64 z.ow, .int .i64 z.ro]) (.agg #[.int .i64 z.id, .int .i64 z.fr, .int .i64 z.tn, .int .i64 z.op, .int .i64 z.en, .int .i64 z.ra, .int .i64 z.ow, .int .i64 z.ro])).run Try.prog w0 = .ok (.bool true) w0 := fun w0 => by have h5 := eqlEd z z w0; simpa using h5
  have hBO : ∀ w0, (binOp .eql 4 (.bool ob) (.bool ob)).run Try.prog w0 = .ok (.bool true) w0 := fun w0 => by cases ob <;> rfl
  have hBZ : ∀ w0, (binOp .eql 4 (.bool zb) (.bool zb)).run Try.prog w0 = .ok (.bool true) w0 := fun w0 => by cases zb <;> rfl
  have hBR : ∀ w0, (binOp .eql 4 (.bool r0) (.bool r0)).run Try.prog w0 = .ok (.bool true) w0 := fun w0 => by cases r0 <;> rfl
  clear hmb hmf hr0 ha
  go_upto_region 14 with fail
  refine gen_frame ?_
  intro a0 ha0
  try simp only [List.append]
  refine wp_region_frames rfl (by kernel_rfl) (by kernel_rfl) (fun V x w' => Below w13.heap.size w13 w' ∧ (V.getD 0 true = true → x 0 = .bool true) ∧ (V.getD 1 true = true → x 1 = .bool true) ∧ (V.getD 2 true = true → x 2 = .agg #[.int .i64 y.id, .int .i64 y.fr, .int .i64 y.tn, .int .i64 y.op, .int .i64 y.en, .int .i64 y.ra, .int .i64 y.ow, .int .i64 y.ro]) ∧ (V.getD 3 true = true → x 3 = .agg #[.int .i64 y.id, .int .i64 y.fr, .int .i64 y.tn, .int .i64 y.op, .int .i64 y.en, .int .i64 y.ra, .int .i64 y.ow, .int .i64 y.ro]) ∧ (V.getD 4 true = true → x 4 = .bool true) ∧ (V.getD 5 true = true → x 5 = .bool true) ∧ (V.getD 6 true = true → x 6 = .bool true) ∧ (V.getD 7 true = true → x 7 = .bool ob) ∧ (V.getD 8 true = true → x 8 = .bool ob) ∧ (V.getD 9 true = true → x 9 = .bool true) ∧ (V.getD 10 true = true → x 10 = .bool true) ∧ (V.getD 11 true = true → x 11 = .bool true) ∧ (V.getD 12 true = true → x 12 = .agg #[.int .i64 z.id, .int .i64 z.fr, .int .i64 z.tn, .int .i64 z.op, .int .i64 z.en, .int .i64 z.ra, .int .i64 z.ow, .int .i64 z.ro]) ∧ (V.getD 13 true = true → x 13 = .agg #[.int .i64 z.id, .int .i64 z.fr, .int .i64 z.tn, .int .i64 z.op, .int .i64 z.en, .int .i64 z.ra, .int .i64 z.ow, .int .i64 z.ro]) ∧ (V.getD 14 true = true → x 14 = .bool true) ∧ (V.getD 15 true = true → x 15 = .bool true) ∧ (V.getD 16 true = true → x 16 = .bool true) ∧ (V.getD 17 true = true → x 17 = .bool zb) ∧ (V.getD 18 true = true → x 18 = .bool zb) ∧ (V.getD 19 true = true → x 19 = .bool true) ∧ (V.getD 20 true = true → x 20 = .bool true) ∧ (V.getD 21 true = true → x 21 = .bool true) ∧ (V.getD 22 true = true → x 22 = va) ∧ (V.getD 23 true = true → x 23 = .agg #[.slice A1 n1 c1, .slice A n c, .int .i64 clk, .int .i64 ver]) ∧ (V.getD 24 true = true → x 24 = .slice A2 n2 c2) ∧ (V.getD 25 true = true → x 25 = .int .i64 cl) ∧ (V.getD 26 true = true → EL w' (x 26) ma) ∧ (V.getD 27 true = true → x 27 = .bool true) ∧ (V.getD 28 true = true → x 28 = .bool true) ∧ (V.getD 29 true = true → x 29 = .bool true) ∧ (V.getD 30 true = true → x 30 = .agg #[.slice A1 n1 c1, .slice A n c, .int .i64 clk, .int .i64 ver]) ∧ (V.getD 31 true = true → EL w' (x 31) mb) ∧ (V.getD 32 true = true → x 32 = .agg #[.slice A1 n1 c1, .slice A n c, .int .i64 clk, .int .i64 ver]) ∧ (V.getD 33 true = true → EL w' (x 33) mb) ∧ (V.getD 34 true = true → x 34 = .bool true) ∧ (V.getD 35 true = true → x 35 = .bool true) ∧ (V.getD 36 true = true → x 36 = .bool true) ∧ (V.getD 37 true = true → x 37 = .slice A3 n3 c3_) ∧ (V.getD 38 true = true → x 38 = .int .i64 q) ∧ (V.getD 39 true = true → EL w' (x 39) mf) ∧ (V.getD 40 true = true → x 40 = .slice A3 n3 c3_) ∧ (V.getD 41 true = true → x 41 = .int .i64 q) ∧ (V.getD 42 true = true → EL w' (x 42) mf) ∧ (V.getD 43 true = true → x 43 = .bool true) ∧ (V.getD 44 true = true → x 44 = .bool true) ∧ (V.getD 45 true = true → x 45 = .bool true) ∧ (V.getD 46 true = true → x 46 = .slice A3 n3 c3_) ∧ (V.getD 47 true = true → x 47 = va) ∧ (V.getD 48 true = true → x 48 = .bool r0) ∧ (V.getD 49 true = true → x 49 = .slice A3 n3 c3_) ∧ (V.getD 50 true = true → x 50 = va) ∧ (V.getD 51 true = true → x 51 = .bool r0) ∧ (V.getD 52 true = true → x 52 = .bool true) ∧ (V.getD 53 true = true → x 53 = .bool true) ∧ (V.getD 54 true = true → x 54 = .bool true)) ?_ ?_ ?_
  · intro x
    refine ⟨(Below.refl _ _).drew, ?_, ?_, ?_, ?_, ?_, ?_, ?_, ?_, ?_, ?_, ?_, ?_, ?_, ?_, ?_, ?_, ?_, ?_, ?_, ?_, ?_, ?_, ?_, ?_, ?_, ?_, ?_, ?_, ?_, ?_, ?_, ?_, ?_, ?_, ?_, ?_, ?_, ?_, ?_, ?_, ?_, ?_, ?_, ?_, ?_, ?_, ?_, ?_, ?_, ?_, ?_, ?_, ?_, ?_, ?_⟩ <;> exact fun h => by simp at h
  · intro V x b w' hbq hsz hF i hi hun haf hcl
    obtain ⟨hBw, f0, f1, f2, f3, f4, f5, f6, f7, f8, f9, f10, f11, f12, f13, f14, f15, f16, f17, f18, f19, f20, f21, f22, f23, f24, f25, f26, f27, f28, f29, f30, f31, f32, f33, f34, f35, f36, f37, f38, f39, f40, f41, f42, f43, f44, f45, f46, f47, f48, f49, f50, f51, f52, f53, f54⟩ := hF
    have hbe : b = putAll a0 [some 93, some 94, some 95, some 96, some 97, some 98, some 99, some 100, some 101, some 102, some 103, some 104, some 105, some 106, some 107, some 108, some 109, some 110, some 111, some 112, some 113, some 114, some 115, some 116, some 117, some 118, some 119, some 120, some 121, some 122, some 123, some 124, some 125, some 126, some 127, some 128, some 129, some 130, some 131, some 132, some 133, some 134, some 135, some 136, some 137, some 138, some 139, some 140, some 141, some 142, some 143, some 144, some 145, some 146, some 12] x 0 := hbq
    have hz0 : a0.tmps.size = 147 := by rw [ha0]; rfl
    have e1 : b.eval (.tmp 1) = .slice A2 n2 c2 := by rw [hbe, eval_out _ _ _ (by decide), ha0]; rfl
    have t1 : b.tmps[1]?.getD undef = .slice A2 n2 c2 := by simpa [Act.eval] using e1
    have e2 : b.eval (.tmp 2) = .int .i64 cl := by rw [hbe, eval_out _ _ _ (by decide), ha0]; rfl
    have t2 : b.tmps[2]?.getD undef = .int .i64 cl := by simpa [Act.eval] using e2
    have e4 : b.eval (.tmp 4) = .slice A3 n3 c3_ := by rw [hbe, eval_out _ _ _ (by decide), ha0]; rfl
    have t4 : b.tmps[4]?.getD undef = .slice A3 n3 c3_ := by simpa [Act.eval] using e4
    have e5 : b.eval (.tmp 5) = .int .i64 q := by rw [hbe, eval_out _ _ _ (by decide), ha0]; rfl
    have t5 : b.tmps[5]?.getD undef = .int .i64 q := by simpa [Act.eval] using e5
    have e6 : b.eval (.tmp 6) = .pointer (some ⟨w.heap.size, 0, none⟩) := by rw [hbe, eval_out _ _ _ (by decide), ha0]; rfl
    have t6 : b.tmps[6]?.getD undef = .pointer (some ⟨w.heap.size, 0, none⟩) := by simpa [Act.eval] using e6
    have e13 : b.eval (.tmp 13) = .bool true := by rw [hbe, eval_out _ _ _ (by decide), ha0]; rfl
    have t13 : b.tmps[13]?.getD undef = .bool true := by simpa [Act.eval] using e13
    have e17 : b.eval (.tmp 17) = .pointer (some ⟨b17, 0, none⟩) := by rw [hbe, eval_out _ _ _ (by decide), ha0]; rfl
    have t17 : b.tmps[17]?.getD undef = .pointer (some ⟨b17, 0, none⟩) := by simpa [Act.eval] using e17
    have e18 : b.eval (.tmp 18) = .bool ob := by rw [hbe, eval_out _ _ _ (by decide), ha0]; rfl
    have t18 : b.tmps[18]?.getD undef = .bool ob := by simpa [Act.eval] using e18
    have e19 : b.eval (.tmp 19) = .pointer (some ⟨b19, 0, none⟩) := by rw [hbe, eval_out _ _ _ (by decide), ha0]; rfl
    have t19 : b.tmps[19]?.getD undef = .pointer (some ⟨b19, 0, none⟩) := by simpa [Act.eval] using e19
    have e20 : b.eval (.tmp 20) = .bool ob := by rw [hbe, eval_out _ _ _ (by decide), ha0]; rfl
    have t20 : b.tmps[20]?.getD undef = .bool ob := by simpa [Act.eval] using e20
    have e21 : b.eval (.tmp 21) = .pointer (some ⟨b21, 0, none⟩) := by rw [hbe, eval_out _ _ _ (by decide), ha0]; rfl
    have t21 : b.tmps[21]?.getD undef = .pointer (some ⟨b21, 0, none⟩) := by simpa [Act.eval] using e21
    have e22 : b.eval (.tmp 22) = .bool zb := by rw [hbe, eval_out _ _ _ (by decide), ha0]; rfl
    have t22 : b.tmps[22]?.getD undef = .bool zb := by simpa [Act.eval] using e22
    have e23 : b.eval (.tmp 23) = .pointer (some ⟨b23, 0, none⟩) := by rw [hbe, eval_out _ _ _ (by decide), ha0]; rfl
    have t23 : b.tmps[23]?.getD undef = .pointer (some ⟨b23, 0, none⟩) := by simpa [Act.eval] using e23
    have e24 : b.eval (.tmp 24) = .bool zb := by rw [hbe, eval_out _ _ _ (by decide), ha0]; rfl
    have t24 : b.tmps[24]?.getD undef = .bool zb := by simpa [Act.eval] using e24
    have e25 : b.eval (.tmp 25) = va := by rw [hbe, eval_out _ _ _ (by decide), ha0]; rfl
    have t25 : b.tmps[25]?.getD undef = va := by simpa [Act.eval] using e25
    have evc : ∀ v, b.eval (.const v) = v := fun _ => rfl
    clear hbq
    have hi' : i < 55 := hi
    clear hi
    obtain rfl | rfl | rfl | rfl | rfl | rfl | rfl | rfl | rfl | rfl | rfl | rfl | rfl | rfl | rfl | rfl | rfl | rfl | rfl | rfl | rfl | rfl | rfl | rfl | rfl | rfl | rfl | rfl | rfl | rfl | rfl | rfl | rfl | rfl | rfl | rfl | rfl | rfl | rfl | rfl | rfl | rfl | rfl | rfl | rfl | rfl | rfl | rfl | rfl | rfl | rfl | rfl | rfl | rfl | rfl : i = 0 ∨ i = 1 ∨ i = 2 ∨ i = 3 ∨ i = 4 ∨ i = 5 ∨ i = 6 ∨ i = 7 ∨ i = 8 ∨ i = 9 ∨ i = 10 ∨ i = 11 ∨ i = 12 ∨ i = 13 ∨ i = 14 ∨ i = 15 ∨ i = 16 ∨ i = 17 ∨ i = 18 ∨ i = 19 ∨ i = 20 ∨ i = 21 ∨ i = 22 ∨ i = 23 ∨ i = 24 ∨ i = 25 ∨ i = 26 ∨ i = 27 ∨ i = 28 ∨ i = 29 ∨ i = 30 ∨ i = 31 ∨ i = 32 ∨ i = 33 ∨ i = 34 ∨ i = 35 ∨ i = 36 ∨ i = 37 ∨ i = 38 ∨ i = 39 ∨ i = 40 ∨ i = 41 ∨ i = 42 ∨ i = 43 ∨ i = 44 ∨ i = 45 ∨ i = 46 ∨ i = 47 ∨ i = 48 ∨ i = 49 ∨ i = 50 ∨ i = 51 ∨ i = 52 ∨ i = 53 ∨ i = 54 := by omega
    · refine wpOp_runs (v := .bool true) rfl rfl (by simp [execOp, go_sem, t13]) ⟨_, _, rfl, rfl, ⟨hBw, fun _ => upd_same _ _ _, kE f1 rfl, kE f2 rfl, kE f3 rfl, kE f4 rfl, kE f5 rfl, kE f6 rfl, kE f7 rfl, kE f8 rfl, kE f9 rfl, kE f10 rfl, kE f11 rfl, kE f12 rfl, kE f13 rfl, kE f14 rfl, kE f15 rfl, kE f16 rfl, kE f17 rfl, kE f18 rfl, kE f19 rfl, kE f20 rfl, kE f21 rfl, kE f22 rfl, kE f23 rfl, kE f24 rfl, kE f25 rfl, fun h => by obtain hrl := f26 (by rw [← getD_set_ne true (show 0 ≠ 26 by decide)]; exact h); exact (by rw [upd_ne x _ (by decide)]; exact hrl), kE f27 rfl, kE f28 rfl, kE f29 rfl, kE f30 rfl, fun h => by obtain hrl := f31 (by rw [← getD_set_ne true (show 0 ≠ 31 by decide)]; exact h); exact (by rw [upd_ne x _ (by decide)]; exact hrl), kE f32 rfl, fun h => by obtain hrl := f33 (by rw [← getD_set_ne true (show 0 ≠ 33 by decide)]; exact h); exact (by rw [upd_ne x _ (by decide)]; exact hrl), kE f34 rfl, kE f35 rfl, kE f36 rfl, kE f37 rfl, kE f38 rfl, fun h => by obtain hrl := f39 (by rw [← getD_set_ne true (show 0 ≠ 39 by decide)]; exact h); exact (by rw [upd_ne x _ (by decide)]; exact hrl), kE f40 rfl, kE f41 rfl, fun h => by obtain hrl := f42 (by rw [← getD_set_ne true (show 0 ≠ 42 by decide)]; exact h); exact (by rw [upd_ne x _ (by decide)]; exact hrl), kE f43 rfl, kE f44 rfl, kE f45 rfl, kE f46 rfl, kE f47 rfl, kE f48 rfl, kE f49 rfl, kE f50 rfl, kE f51 rfl, kE f52 rfl, kE f53 rfl, kE f54 rfl⟩⟩
    · have d0 := getD_ft (haf _ rfl ⟨0, .data⟩ (by simp) rfl)
      have e93 : b.eval (.tmp 93) = .bool true := by rw [hbe, eval_in _ _ _ 0 (by decide) rfl (by rw [hz0]; decide)]; exact f0 d0
      have t93 : b.tmps[93]?.getD undef = .bool true := by have tv := e93; simpa only [Act.eval, Array.getD_eq_getD_getElem?] using tv
      refine wpOp_runs (v := .bool true) rfl rfl (by simp [execOp, go_sem, t93]) ⟨_, _, rfl, rfl, ⟨hBw, kE f0 rfl, fun _ => upd_same _ _ _, kE f2 rfl, kE f3 rfl, kE f4 rfl, kE f5 rfl, kE f6 rfl, kE f7 rfl, kE f8 rfl, kE f9 rfl, kE f10 rfl, kE f11 rfl, kE f12 rfl, kE f13 rfl, kE f14 rfl, kE f15 rfl, kE f16 rfl, kE f17 rfl, kE f18 rfl, kE f19 rfl, kE f20 rfl, kE f21 rfl, kE f22 rfl, kE f23 rfl, kE f24 rfl, kE f25 rfl, fun h => by obtain hrl := f26 (by rw [← getD_set_ne true (show 1 ≠ 26 by decide)]; exact h); exact (by rw [upd_ne x _ (by decide)]; exact hrl), kE f27 rfl, kE f28 rfl, kE f29 rfl, kE f30 rfl, fun h => by obtain hrl := f31 (by rw [← getD_set_ne true (show 1 ≠ 31 by decide)]; exact h); exact (by rw [upd_ne x _ (by decide)]; exact hrl), kE f32 rfl, fun h => by obtain hrl := f33 (by rw [← getD_set_ne true (show 1 ≠ 33 by decide)]; exact h); exact (by rw [upd_ne x _ (by decide)]; exact hrl), kE f34 rfl, kE f35 rfl, kE f36 rfl, kE f37 rfl, kE f38 rfl, fun h => by obtain hrl := f39 (by rw [← getD_set_ne true (show 1 ≠ 39 by decide)]; exact h); exact (by rw [upd_ne x _ (by decide)]; exact hrl), kE f40 rfl, kE f41 rfl, fun h => by obtain hrl := f42 (by rw [← getD_set_ne true (show 1 ≠ 42 by decide)]; exact h); exact (by rw [upd_ne x _ (by decide)]; exact hrl), kE f43 rfl, kE f44 rfl, kE f45 rfl, kE f46 rfl, kE f47 rfl, kE f48 rfl, kE f49 rfl, kE f50 rfl, kE f51 rfl, kE f52 rfl, kE f53 rfl, kE f54 rfl⟩⟩
    · have d1 := getD_ft (haf _ rfl ⟨1, .guard⟩ (by simp) rfl)
      have e94 : b.eval (.tmp 94) = .bool true := by rw [hbe, eval_in _ _ _ 1 (by decide) rfl (by rw [hz0]; decide)]; exact f1 d1
      have t94 : b.tmps[94]?.getD undef = .bool true := by have tv := e94; simpa only [Act.eval, Array.getD_eq_getD_getElem?] using tv
      have bq := hY1.below hBw hY1.lt
      have n_0 : w'.cell? ⟨b17, 0, none⟩ = some (.int .i64 y.id) := bq.cell 0
      have n_1 : w'.cell? ⟨b17, 1, none⟩ = some (.int .i64 y.fr) := bq.cell 1
      have n_2 : w'.cell? ⟨b17, 2, none⟩ = some (.int .i64 y.tn) := bq.cell 2
      have n_3 : w'.cell? ⟨b17, 3, none⟩ = some (.int .i64 y.op) := bq.cell 3
      have n_4 : w'.cell? ⟨b17, 4, none⟩ = some (.int .i64 y.en) := bq.cell 4
      have n_5 : w'.cell? ⟨b17, 5, none⟩ = some (.int .i64 y.ra) := bq.cell 5
      have n_6 : w'.cell? ⟨b17, 6, none⟩ = some (.int .i64 y.ow) := bq.cell 6
      have n_7 : w'.cell? ⟨b17, 7, none⟩ = some (.int .i64 y.ro) := bq.cell 7
      refine wpOp_runs_on (v := .agg #[.int .i64 y.id, .int .i64 y.fr, .int .i64 y.tn, .int .i64 y.op, .int .i64 y.en, .int .i64 y.ra, .int .i64 y.ow, .int .i64 y.ro]) rfl (wanted_on rfl rfl rfl t94) (by simp [execOp, go_sem, t17, n_0, n_1, n_2, n_3, n_4, n_5, n_6, n_7]) ⟨_, _, rfl, rfl, ⟨hBw, kE f0 rfl, kE f1 rfl, fun _ => upd_same _ _ _, kE f3 rfl, kE f4 rfl, kE f5 rfl, kE f6 rfl, kE f7 rfl, kE f8 rfl, kE f9 rfl, kE f10 rfl, kE f11 rfl, kE f12 rfl, kE f13 rfl, kE f14 rfl, kE f15 rfl, kE f16 rfl, kE f17 rfl, kE f18 rfl, kE f19 rfl, kE f20 rfl, kE f21 rfl, kE f22 rfl, kE f23 rfl, kE f24 rfl, kE f25 rfl, fun h => by obtain hrl := f26 (by rw [← getD_set_ne true (show 2 ≠ 26 by decide)]; exact h); exact (by rw [upd_ne x _ (by decide)]; exact hrl), kE f27 rfl, kE f28 rfl, kE f29 rfl, kE f30 rfl, fun h => by obtain hrl := f31 (by rw [← getD_set_ne true (show 2 ≠ 31 by decide)]; exact h); exact (by rw [upd_ne x _ (by decide)]; exact hrl), kE f32 rfl, fun h => by obtain hrl := f33 (by rw [← getD_set_ne true (show 2 ≠ 33 by decide)]; exact h); exact (by rw [upd_ne x _ (by decide)]; exact hrl), kE f34 rfl, kE f35 rfl, kE f36 rfl, kE f37 rfl, kE f38 rfl, fun h => by obtain hrl := f39 (by rw [← getD_set_ne true (show 2 ≠ 39 by decide)]; exact h); exact (by rw [upd_ne x _ (by decide)]; exact hrl), kE f40 rfl, kE f41 rfl, fun h => by obtain hrl := f42 (by rw [← getD_set_ne true (show 2 ≠ 42 by decide)]; exact h); exact (by rw [upd_ne x _ (by decide)]; exact hrl), kE f43 rfl, kE f44 rfl, kE f45 rfl, kE f46 rfl, kE f47 rfl, kE f48 rfl, kE f49 rfl, kE f50 rfl, kE f51 rfl, kE f52 rfl, kE f53 rfl, kE f54 rfl⟩⟩
    · have d1 := getD_ft (haf _ rfl ⟨1, .guard⟩ (by simp) rfl)
      have e94 : b.eval (.tmp 94) = .bool true := by rw [hbe, eval_in _ _ _ 1 (by decide) rfl (by rw [hz0]; decide)]; exact f1 d1
      have t94 : b.tmps[94]?.getD undef = .bool true := by have tv := e94; simpa only [Act.eval, Array.getD_eq_getD_getElem?] using tv
      have bq := hY2.below hBw hY2.lt
      have n_0 : w'.cell? ⟨b19, 0, none⟩ = some (.int .i64 y.id) := bq.cell 0
      have n_1 : w'.cell? ⟨b19, 1, none⟩ = some (.int .i64 y.fr) := bq.cell 1
      have n_2 : w'.cell? ⟨b19, 2, none⟩ = some (.int .i64 y.tn) := bq.cell 2
      have n_3 : w'.cell? ⟨b19, 3, none⟩ = some (.int .i64 y.op) := bq.cell 3
      have n_4 : w'.cell? ⟨b19, 4, none⟩ = some (.int .i64 y.en) := bq.cell 4
      have n_5 : w'.cell? ⟨b19, 5, none⟩ = some (.int .i64 y.ra) := bq.cell 5
      have n_6 : w'.cell? ⟨b19, 6, none⟩ = some (.int .i64 y.ow) := bq.cell 6
      have n_7 : w'.cell? ⟨b19, 7, none⟩ = some (.int .i64 y.ro) := bq.cell 7
      refine wpOp_runs_on (v := .agg #[.int .i64 y.id, .int .i64 y.fr, .int .i64 y.tn, .int .i64 y.op, .int .i64 y.en, .int .i64 y.ra, .int .i64 y.ow, .int .i64 y.ro]) rfl (wanted_on rfl rfl rfl t94) (by simp [execOp, go_sem, t19, n_0, n_1, n_2, n_3, n_4, n_5, n_6, n_7]) ⟨_, _, rfl, rfl, ⟨hBw, kE f0 rfl, kE f1 rfl, kE f2 rfl, fun _ => upd_same _ _ _, kE f4 rfl, kE f5 rfl, kE f6 rfl, kE f7 rfl, kE f8 rfl, kE f9 rfl, kE f10 rfl, kE f11 rfl, kE f12 rfl, kE f13 rfl, kE f14 rfl, kE f15 rfl, kE f16 rfl, kE f17 rfl, kE f18 rfl, kE f19 rfl, kE f20 rfl, kE f21 rfl, kE f22 rfl, kE f23 rfl, kE f24 rfl, kE f25 rfl, fun h => by obtain hrl := f26 (by rw [← getD_set_ne true (show 3 ≠ 26 by decide)]; exact h); exact (by rw [upd_ne x _ (by decide)]; exact hrl), kE f27 rfl, kE f28 rfl, kE f29 rfl, kE f30 rfl, fun h => by obtain hrl := f31 (by rw [← getD_set_ne true (show 3 ≠ 31 by decide)]; exact h); exact (by rw [upd_ne x _ (by decide)]; exact hrl), kE f32 rfl, fun h => by obtain hrl := f33 (by rw [← getD_set_ne true (show 3 ≠ 33 by decide)]; exact h); exact (by rw [upd_ne x _ (by decide)]; exact hrl), kE f34 rfl, kE f35 rfl, kE f36 rfl, kE f37 rfl, kE f38 rfl, fun h => by obtain hrl := f39 (by rw [← getD_set_ne true (show 3 ≠ 39 by decide)]; exact h); exact (by rw [upd_ne x _ (by decide)]; exact hrl), kE f40 rfl, kE f41 rfl, fun h => by obtain hrl := f42 (by rw [← getD_set_ne true (show 3 ≠ 42 by decide)]; exact h); exact (by rw [upd_ne x _ (by decide)]; exact hrl), kE f43 rfl, kE f44 rfl, kE f45 rfl, kE f46 rfl, kE f47 rfl, kE f48 rfl, kE f49 rfl, kE f50 rfl, kE f51 rfl, kE f52 rfl, kE f53 rfl, kE f54 rfl⟩⟩
    · have d1 := getD_ft (haf _ rfl ⟨1, .guard⟩ (by simp) rfl)
      have e94 : b.eval (.tmp 94) = .bool true := by rw [hbe, eval_in _ _ _ 1 (by decide) rfl (by rw [hz0]; decide)]; exact f1 d1
      have t94 : b.tmps[94]?.getD undef = .bool true := by have tv := e94; simpa only [Act.eval, Array.getD_eq_getD_getElem?] using tv
      have d2 := getD_ft (haf _ rfl ⟨2, .data⟩ (by simp) rfl)
      have e95 : b.eval (.tmp 95) = .agg #[.int .i64 y.id, .int .i64 y.fr, .int .i64 y.tn, .int .i64 y.op, .int .i64 y.en, .int .i64 y.ra, .int .i64 y.ow, .int .i64 y.ro] := by rw [hbe, eval_in _ _ _ 2 (by decide) rfl (by rw [hz0]; decide)]; exact f2 d2
      have t95 : b.tmps[95]?.getD undef = .agg #[.int .i64 y.id, .int .i64 y.fr, .int .i64 y.tn, .int .i64 y.op, .int .i64 y.en, .int .i64 y.ra, .int .i64 y.ow, .int .i64 y.ro] := by have tv := e95; simpa only [Act.eval, Array.getD_eq_getD_getElem?] using tv
      have d3 := getD_ft (haf _ rfl ⟨3, .data⟩ (by simp) rfl)
      have e96 : b.eval (.tmp 96) = .agg #[.int .i64 y.id, .int .i64 y.fr, .int .i64 y.tn, .int .i64 y.op, .int .i64 y.en, .int .i64 y.ra, .int .i64 y.ow, .int .i64 y.ro] := by rw [hbe, eval_in _ _ _ 3 (by decide) rfl (by rw [hz0]; decide)]; exact f3 d3
      have t96 : b.tmps[96]?.getD undef = .agg #[.int .i64 y.id, .int .i64 y.fr, .int .i64 y.tn, .int .i64 y.op, .int .i64 y.en, .int .i64 y.ra, .int .i64 y.ow, .int .i64 y.ro] := by have tv := e96; simpa only [Act.eval, Array.getD_eq_getD_getElem?] using tv
      refine wpOp_runs_on (v := .bool true) rfl (wanted_on rfl rfl rfl t94) (by simp [execOp, go_sem, t95, t96, hEY]) ⟨_, _, rfl, rfl, ⟨hBw, kE f0 rfl, kE f1 rfl, kE f2 rfl, kE f3 rfl, fun _ => upd_same _ _ _, kE f5 rfl, kE f6 rfl, kE f7 rfl, kE f8 rfl, kE f9 rfl, kE f10 rfl, kE f11 rfl, kE f12 rfl, kE f13 rfl, kE f14 rfl, kE f15 rfl, kE f16 rfl, kE f17 rfl, kE f18 rfl, kE f19 rfl, kE f20 rfl, kE f21 rfl, kE f22 rfl, kE f23 rfl, kE f24 rfl, kE f25 rfl, fun h => by obtain hrl := f26 (by rw [← getD_set_ne true (show 4 ≠ 26 by decide)]; exact h); exact (by rw [upd_ne x _ (by decide)]; exact hrl), kE f27 rfl, kE f28 rfl, kE f29 rfl, kE f30 rfl, fun h => by obtain hrl := f31 (by rw [← getD_set_ne true (show 4 ≠ 31 by decide)]; exact h); exact (by rw [upd_ne x _ (by decide)]; exact hrl), kE f32 rfl, fun h => by obtain hrl := f33 (by rw [← getD_set_ne true (show 4 ≠ 33 by decide)]; exact h); exact (by rw [upd_ne x _ (by decide)]; exact hrl), kE f34 rfl, kE f35 rfl, kE f36 rfl, kE f37 rfl, kE f38 rfl, fun h => by obtain hrl := f39 (by rw [← getD_set_ne true (show 4 ≠ 39 by decide)]; exact h); exact (by rw [upd_ne x _ (by decide)]; exact hrl), kE f40 rfl, kE f41 rfl, fun h => by obtain hrl := f42 (by rw [← getD_set_ne true (show 4 ≠ 42 by decide)]; exact h); exact (by rw [upd_ne x _ (by decide)]; exact hrl), kE f43 rfl, kE f44 rfl, kE f45 rfl, kE f46 rfl, kE f47 rfl, kE f48 rfl, kE f49 rfl, kE f50 rfl, kE f51 rfl, kE f52 rfl, kE f53 rfl, kE f54 rfl⟩⟩
    · have d1 := getD_ft (haf _ rfl ⟨1, .data⟩ (by simp) rfl)
      have e94 : b.eval (.tmp 94) = .bool true := by rw [hbe, eval_in _ _ _ 1 (by decide) rfl (by rw [hz0]; decide)]; exact f1 d1
      have t94 : b.tmps[94]?.getD undef = .bool true := by have tv := e94; simpa only [Act.eval, Array.getD_eq_getD_getElem?] using tv
      have d4 := getD_ft (haf _ rfl ⟨4, .data⟩ (by simp) rfl)
      have e97 : b.eval (.tmp 97) = .bool true := by rw [hbe, eval_in _ _ _ 4 (by decide) rfl (by rw [hz0]; decide)]; exact f4 d4
      have t97 : b.tmps[97]?.getD undef = .bool true := by have tv := e97; simpa only [Act.eval, Array.getD_eq_getD_getElem?] using tv
      refine wpOp_runs (v := .bool true) rfl rfl (by simp [execOp, go_sem, t94, t97]) ⟨_, _, rfl, rfl, ⟨hBw, kE f0 rfl, kE f1 rfl, kE f2 rfl, kE f3 rfl, kE f4 rfl, fun _ => upd_same _ _ _, kE f6 rfl, kE f7 rfl, kE f8 rfl, kE f9 rfl, kE f10 rfl, kE f11 rfl, kE f12 rfl, kE f13 rfl, kE f14 rfl, kE f15 rfl, kE f16 rfl, kE f17 rfl, kE f18 rfl, kE f19 rfl, kE f20 rfl, kE f21 rfl, kE f22 rfl, kE f23 rfl, kE f24 rfl, kE f25 rfl, fun h => by obtain hrl := f26 (by rw [← getD_set_ne true (show 5 ≠ 26 by decide)]; exact h); exact (by rw [upd_ne x _ (by decide)]; exact hrl), kE f27 rfl, kE f28 rfl, kE f29 rfl, kE f30 rfl, fun h => by obtain hrl := f31 (by rw [← getD_set_ne true (show 5 ≠ 31 by decide)]; exact h); exact (by rw [upd_ne x _ (by decide)]; exact hrl), kE f32 rfl, fun h => by obtain hrl := f33 (by rw [← getD_set_ne true (show 5 ≠ 33 by decide)]; exact h); exact (by rw [upd_ne x _ (by decide)]; exact hrl), kE f34 rfl, kE f35 rfl, kE f36 rfl, kE f37 rfl, kE f38 rfl, fun h => by obtain hrl := f39 (by rw [← getD_set_ne true (show 5 ≠ 39 by decide)]; exact h); exact (by rw [upd_ne x _ (by decide)]; exact hrl), kE f40 rfl, kE f41 rfl, fun h => by obtain hrl := f42 (by rw [← getD_set_ne true (show 5 ≠ 42 by decide)]; exact h); exact (by rw [upd_ne x _ (by decide)]; exact hrl), kE f43 rfl, kE f44 rfl, kE f45 rfl, kE f46 rfl, kE f47 rfl, kE f48 rfl, kE f49 rfl, kE f50 rfl, kE f51 rfl, kE f52 rfl, kE f53 rfl, kE f54 rfl⟩⟩
    · have d5 := getD_ft (haf _ rfl ⟨5, .data⟩ (by simp) rfl)
      have e98 : b.eval (.tmp 98) = .bool true := by rw [hbe, eval_in _ _ _ 5 (by decide) rfl (by rw [hz0]; decide)]; exact f5 d5
      have t98 : b.tmps[98]?.getD undef = .bool true := by have tv := e98; simpa only [Act.eval, Array.getD_eq_getD_getElem?] using tv
      refine wpOp_runs (v := .bool true) rfl rfl (by simp [execOp, go_sem, t98]) ⟨_, _, rfl, rfl, ⟨hBw, kE f0 rfl, kE f1 rfl, kE f2 rfl, kE f3 rfl, kE f4 rfl, kE f5 rfl, fun _ => upd_same _ _ _, kE f7 rfl, kE f8 rfl, kE f9 rfl, kE f10 rfl, kE f11 rfl, kE f12 rfl, kE f13 rfl, kE f14 rfl, kE f15 rfl, kE f16 rfl, kE f17 rfl, kE f18 rfl, kE f19 rfl, kE f20 rfl, kE f21 rfl, kE f22 rfl, kE f23 rfl, kE f24 rfl, kE f25 rfl, fun h => by obtain hrl := f26 (by rw [← getD_set_ne true (show 6 ≠ 26 by decide)]; exact h); exact (by rw [upd_ne x _ (by decide)]; exact hrl), kE f27 rfl, kE f28 rfl, kE f29 rfl, kE f30 rfl, fun h => by obtain hrl := f31 (by rw [← getD_set_ne true (show 6 ≠ 31 by decide)]; exact h); exact (by rw [upd_ne x _ (by decide)]; exact hrl), kE f32 rfl, fun h => by obtain hrl := f33 (by rw [← getD_set_ne true (show 6 ≠ 33 by decide)]; exact h); exact (by rw [upd_ne x _ (by decide)]; exact hrl), kE f34 rfl, kE f35 rfl, kE f36 rfl, kE f37 rfl, kE f38 rfl, fun h => by obtain hrl := f39 (by rw [← getD_set_ne true (show 6 ≠ 39 by decide)]; exact h); exact (by rw [upd_ne x _ (by decide)]; exact hrl), kE f40 rfl, kE f41 rfl, fun h => by obtain hrl := f42 (by rw [← getD_set_ne true (show 6 ≠ 42 by decide)]; exact h); exact (by rw [upd_ne x _ (by decide)]; exact hrl), kE f43 rfl, kE f44 rfl, kE f45 rfl, kE f46 rfl, kE f47 rfl, kE f48 rfl, kE f49 rfl, kE f50 rfl, kE f51 rfl, kE f52 rfl, kE f53 rfl, kE f54 rfl⟩⟩
    · have d6 := getD_ft (haf _ rfl ⟨6, .guard⟩ (by simp) rfl)
      have e99 : b.eval (.tmp 99) = .bool true := by rw [hbe, eval_in _ _ _ 6 (by decide) rfl (by rw [hz0]; decide)]; exact f6 d6
      have t99 : b.tmps[99]?.getD undef = .bool true := by have tv := e99; simpa only [Act.eval, Array.getD_eq_getD_getElem?] using tv
      refine wpOp_runs_on (v := .bool ob) rfl (wanted_on rfl rfl rfl t99) (by simp [execOp, go_sem, t18]) ⟨_, _, rfl, rfl, ⟨hBw, kE f0 rfl, kE f1 rfl, kE f2 rfl, kE f3 rfl, kE f4 rfl, kE f5 rfl, kE f6 rfl, fun _ => upd_same _ _ _, kE f8 rfl, kE f9 rfl, kE f10 rfl, kE f11 rfl, kE f12 rfl, kE f13 rfl, kE f14 rfl, kE f15 rfl, kE f16 rfl, kE f17 rfl, kE f18 rfl, kE f19 rfl, kE f20 rfl, kE f21 rfl, kE f22 rfl, kE f23 rfl, kE f24 rfl, kE f25 rfl, fun h => by obtain hrl := f26 (by rw [← getD_set_ne true (show 7 ≠ 26 by decide)]; exact h); exact (by rw [upd_ne x _ (by decide)]; exact hrl), kE f27 rfl, kE f28 rfl, kE f29 rfl, kE f30 rfl, fun h => by obtain hrl := f31 (by rw [← getD_set_ne true (show 7 ≠ 31 by decide)]; exact h); exact (by rw [upd_ne x _ (by decide)]; exact hrl), kE f32 rfl, fun h => by obtain hrl := f33 (by rw [← getD_set_ne true (show 7 ≠ 33 by decide)]; exact h); exact (by rw [upd_ne x _ (by decide)]; exact hrl), kE f34 rfl, kE f35 rfl, kE f36 rfl, kE f37 rfl, kE f38 rfl, fun h => by obtain hrl := f39 (by rw [← getD_set_ne true (show 7 ≠ 39 by decide)]; exact h); exact (by rw [upd_ne x _ (by decide)]; exact hrl), kE f40 rfl, kE f41 rfl, fun h => by obtain hrl := f42 (by rw [← getD_set_ne true (show 7 ≠ 42 by decide)]; exact h); exact (by rw [upd_ne x _ (by decide)]; exact hrl), kE f43 rfl, kE f44 rfl, kE f45 rfl, kE f46 rfl, kE f47 rfl, kE f48 rfl, kE f49 rfl, kE f50 rfl, kE f51 rfl, kE f52 rfl, kE f53 rfl, kE f54 rfl⟩⟩
    · have d6 := getD_ft (haf _ rfl ⟨6, .guard⟩ (by simp) rfl)
      have e99 : b.eval (.tmp 99) = .bool true := by rw [hbe, eval_in _ _ _ 6 (by decide) rfl (by rw [hz0]; decide)]; exact f6 d6
      have t99 : b.tmps[99]?.getD undef = .bool true := by have tv := e99; simpa only [Act.eval, Array.getD_eq_getD_getElem?] using tv
      refine wpOp_runs_on (v := .bool ob) rfl (wanted_on rfl rfl rfl t99) (by simp [execOp, go_sem, t20]) ⟨_, _, rfl, rfl, ⟨hBw, kE f0 rfl, kE f1 rfl, kE f2 rfl, kE f3 rfl, kE f4 rfl, kE f5 rfl, kE f6 rfl, kE f7 rfl, fun _ => upd_same _ _ _, kE f9 rfl, kE f10 rfl, kE f11 rfl, kE f12 rfl, kE f13 rfl, kE f14 rfl, kE f15 rfl, kE f16 rfl, kE f17 rfl, kE f18 rfl, kE f19 rfl, kE f20 rfl, kE f21 rfl, kE f22 rfl, kE f23 rfl, kE f24 rfl, kE f25 rfl, fun h => by obtain hrl := f26 (by rw [← getD_set_ne true (show 8 ≠ 26 by decide)]; exact h); exact (by rw [upd_ne x _ (by decide)]; exact hrl), kE f27 rfl, kE f28 rfl, kE f29 rfl, kE f30 rfl, fun h => by obtain hrl := f31 (by rw [← getD_set_ne true (show 8 ≠ 31 by decide)]; exact h); exact (by rw [upd_ne x _ (by decide)]; exact hrl), kE f32 rfl, fun h => by obtain hrl := f33 (by rw [← getD_set_ne true (show 8 ≠ 33 by decide)]; exact h); exact (by rw [upd_ne x _ (by decide)]; exact hrl), kE f34 rfl, kE f35 rfl, kE f36 rfl, kE f37 rfl, kE f38 rfl, fun h => by obtain hrl := f39 (by rw [← getD_set_ne true (show 8 ≠ 39 by decide)]; exact h); exact (by rw [upd_ne x _ (by decide)]; exact hrl), kE f40 rfl, kE f41 rfl, fun h => by obtain hrl := f42 (by rw [← getD_set_ne true (show 8 ≠ 42 by decide)]; exact h); exact (by rw [upd_ne x _ (by decide)]; exact hrl), kE f43 rfl, kE f44 rfl, kE f45 rfl, kE f46 rfl, kE f47 rfl, kE f48 rfl, kE f49 rfl, kE f50 rfl, kE f51 rfl, kE f52 rfl, kE f53 rfl, kE f54 rfl⟩⟩
    · have d6 := getD_ft (haf _ rfl ⟨6, .guard⟩ (by simp) rfl)
      have e99 : b.eval (.tmp 99) = .bool true := by rw [hbe, eval_in _ _ _ 6 (by decide) rfl (by rw [hz0]; decide)]; exact f6 d6
      have t99 : b.tmps[99]?.getD undef = .bool true := by have tv := e99; simpa only [Act.eval, Array.getD_eq_getD_getElem?] using tv
      have d7 := getD_ft (haf _ rfl ⟨7, .data⟩ (by simp) rfl)
      have e100 : b.eval (.tmp 100) = .bool ob := by rw [hbe, eval_in _ _ _ 7 (by decide) rfl (by rw [hz0]; decide)]; exact f7 d7
      have t100 : b.tmps[100]?.getD undef = .bool ob := by have tv := e100; simpa only [Act.eval, Array.getD_eq_getD_getElem?] using tv
      have d8 := getD_ft (haf _ rfl ⟨8, .data⟩ (by simp) rfl)
      have e101 : b.eval (.tmp 101) = .bool ob := by rw [hbe, eval_in _ _ _ 8 (by decide) rfl (by rw [hz0]; decide)]; exact f8 d8
      have t101 : b.tmps[101]?.getD undef = .bool ob := by have tv := e101; simpa only [Act.eval, Array.getD_eq_getD_getElem?] using tv
      refine wpOp_runs_on (v := .bool true) rfl (wanted_on rfl rfl rfl t99) (by simp [execOp, go_sem, t100, t101, hBO]) ⟨_, _, rfl, rfl, ⟨hBw, kE f0 rfl, kE f1 rfl, kE f2 rfl, kE f3 rfl, kE f4 rfl, kE f5 rfl, kE f6 rfl, kE f7 rfl, kE f8 rfl, fun _ => upd_same _ _ _, kE f10 rfl, kE f11 rfl, kE f12 rfl, kE f13 rfl, kE f14 rfl, kE f15 rfl, kE f16 rfl, kE f17 rfl, kE f18 rfl, kE f19 rfl, kE f20 rfl, kE f21 rfl, kE f22 rfl, kE f23 rfl, kE f24 rfl, kE f25 rfl, fun h => by obtain hrl := f26 (by rw [← getD_set_ne true (show 9 ≠ 26 by decide)]; exact h); exact (by rw [upd_ne x _ (by decide)]; exact hrl), kE f27 rfl, kE f28 rfl, kE f29 rfl, kE f30 rfl, fun h => by obtain hrl := f31 (by rw [← getD_set_ne true (show 9 ≠ 31 by decide)]; exact h); exact (by rw [upd_ne x _ (by decide)]; exact hrl), kE f32 rfl, fun h => by obtain hrl := f33 (by rw [← getD_set_ne true (show 9 ≠ 33 by decide)]; exact h); exact (by rw [upd_ne x _ (by decide)]; exact hrl), kE f34 rfl, kE f35 rfl, kE f36 rfl, kE f37 rfl, kE f38 rfl, fun h => by obtain hrl := f39 (by rw [← getD_set_ne true (show 9 ≠ 39 by decide)]; exact h); exact (by rw [upd_ne x _ (by decide)]; exact hrl), kE f40 rfl, kE f41 rfl, fun h => by obtain hrl := f42 (by rw [← getD_set_ne true (show 9 ≠ 42 by decide)]; exact h); exact (by rw [upd_ne x _ (by decide)]; exact hrl), kE f43 rfl, kE f44 rfl, kE f45 rfl, kE f46 rfl, kE f47 rfl, kE f48 rfl, kE f49 rfl, kE f50 rfl, kE f51 rfl, kE f52 rfl, kE f53 rfl, kE f54 rfl⟩⟩
    · have d6 := getD_ft (haf _ rfl ⟨6, .data⟩ (by simp) rfl)
      have e99 : b.eval (.tmp 99) = .bool true := by rw [hbe, eval_in _ _ _ 6 (by decide) rfl (by rw [hz0]; decide)]; exact f6 d6
      have t99 : b.tmps[99]?.getD undef = .bool true := by have tv := e99; simpa only [Act.eval, Array.getD_eq_getD_getElem?] using tv
      have d9 := getD_ft (haf _ rfl ⟨9, .data⟩ (by simp) rfl)
      have e102 : b.eval (.tmp 102) = .bool true := by rw [hbe, eval_in _ _ _ 9 (by decide) rfl (by rw [hz0]; decide)]; exact f9 d9
      have t102 : b.tmps[102]?.getD undef = .bool true := by have tv := e102; simpa only [Act.eval, Array.getD_eq_getD_getElem?] using tv
      refine wpOp_runs (v := .bool true) rfl rfl (by simp [execOp, go_sem, t99, t102]) ⟨_, _, rfl, rfl, ⟨hBw, kE f0 rfl, kE f1 rfl, kE f2 rfl, kE f3 rfl, kE f4 rfl, kE f5 rfl, kE f6 rfl, kE f7 rfl, kE f8 rfl, kE f9 rfl, fun _ => upd_same _ _ _, kE f11 rfl, kE f12 rfl, kE f13 rfl, kE f14 rfl, kE f15 rfl, kE f16 rfl, kE f17 rfl, kE f18 rfl, kE f19 rfl, kE f20 rfl, kE f21 rfl, kE f22 rfl, kE f23 rfl, kE f24 rfl, kE f25 rfl, fun h => by obtain hrl := f26 (by rw [← getD_set_ne true (show 10 ≠ 26 by decide)]; exact h); exact (by rw [upd_ne x _ (by decide)]; exact hrl), kE f27 rfl, kE f28 rfl, kE f29 rfl, kE f30 rfl, fun h => by obtain hrl := f31 (by rw [← getD_set_ne true (show 10 ≠ 31 by decide)]; exact h); exact (by rw [upd_ne x _ (by decide)]; exact hrl), kE f32 rfl, fun h => by obtain hrl := f33 (by rw [← getD_set_ne true (show 10 ≠ 33 by decide)]; exact h); exact (by rw [upd_ne x _ (by decide)]; exact hrl), kE f34 rfl, kE f35 rfl, kE f36 rfl, kE f37 rfl, kE f38 rfl, fun h => by obtain hrl := f39 (by rw [← getD_set_ne true (show 10 ≠ 39 by decide)]; exact h); exact (by rw [upd_ne x _ (by decide)]; exact hrl), kE f40 rfl, kE f41 rfl, fun h => by obtain hrl := f42 (by rw [← getD_set_ne true (show 10 ≠ 42 by decide)]; exact h); exact (by rw [upd_ne x _ (by decide)]; exact hrl), kE f43 rfl, kE f44 rfl, kE f45 rfl, kE f46 rfl, kE f47 rfl, kE f48 rfl, kE f49 rfl, kE f50 rfl, kE f51 rfl, kE f52 rfl, kE f53 rfl, kE f54 rfl⟩⟩
    · have d10 := getD_ft (haf _ rfl ⟨10, .data⟩ (by simp) rfl)
      have e103 : b.eval (.tmp 103) = .bool true := by rw [hbe, eval_in _ _ _ 10 (by decide) rfl (by rw [hz0]; decide)]; exact f10 d10
      have t103 : b.tmps[103]?.getD undef = .bool true := by have tv := e103; simpa only [Act.eval, Array.getD_eq_getD_getElem?] using tv
      refine wpOp_runs (v := .bool true) rfl rfl (by simp [execOp, go_sem, t103]) ⟨_, _, rfl, rfl, ⟨hBw, kE f0 rfl, kE f1 rfl, kE f2 rfl, kE f3 rfl, kE f4 rfl, kE f5 rfl, kE f6 rfl, kE f7 rfl, kE f8 rfl, kE f9 rfl, kE f10 rfl, fun _ => upd_same _ _ _, kE f12 rfl, kE f13 rfl, kE f14 rfl, kE f15 rfl, kE f16 rfl, kE f17 rfl, kE f18 rfl, kE f19 rfl, kE f20 rfl, kE f21 rfl, kE f22 rfl, kE f23 rfl, kE f24 rfl, kE f25 rfl, fun h => by obtain hrl := f26 (by rw [← getD_set_ne true (show 11 ≠ 26 by decide)]; exact h); exact (by rw [upd_ne x _ (by decide)]; exact hrl), kE f27 rfl, kE f28 rfl, kE f29 rfl, kE f30 rfl, fun h => by obtain hrl := f31 (by rw [← getD_set_ne true (show 11 ≠ 31 by decide)]; exact h); exact (by rw [upd_ne x _ (by decide)]; exact hrl), kE f32 rfl, fun h => by obtain hrl := f33 (by rw [← getD_set_ne true (show 11 ≠ 33 by decide)]; exact h); exact (by rw [upd_ne x _ (by decide)]; exact hrl), kE f34 rfl, kE f35 rfl, kE f36 rfl, kE f37 rfl, kE f38 rfl, fun h => by obtain hrl := f39 (by rw [← getD_set_ne true (show 11 ≠ 39 by decide)]; exact h); exact (by rw [upd_ne x _ (by decide)]; exact hrl), kE f40 rfl, kE f41 rfl, fun h => by obtain hrl := f42 (by rw [← getD_set_ne true (show 11 ≠ 42 by decide)]; exact h); exact (by rw [upd_ne x _ (by decide)]; exact hrl), kE f43 rfl, kE f44 rfl, kE f45 rfl, kE f46 rfl, kE f47 rfl, kE f48 rfl, kE f49 rfl, kE f50 rfl, kE f51 rfl, kE f52 rfl, kE f53 rfl, kE f54 rfl⟩⟩
    · have d11 := getD_ft (haf _ rfl ⟨11, .guard⟩ (by simp) rfl)
      have e104 : b.eval (.tmp 104) = .bool true := by rw [hbe, eval_in _ _ _ 11 (by decide) rfl (by rw [hz0]; decide)]; exact f11 d11
      have t104 : b.tmps[104]?.getD undef = .bool true := by have tv := e104; simpa only [Act.eval, Array.getD_eq_getD_getElem?] using tv
      have bq := hY3.below hBw hY3.lt
      have n_0 : w'.cell? ⟨b21, 0, none⟩ = some (.int .i64 z.id) := bq.cell 0
      have n_1 : w'.cell? ⟨b21, 1, none⟩ = some (.int .i64 z.fr) := bq.cell 1
      have n_2 : w'.cell? ⟨b21, 2, none⟩ = some (.int .i64 z.tn) := bq.cell 2
      have n_3 : w'.cell? ⟨b21, 3, none⟩ = some (.int .i64 z.op) := bq.cell 3
      have n_4 : w'.cell? ⟨b21, 4, none⟩ = some (.int .i64 z.en) := bq.cell 4
      have n_5 : w'.cell? ⟨b21, 5, none⟩ = some (.int .i64 z.ra) := bq.cell 5
      have n_6 : w'.cell? ⟨b21, 6, none⟩ = some (.int .i64 z.ow) := bq.cell 6
      have n_7 : w'.cell? ⟨b21, 7, none⟩ = some (.int .i64 z.ro) := bq.cell 7
      refine wpOp_runs_on (v := .agg #[.int .i64 z.id, .int .i64 z.fr, .int .i64 z.tn, .int .i64 z.op, .int .i64 z.en, .int .i64 z.ra, .int .i64 z.ow, .int .i64 z.ro]) rfl (wanted_on rfl rfl rfl t104) (by simp [execOp, go_sem, t21, n_0, n_1, n_2, n_3, n_4, n_5, n_6, n_7]) ⟨_, _, rfl, rfl, ⟨hBw, kE f0 rfl, kE f1 rfl, kE f2 rfl, kE f3 rfl, kE f4 rfl, kE f5 rfl, kE f6 rfl, kE f7 rfl, kE f8 rfl, kE f9 rfl, kE f10 rfl, kE f11 rfl, fun _ => upd_same _ _ _, kE f13 rfl, kE f14 rfl, kE f15 rfl, kE f16 rfl, kE f17 rfl, kE f18 rfl, kE f19 rfl, kE f20 rfl, kE f21 rfl, kE f22 rfl, kE f23 rfl, kE f24 rfl, kE f25 rfl, fun h => by obtain hrl := f26 (by rw [← getD_set_ne true (show 12 ≠ 26 by decide)]; exact h); exact (by rw [upd_ne x _ (by decide)]; exact hrl), kE f27 rfl, kE f28 rfl, kE f29 rfl, kE f30 rfl, fun h => by obtain hrl := f31 (by rw [← getD_set_ne true (show 12 ≠ 31 by decide)]; exact h); exact (by rw [upd_ne x _ (by decide)]; exact hrl), kE f32 rfl, fun h => by obtain hrl := f33 (by rw [← getD_set_ne true (show 12 ≠ 33 by decide)]; exact h); exact (by rw [upd_ne x _ (by decide)]; exact hrl), kE f34 rfl, kE f35 rfl, kE f36 rfl, kE f37 rfl, kE f38 rfl, fun h => by obtain hrl := f39 (by rw [← getD_set_ne true (show 12 ≠ 39 by decide)]; exact h); exact (by rw [upd_ne x _ (by decide)]; exact hrl), kE f40 rfl, kE f41 rfl, fun h => by obtain hrl := f42 (by rw [← getD_set_ne true (show 12 ≠ 42 by decide)]; exact h); exact (by rw [upd_ne x _ (by decide)]; exact hrl), kE f43 rfl, kE f44 rfl, kE f45 rfl, kE f46 rfl, kE f47 rfl, kE f48 rfl, kE f49 rfl, kE f50 rfl, kE f51 rfl, kE f52 rfl, kE f53 rfl, kE f54 rfl⟩⟩
    · have d11 := getD_ft (haf _ rfl ⟨11, .guard⟩ (by simp) rfl)
      have e104 : b.eval (.tmp 104) = .bool true := by rw [hbe, eval_in _ _ _ 11 (by decide) rfl (by rw [hz0]; decide)]; exact f11 d11
      have t104 : b.tmps[104]?.getD undef = .bool true := by have tv := e104; simpa only [Act.eval, Array.getD_eq_getD_getElem?] using tv
      have bq := hY4.below hBw hY4.lt
      have n_0 : w'.cell? ⟨b23, 0, none⟩ = some (.int .i64 z.id) := bq.cell 0
      have n_1 : w'.cell? ⟨b23, 1, none⟩ = some (.int .i64 z.fr) := bq.cell 1
      have n_2 : w'.cell? ⟨b23, 2, none⟩ = some (.int .i64 z.tn) := bq.cell 2
      have n_3 : w'.cell? ⟨b23, 3, none⟩ = some (.int .i64 z.op) := bq.cell 3
      have n_4 : w'.cell? ⟨b23, 4, none⟩ = some (.int .i64 z.en) := bq.cell 4
      have n_5 : w'.cell? ⟨b23, 5, none⟩ = some (.int .i64 z.ra) := bq.cell 5
      have n_6 : w'.cell? ⟨b23, 6, none⟩ = some (.int .i64 z.ow) := bq.cell 6
      have n_7 : w'.cell? ⟨b23, 7, none⟩ = some (.int .i64 z.ro) := bq.cell 7
      refine wpOp_runs_on (v := .agg #[.int .i64 z.id, .int .i64 z.fr, .int .i64 z.tn, .int .i64 z.op, .int .i64 z.en, .int .i64 z.ra, .int .i64 z.ow, .int .i64 z.ro]) rfl (wanted_on rfl rfl rfl t104) (by simp [execOp, go_sem, t23, n_0, n_1, n_2, n_3, n_4, n_5, n_6, n_7]) ⟨_, _, rfl, rfl, ⟨hBw, kE f0 rfl, kE f1 rfl, kE f2 rfl, kE f3 rfl, kE f4 rfl, kE f5 rfl, kE f6 rfl, kE f7 rfl, kE f8 rfl, kE f9 rfl, kE f10 rfl, kE f11 rfl, kE f12 rfl, fun _ => upd_same _ _ _, kE f14 rfl, kE f15 rfl, kE f16 rfl, kE f17 rfl, kE f18 rfl, kE f19 rfl, kE f20 rfl, kE f21 rfl, kE f22 rfl, kE f23 rfl, kE f24 rfl, kE f25 rfl, fun h => by obtain hrl := f26 (by rw [← getD_set_ne true (show 13 ≠ 26 by decide)]; exact h); exact (by rw [upd_ne x _ (by decide)]; exact hrl), kE f27 rfl, kE f28 rfl, kE f29 rfl, kE f30 rfl, fun h => by obtain hrl := f31 (by rw [← getD_set_ne true (show 13 ≠ 31 by decide)]; exact h); exact (by rw [upd_ne x _ (by decide)]; exact hrl), kE f32 rfl, fun h => by obtain hrl := f33 (by rw [← getD_set_ne true (show 13 ≠ 33 by decide)]; exact h); exact (by rw [upd_ne x _ (by decide)]; exact hrl), kE f34 rfl, kE f35 rfl, kE f36 rfl, kE f37 rfl, kE f38 rfl, fun h => by obtain hrl := f39 (by rw [← getD_set_ne true (show 13 ≠ 39 by decide)]; exact h); exact (by rw [upd_ne x _ (by decide)]; exact hrl), kE f40 rfl, kE f41 rfl, fun h => by obtain hrl := f42 (by rw [← getD_set_ne true (show 13 ≠ 42 by decide)]; exact h); exact (by rw [upd_ne x _ (by decide)]; exact hrl), kE f43 rfl, kE f44 rfl, kE f45 rfl, kE f46 rfl, kE f47 rfl, kE f48 rfl, kE f49 rfl, kE f50 rfl, kE f51 rfl, kE f52 rfl, kE f53 rfl, kE f54 rfl⟩⟩
    · have d11 := getD_ft (haf _ rfl ⟨11, .guard⟩ (by simp) rfl)
      have e104 : b.eval (.tmp 104) = .bool true := by rw [hbe, eval_in _ _ _ 11 (by decide) rfl (by rw [hz0]; decide)]; exact f11 d11
      have t104 : b.tmps[104]?.getD undef = .bool true := by have tv := e104; simpa only [Act.eval, Array.getD_eq_getD_getElem?] using tv
      have d12 := getD_ft (haf _ rfl ⟨12, .data⟩ (by simp) rfl)
      have e105 : b.eval (.tmp 105) = .agg #[.int .i64 z.id, .int .i64 z.fr, .int .i64 z.tn, .int .i64 z.op, .int .i64 z.en, .int .i64 z.ra, .int .i64 z.ow, .int .i64 z.ro] := by rw [hbe, eval_in _ _ _ 12 (by decide) rfl (by rw [hz0]; decide)]; exact f12 d12
      have t105 : b.tmps[105]?.getD undef = .agg #[.int .i64 z.id, .int .i64 z.fr, .int .i64 z.tn, .int .i64 z.op, .int .i64 z.en, .int .i64 z.ra, .int .i64 z.ow, .int .i64 z.ro] := by have tv := e105; simpa only [Act.eval, Array.getD_eq_getD_getElem?] using tv
      have d13 := getD_ft (haf _ rfl ⟨13, .data⟩ (by simp) rfl)
      have e106 : b.eval (.tmp 106) = .agg #[.int .i64 z.id, .int .i64 z.fr, .int .i64 z.tn, .int .i64 z.op, .int .i64 z.en, .int .i64 z.ra, .int .i64 z.ow, .int .i64 z.ro] := by rw [hbe, eval_in _ _ _ 13 (by decide) rfl (by rw [hz0]; decide)]; exact f13 d13
      have t106 : b.tmps[106]?.getD undef = .agg #[.int .i64 z.id, .int .i64 z.fr, .int .i64 z.tn, .int .i64 z.op, .int .i64 z.en, .int .i64 z.ra, .int .i64 z.ow, .int .i64 z.ro] := by have tv := e106; simpa only [Act.eval, Array.getD_eq_getD_getElem?] using tv
      refine wpOp_runs_on (v := .bool true) rfl (wanted_on rfl rfl rfl t104) (by simp [execOp, go_sem, t105, t106, hEZ]) ⟨_, _, rfl, rfl, ⟨hBw, kE f0 rfl, kE f1 rfl, kE f2 rfl, kE f3 rfl, kE f4 rfl, kE f5 rfl, kE f6 rfl, kE f7 rfl, kE f8 rfl, kE f9 rfl, kE f10 rfl, kE f11 rfl, kE f12 rfl, kE f13 rfl, fun _ => upd_same _ _ _, kE f15 rfl, kE f16 rfl, kE f17 rfl, kE f18 rfl, kE f19 rfl, kE f20 rfl, kE f21 rfl, kE f22 rfl, kE f23 rfl, kE f24 rfl, kE f25 rfl, fun h => by obtain hrl := f26 (by rw [← getD_set_ne true (show 14 ≠ 26 by decide)]; exact h); exact (by rw [upd_ne x _ (by decide)]; exact hrl), kE f27 rfl, kE f28 rfl, kE f29 rfl, kE f30 rfl, fun h => by obtain hrl := f31 (by rw [← getD_set_ne true (show 14 ≠ 31 by decide)]; exact h); exact (by rw [upd_ne x _ (by decide)]; exact hrl), kE f32 rfl, fun h => by obtain hrl := f33 (by rw [← getD_set_ne true (show 14 ≠ 33 by decide)]; exact h); exact (by rw [upd_ne x _ (by decide)]; exact hrl), kE f34 rfl, kE f35 rfl, kE f36 rfl, kE f37 rfl, kE f38 rfl, fun h => by obtain hrl := f39 (by rw [← getD_set_ne true (show 14 ≠ 39 by decide)]; exact h); exact (by rw [upd_ne x _ (by decide)]; exact hrl), kE f40 rfl, kE f41 rfl, fun h => by obtain hrl := f42 (by rw [← getD_set_ne true (show 14 ≠ 42 by decide)]; exact h); exact (by rw [upd_ne x _ (by decide)]; exact hrl), kE f43 rfl, kE f44 rfl, kE f45 rfl, kE f46 rfl, kE f47 rfl, kE f48 rfl, kE f49 rfl, kE f50 rfl, kE f51 rfl, kE f52 rfl, kE f53 rfl, kE f54 rfl⟩⟩
    · have d11 := getD_ft (haf _ rfl ⟨11, .data⟩ (by simp) rfl)
      have e104 : b.eval (.tmp 104) = .bool true := by rw [hbe, eval_in _ _ _ 11 (by decide) rfl (by rw [hz0]; decide)]; exact f11 d11
      have t104 : b.tmps[104]?.getD undef = .bool true := by have tv := e104; simpa only [Act.eval, Array.getD_eq_getD_getElem?] using tv
      have d14 := getD_ft (haf _ rfl ⟨14, .data⟩ (by simp) rfl)
      have e107 : b.eval (.tmp 107) = .bool true := by rw [hbe, eval_in _ _ _ 14 (by decide) rfl (by rw [hz0]; decide)]; exact f14 d14
      have t107 : b.tmps[107]?.getD undef = .bool true := by have tv := e107; simpa only [Act.eval, Array.getD_eq_getD_getElem?] using tv
      refine wpOp_runs (v := .bool true) rfl rfl (by simp [execOp, go_sem, t104, t107]) ⟨_, _, rfl, rfl, ⟨hBw, kE f0 rfl, kE f1 rfl, kE f2 rfl, kE f3 rfl, kE f4 rfl, kE f5 rfl, kE f6 rfl, kE f7 rfl, kE f8 rfl, kE f9 rfl, kE f10 rfl, kE f11 rfl, kE f12 rfl, kE f13 rfl, kE f14 rfl, fun _ => upd_same _ _ _, kE f16 rfl, kE f17 rfl, kE f18 rfl, kE f19 rfl, kE f20 rfl, kE f21 rfl, kE f22 rfl, kE f23 rfl, kE f24 rfl, kE f25 rfl, fun h => by obtain hrl := f26 (by rw [← getD_set_ne true (show 15 ≠ 26 by decide)]; exact h); exact (by rw [upd_ne x _ (by decide)]; exact hrl), kE f27 rfl, kE f28 rfl, kE f29 rfl, kE f30 rfl, fun h => by obtain hrl := f31 (by rw [← getD_set_ne true (show 15 ≠ 31 by decide)]; exact h); exact (by rw [upd_ne x _ (by decide)]; exact hrl), kE f32 rfl, fun h => by obtain hrl := f33 (by rw [← getD_set_ne true (show 15 ≠ 33 by decide)]; exact h); exact (by rw [upd_ne x _ (by decide)]; exact hrl), kE f34 rfl, kE f35 rfl, kE f36 rfl, kE f37 rfl, kE f38 rfl, fun h => by obtain hrl := f39 (by rw [← getD_set_ne true (show 15 ≠ 39 by decide)]; exact h); exact (by rw [upd_ne x _ (by decide)]; exact hrl), kE f40 rfl, kE f41 rfl, fun h => by obtain hrl := f42 (by rw [← getD_set_ne true (show 15 ≠ 42 by decide)]; exact h); exact (by rw [upd_ne x _ (by decide)]; exact hrl), kE f43 rfl, kE f44 rfl, kE f45 rfl, kE f46 rfl, kE f47 rfl, kE f48 rfl, kE f49 rfl, kE f50 rfl, kE f51 rfl, kE f52 rfl, kE f53 rfl, kE f54 rfl⟩⟩
    · have d15 := getD_ft (haf _ rfl ⟨15, .data⟩ (by simp) rfl)
      have e108 : b.eval (.tmp 108) = .bool true := by rw [hbe, eval_in _ _ _ 15 (by decide) rfl (by rw [hz0]; decide)]; exact f15 d15
      have t108 : b.tmps[108]?.getD undef = .bool true := by have tv := e108; simpa only [Act.eval, Array.getD_eq_getD_getElem?] using tv
      refine wpOp_runs (v := .bool true) rfl rfl (by simp [execOp, go_sem, t108]) ⟨_, _, rfl, rfl, ⟨hBw, kE f0 rfl, kE f1 rfl, kE f2 rfl, kE f3 rfl, kE f4 rfl, kE f5 rfl, kE f6 rfl, kE f7 rfl, kE f8 rfl, kE f9 rfl, kE f10 rfl, kE f11 rfl, kE f12 rfl, kE f13 rfl, kE f14 rfl, kE f15 rfl, fun _ => upd_same _ _ _, kE f17 rfl, kE f18 rfl, kE f19 rfl, kE f20 rfl, kE f21 rfl, kE f22 rfl, kE f23 rfl, kE f24 rfl, kE f25 rfl, fun h => by obtain hrl := f26 (by rw [← getD_set_ne true (show 16 ≠ 26 by decide)]; exact h); exact (by rw [upd_ne x _ (by decide)]; exact hrl), kE f27 rfl, kE f28 rfl, kE f29 rfl, kE f30 rfl, fun h => by obtain hrl := f31 (by rw [← getD_set_ne true (show 16 ≠ 31 by decide)]; exact h); exact (by rw [upd_ne x _ (by decide)]; exact hrl), kE f32 rfl, fun h => by obtain hrl := f33 (by rw [← getD_set_ne true (show 16 ≠ 33 by decide)]; exact h); exact (by rw [upd_ne x _ (by decide)]; exact hrl), kE f34 rfl, kE f35 rfl, kE f36 rfl, kE f37 rfl, kE f38 rfl, fun h => by obtain hrl := f39 (by rw [← getD_set_ne true (show 16 ≠ 39 by decide)]; exact h); exact (by rw [upd_ne x _ (by decide)]; exact hrl), kE f40 rfl, kE f41 rfl, fun h => by obtain hrl := f42 (by rw [← getD_set_ne true (show 16 ≠ 42 by decide)]; exact h); exact (by rw [upd_ne x _ (by decide)]; exact hrl), kE f43 rfl, kE f44 rfl, kE f45 rfl, kE f46 rfl, kE f47 rfl, kE f48 rfl, kE f49 rfl, kE f50 rfl, kE f51 rfl, kE f52 rfl, kE f53 rfl, kE f54 rfl⟩⟩
    · have d16 := getD_ft (haf _ rfl ⟨16, .guard⟩ (by simp) rfl)
      have e109 : b.eval (.tmp 109) = .bool true := by rw [hbe, eval_in _ _ _ 16 (by decide) rfl (by rw [hz0]; decide)]; exact f16 d16
      have t109 : b.tmps[109]?.getD undef = .bool true := by have tv := e109; simpa only [Act.eval, Array.getD_eq_getD_getElem?] using tv
      refine wpOp_runs_on (v := .bool zb) rfl (wanted_on rfl rfl rfl t109) (by simp [execOp, go_sem, t22]) ⟨_, _, rfl, rfl, ⟨hBw, kE f0 rfl, kE f1 rfl, kE f2 rfl, kE f3 rfl, kE f4 rfl, kE f5 rfl, kE f6 rfl, kE f7 rfl, kE f8 rfl, kE f9 rfl, kE f10 rfl, kE f11 rfl, kE f12 rfl, kE f13 rfl, kE f14 rfl, kE f15 rfl, kE f16 rfl, fun _ => upd_same _ _ _, kE f18 rfl, kE f19 rfl, kE f20 rfl, kE f21 rfl, kE f22 rfl, kE f23 rfl, kE f24 rfl, kE f25 rfl, fun h => by obtain hrl := f26 (by rw [← getD_set_ne true (show 17 ≠ 26 by decide)]; exact h); exact (by rw [upd_ne x _ (by decide)]; exact hrl), kE f27 rfl, kE f28 rfl, kE f29 rfl, kE f30 rfl, fun h => by obtain hrl := f31 (by rw [← getD_set_ne true (show 17 ≠ 31 by decide)]; exact h); exact (by rw [upd_ne x _ (by decide)]; exact hrl), kE f32 rfl, fun h => by obtain hrl := f33 (by rw [← getD_set_ne true (show 17 ≠ 33 by decide)]; exact h); exact (by rw [upd_ne x _ (by decide)]; exact hrl), kE f34 rfl, kE f35 rfl, kE f36 rfl, kE f37 rfl, kE f38 rfl, fun h => by obtain hrl := f39 (by rw [← getD_set_ne true (show 17 ≠ 39 by decide)]; exact h); exact (by rw [upd_ne x _ (by decide)]; exact hrl), kE f40 rfl, kE f41 rfl, fun h => by obtain hrl := f42 (by rw [← getD_set_ne true (show 17 ≠ 42 by decide)]; exact h); exact (by rw [upd_ne x _ (by decide)]; exact hrl), kE f43 rfl, kE f44 rfl, kE f45 rfl, kE f46 rfl, kE f47 rfl, kE f48 rfl, kE f49 rfl, kE f50 rfl, kE f51 rfl, kE f52 rfl, kE f53 rfl, kE f54 rfl⟩⟩
    · have d16 := getD_ft (haf _ rfl ⟨16, .guard⟩ (by simp) rfl)
      have e109 : b.eval (.tmp 109) = .bool true := by rw [hbe, eval_in _ _ _ 16 (by decide) rfl (by rw [hz0]; decide)]; exact f16 d16
      have t109 : b.tmps[109]?.getD undef = .bool true := by have tv := e109; simpa only [Act.eval, Array.getD_eq_getD_getElem?] using tv
      refine wpOp_runs_on (v := .bool zb) rfl (wanted_on rfl rfl rfl t109) (by simp [execOp, go_sem, t24]) ⟨_, _, rfl, rfl, ⟨hBw, kE f0 rfl, kE f1 rfl, kE f2 rfl, kE f3 rfl, kE f4 rfl, kE f5 rfl, kE f6 rfl, kE f7 rfl, kE f8 rfl, kE f9 rfl, kE f10 rfl, kE f11 rfl, kE f12 rfl, kE f13 rfl, kE f14 rfl, kE f15 rfl, kE f16 rfl, kE f17 rfl, fun _ => upd_same _ _ _, kE f19 rfl, kE f20 rfl, kE f21 rfl, kE f22 rfl, kE f23 rfl, kE f24 rfl, kE f25 rfl, fun h => by obtain hrl := f26 (by rw [← getD_set_ne true (show 18 ≠ 26 by decide)]; exact h); exact (by rw [upd_ne x _ (by decide)]; exact hrl), kE f27 rfl, kE f28 rfl, kE f29 rfl, kE f30 rfl, fun h => by obtain hrl := f31 (by rw [← getD_set_ne true (show 18 ≠ 31 by decide)]; exact h); exact (by rw [upd_ne x _ (by decide)]; exact hrl), kE f32 rfl, fun h => by obtain hrl := f33 (by rw [← getD_set_ne true (show 18 ≠ 33 by decide)]; exact h); exact (by rw [upd_ne x _ (by decide)]; exact hrl), kE f34 rfl, kE f35 rfl, kE f36 rfl, kE f37 rfl, kE f38 rfl, fun h => by obtain hrl := f39 (by rw [← getD_set_ne true (show 18 ≠ 39 by decide)]; exact h); exact (by rw [upd_ne x _ (by decide)]; exact hrl), kE f40 rfl, kE f41 rfl, fun h => by obtain hrl := f42 (by rw [← getD_set_ne true (show 18 ≠ 42 by decide)]; exact h); exact (by rw [upd_ne x _ (by decide)]; exact hrl), kE f43 rfl, kE f44 rfl, kE f45 rfl, kE f46 rfl, kE f47 rfl, kE f48 rfl, kE f49 rfl, kE f50 rfl, kE f51 rfl, kE f52 rfl, kE f53 rfl, kE f54 rfl⟩⟩
    · have d16 := getD_ft (haf _ rfl ⟨16, .guard⟩ (by simp) rfl)
      have e109 : b.eval (.tmp 109) = .bool true := by rw [hbe, eval_in _ _ _ 16 (by decide) rfl (by rw [hz0]; decide)]; exact f16 d16
      have t109 : b.tmps[109]?.getD undef = .bool true := by have tv := e109; simpa only [Act.eval, Array.getD_eq_getD_getElem?] using tv
      have d17 := getD_ft (haf _ rfl ⟨17, .data⟩ (by simp) rfl)
      have e110 : b.eval (.tmp 110) = .bool zb := by rw [hbe, eval_in _ _ _ 17 (by decide) rfl (by rw [hz0]; decide)]; exact f17 d17
      have t110 : b.tmps[110]?.getD undef = .bool zb := by have tv := e110; simpa only [Act.eval, Array.getD_eq_getD_getElem?] using tv
      have d18 := getD_ft (haf _ rfl ⟨18, .data⟩ (by simp) rfl)
      have e111 : b.eval (.tmp 111) = .bool zb := by rw [hbe, eval_in _ _ _ 18 (by decide) rfl (by rw [hz0]; decide)]; exact f18 d18
      have t111 : b.tmps[111]?.getD undef = .bool zb := by have tv := e111; simpa only [Act.eval, Array.getD_eq_getD_getElem?] using tv
      refine wpOp_runs_on (v := .bool true) rfl (wanted_on rfl rfl rfl t109) (by simp [execOp, go_sem, t110, t111, hBZ]) ⟨_, _, rfl, rfl, ⟨hBw, kE f0 rfl, kE f1 rfl, kE f2 rfl, kE f3 rfl, kE f4 rfl, kE f5 rfl, kE f6 rfl, kE f7 rfl, kE f8 rfl, kE f9 rfl, kE f10 rfl, kE f11 rfl, kE f12 rfl, kE f13 rfl, kE f14 rfl, kE f15 rfl, kE f16 rfl, kE f17 rfl, kE f18 rfl, fun _ => upd_same _ _ _, kE f20 rfl, kE f21 rfl, kE f22 rfl, kE f23 rfl, kE f24 rfl, kE f25 rfl, fun h => by obtain hrl := f26 (by rw [← getD_set_ne true (show 19 ≠ 26 by decide)]; exact h); exact (by rw [upd_ne x _ (by decide)]; exact hrl), kE f27 rfl, kE f28 rfl, kE f29 rfl, kE f30 rfl, fun h => by obtain hrl := f31 (by rw [← getD_set_ne true (show 19 ≠ 31 by decide)]; exact h); exact (by rw [upd_ne x _ (by decide)]; exact hrl), kE f32 rfl, fun h => by obtain hrl := f33 (by rw [← getD_set_ne true (show 19 ≠ 33 by decide)]; exact h); exact (by rw [upd_ne x _ (by decide)]; exact hrl), kE f34 rfl, kE f35 rfl, kE f36 rfl, kE f37 rfl, kE f38 rfl, fun h => by obtain hrl := f39 (by rw [← getD_set_ne true (show 19 ≠ 39 by decide)]; exact h); exact (by rw [upd_ne x _ (by decide)]; exact hrl), kE f40 rfl, kE f41 rfl, fun h => by obtain hrl := f42 (by rw [← getD_set_ne true (show 19 ≠ 42 by decide)]; exact h); exact (by rw [upd_ne x _ (by decide)]; exact hrl), kE f43 rfl, kE f44 rfl, kE f45 rfl, kE f46 rfl, kE f47 rfl, kE f48 rfl, kE f49 rfl, kE f50 rfl, kE f51 rfl, kE f52 rfl, kE f53 rfl, kE f54 rfl⟩⟩
    · have d16 := getD_ft (haf _ rfl ⟨16, .data⟩ (by simp) rfl)
      have e109 : b.eval (.tmp 109) = .bool true := by rw [hbe, eval_in _ _ _ 16 (by decide) rfl (by rw [hz0]; decide)]; exact f16 d16
      have t109 : b.tmps[109]?.getD undef = .bool true := by have tv := e109; simpa only [Act.eval, Array.getD_eq_getD_getElem?] using tv
      have d19 := getD_ft (haf _ rfl ⟨19, .data⟩ (by simp) rfl)
      have e112 : b.eval (.tmp 112) = .bool true := by rw [hbe, eval_in _ _ _ 19 (by decide) rfl (by rw [hz0]; decide)]; exact f19 d19
      have t112 : b.tmps[112]?.getD undef = .bool true := by have tv := e112; simpa only [Act.eval, Array.getD_eq_getD_getElem?] using tv
      refine wpOp_runs (v := .bool true) rfl rfl (by simp [execOp, go_sem, t109, t112]) ⟨_, _, rfl, rfl, ⟨hBw, kE f0 rfl, kE f1 rfl, kE f2 rfl, kE f3 rfl, kE f4 rfl, kE f5 rfl, kE f6 rfl, kE f7 rfl, kE f8 rfl, kE f9 rfl, kE f10 rfl, kE f11 rfl, kE f12 rfl, kE f13 rfl, kE f14 rfl, kE f15 rfl, kE f16 rfl, kE f17 rfl, kE f18 rfl, kE f19 rfl, fun _ => upd_same _ _ _, kE f21 rfl, kE f22 rfl, kE f23 rfl, kE f24 rfl, kE f25 rfl, fun h => by obtain hrl := f26 (by rw [← getD_set_ne true (show 20 ≠ 26 by decide)]; exact h); exact (by rw [upd_ne x _ (by decide)]; exact hrl), kE f27 rfl, kE f28 rfl, kE f29 rfl, kE f30 rfl, fun h => by obtain hrl := f31 (by rw [← getD_set_ne true (show 20 ≠ 31 by decide)]; exact h); exact (by rw [upd_ne x _ (by decide)]; exact hrl), kE f32 rfl, fun h => by obtain hrl := f33 (by rw [← getD_set_ne true (show 20 ≠ 33 by decide)]; exact h); exact (by rw [upd_ne x _ (by decide)]; exact hrl), kE f34 rfl, kE f35 rfl, kE f36 rfl, kE f37 rfl, kE f38 rfl, fun h => by obtain hrl := f39 (by rw [← getD_set_ne true (show 20 ≠ 39 by decide)]; exact h); exact (by rw [upd_ne x _ (by decide)]; exact hrl), kE f40 rfl, kE f41 rfl, fun h => by obtain hrl := f42 (by rw [← getD_set_ne true (show 20 ≠ 42 by decide)]; exact h); exact (by rw [upd_ne x _ (by decide)]; exact hrl), kE f43 rfl, kE f44 rfl, kE f45 rfl, kE f46 rfl, kE f47 rfl, kE f48 rfl, kE f49 rfl, kE f50 rfl, kE f51 rfl, kE f52 rfl, kE f53 rfl, kE f54 rfl⟩⟩
    · have d20 := getD_ft (haf _ rfl ⟨20, .data⟩ (by simp) rfl)
      have e113 : b.eval (.tmp 113) = .bool true := by rw [hbe, eval_in _ _ _ 20 (by decide) rfl (by rw [hz0]; decide)]; exact f20 d20
      have t113 : b.tmps[113]?.getD undef = .bool true := by have tv := e113; simpa only [Act.eval, Array.getD_eq_getD_getElem?] using tv
      refine wpOp_runs (v := .bool true) rfl rfl (by simp [execOp, go_sem, t113]) ⟨_, _, rfl, rfl, ⟨hBw, kE f0 rfl, kE f1 rfl, kE f2 rfl, kE f3 rfl, kE f4 rfl, kE f5 rfl, kE f6 rfl, kE f7 rfl, kE f8 rfl, kE f9 rfl, kE f10 rfl, kE f11 rfl, kE f12 rfl, kE f13 rfl, kE f14 rfl, kE f15 rfl, kE f16 rfl, kE f17 rfl, kE f18 rfl, kE f19 rfl, kE f20 rfl, fun _ => upd_same _ _ _, kE f22 rfl, kE f23 rfl, kE f24 rfl, kE f25 rfl, fun h => by obtain hrl := f26 (by rw [← getD_set_ne true (show 21 ≠ 26 by decide)]; exact h); exact (by rw [upd_ne x _ (by decide)]; exact hrl), kE f27 rfl, kE f28 rfl, kE f29 rfl, kE f30 rfl, fun h => by obtain hrl := f31 (by rw [← getD_set_ne true (show 21 ≠ 31 by decide)]; exact h); exact (by rw [upd_ne x _ (by decide)]; exact hrl), kE f32 rfl, fun h => by obtain hrl := f33 (by rw [← getD_set_ne true (show 21 ≠ 33 by decide)]; exact h); exact (by rw [upd_ne x _ (by decide)]; exact hrl), kE f34 rfl, kE f35 rfl, kE f36 rfl, kE f37 rfl, kE f38 rfl, fun h => by obtain hrl := f39 (by rw [← getD_set_ne true (show 21 ≠ 39 by decide)]; exact h); exact (by rw [upd_ne x _ (by decide)]; exact hrl), kE f40 rfl, kE f41 rfl, fun h => by obtain hrl := f42 (by rw [← getD_set_ne true (show 21 ≠ 42 by decide)]; exact h); exact (by rw [upd_ne x _ (by decide)]; exact hrl), kE f43 rfl, kE f44 rfl, kE f45 rfl, kE f46 rfl, kE f47 rfl, kE f48 rfl, kE f49 rfl, kE f50 rfl, kE f51 rfl, kE f52 rfl, kE f53 rfl, kE f54 rfl⟩⟩
    · have d21 := getD_ft (haf _ rfl ⟨21, .guard⟩ (by simp) rfl)
      have e114 : b.eval (.tmp 114) = .bool true := by rw [hbe, eval_in _ _ _ 21 (by decide) rfl (by rw [hz0]; decide)]; exact f21 d21
      have t114 : b.tmps[114]?.getD undef = .bool true := by have tv := e114; simpa only [Act.eval, Array.getD_eq_getD_getElem?] using tv
      refine wpOp_runs_on (v := va) rfl (wanted_on rfl rfl rfl t114) (by simp [execOp, go_sem, t25]) ⟨_, _, rfl, rfl, ⟨hBw, kE f0 rfl, kE f1 rfl, kE f2 rfl, kE f3 rfl, kE f4 rfl, kE f5 rfl, kE f6 rfl, kE f7 rfl, kE f8 rfl, kE f9 rfl, kE f10 rfl, kE f11 rfl, kE f12 rfl, kE f13 rfl, kE f14 rfl, kE f15 rfl, kE f16 rfl, kE f17 rfl, kE f18 rfl, kE f19 rfl, kE f20 rfl, kE f21 rfl, fun _ => upd_same _ _ _, kE f23 rfl, kE f24 rfl, kE f25 rfl, fun h => by obtain hrl := f26 (by rw [← getD_set_ne true (show 22 ≠ 26 by decide)]; exact h); exact (by rw [upd_ne x _ (by decide)]; exact hrl), kE f27 rfl, kE f28 rfl, kE f29 rfl, kE f30 rfl, fun h => by obtain hrl := f31 (by rw [← getD_set_ne true (show 22 ≠ 31 by decide)]; exact h); exact (by rw [upd_ne x _ (by decide)]; exact hrl), kE f32 rfl, fun h => by obtain hrl := f33 (by rw [← getD_set_ne true (show 22 ≠ 33 by decide)]; exact h); exact (by rw [upd_ne x _ (by decide)]; exact hrl), kE f34 rfl, kE f35 rfl, kE f36 rfl, kE f37 rfl, kE f38 rfl, fun h => by obtain hrl := f39 (by rw [← getD_set_ne true (show 22 ≠ 39 by decide)]; exact h); exact (by rw [upd_ne x _ (by decide)]; exact hrl), kE f40 rfl, kE f41 rfl, fun h => by obtain hrl := f42 (by rw [← getD_set_ne true (show 22 ≠ 42 by decide)]; exact h); exact (by rw [upd_ne x _ (by decide)]; exact hrl), kE f43 rfl, kE f44 rfl, kE f45 rfl, kE f46 rfl, kE f47 rfl, kE f48 rfl, kE f49 rfl, kE f50 rfl, kE f51 rfl, kE f52 rfl, kE f53 rfl, kE f54 rfl⟩⟩
    · have d21 := getD_ft (haf _ rfl ⟨21, .guard⟩ (by simp) rfl)
      have e114 : b.eval (.tmp 114) = .bool true := by rw [hbe, eval_in _ _ _ 21 (by decide) rfl (by rw [hz0]; decide)]; exact f21 d21
      have t114 : b.tmps[114]?.getD undef = .bool true := by have tv := e114; simpa only [Act.eval, Array.getD_eq_getD_getElem?] using tv
      have bq := hP.below hBw hP.lt
      have n_0 : w'.cell? ⟨w.heap.size, 0, none⟩ = some (.slice A1 n1 c1) := bq.cell 0
      have n_1 : w'.cell? ⟨w.heap.size, 1, none⟩ = some (.slice A n c) := bq.cell 1
      have n_2 : w'.cell? ⟨w.heap.size, 2, none⟩ = some (.int .i64 clk) := bq.cell 2
      have n_3 : w'.cell? ⟨w.heap.size, 3, none⟩ = some (.int .i64 ver) := bq.cell 3
      refine wpOp_runs_on (v := .agg #[.slice A1 n1 c1, .slice A n c, .int .i64 clk, .int .i64 ver]) rfl (wanted_on rfl rfl rfl t114) (by simp [execOp, go_sem, t6, n_0, n_1, n_2, n_3]) ⟨_, _, rfl, rfl, ⟨hBw, kE f0 rfl, kE f1 rfl, kE f2 rfl, kE f3 rfl, kE f4 rfl, kE f5 rfl, kE f6 rfl, kE f7 rfl, kE f8 rfl, kE f9 rfl, kE f10 rfl, kE f11 rfl, kE f12 rfl, kE f13 rfl, kE f14 rfl, kE f15 rfl, kE f16 rfl, kE f17 rfl, kE f18 rfl, kE f19 rfl, kE f20 rfl, kE f21 rfl, kE f22 rfl, fun _ => upd_same _ _ _, kE f24 rfl, kE f25 rfl, fun h => by obtain hrl := f26 (by rw [← getD_set_ne true (show 23 ≠ 26 by decide)]; exact h); exact (by rw [upd_ne x _ (by decide)]; exact hrl), kE f27 rfl, kE f28 rfl, kE f29 rfl, kE f30 rfl, fun h => by obtain hrl := f31 (by rw [← getD_set_ne true (show 23 ≠ 31 by decide)]; exact h); exact (by rw [upd_ne x _ (by decide)]; exact hrl), kE f32 rfl, fun h => by obtain hrl := f33 (by rw [← getD_set_ne true (show 23 ≠ 33 by decide)]; exact h); exact (by rw [upd_ne x _ (by decide)]; exact hrl), kE f34 rfl, kE f35 rfl, kE f36 rfl, kE f37 rfl, kE f38 rfl, fun h => by obtain hrl := f39 (by rw [← getD_set_ne true (show 23 ≠ 39 by decide)]; exact h); exact (by rw [upd_ne x _ (by decide)]; exact hrl), kE f40 rfl, kE f41 rfl, fun h => by obtain hrl := f42 (by rw [← getD_set_ne true (show 23 ≠ 42 by decide)]; exact h); exact (by rw [upd_ne x _ (by decide)]; exact hrl), kE f43 rfl, kE f44 rfl, kE f45 rfl, kE f46 rfl, kE f47 rfl, kE f48 rfl, kE f49 rfl, kE f50 rfl, kE f51 rfl, kE f52 rfl, kE f53 rfl, kE f54 rfl⟩⟩
    · have d21 := getD_ft (haf _ rfl ⟨21, .guard⟩ (by simp) rfl)
      have e114 : b.eval (.tmp 114) = .bool true := by rw [hbe, eval_in _ _ _ 21 (by decide) rfl (by rw [hz0]; decide)]; exact f21 d21
      have t114 : b.tmps[114]?.getD undef = .bool true := by have tv := e114; simpa only [Act.eval, Array.getD_eq_getD_getElem?] using tv
      refine wpOp_runs_on (v := .slice A2 n2 c2) rfl (wanted_on rfl rfl rfl t114) (by simp [execOp, go_sem, t1]) ⟨_, _, rfl, rfl, ⟨hBw, kE f0 rfl, kE f1 rfl, kE f2 rfl, kE f3 rfl, kE f4 rfl, kE f5 rfl, kE f6 rfl, kE f7 rfl, kE f8 rfl, kE f9 rfl, kE f10 rfl, kE f11 rfl, kE f12 rfl, kE f13 rfl, kE f14 rfl, kE f15 rfl, kE f16 rfl, kE f17 rfl, kE f18 rfl, kE f19 rfl, kE f20 rfl, kE f21 rfl, kE f22 rfl, kE f23 rfl, fun _ => upd_same _ _ _, kE f25 rfl, fun h => by obtain hrl := f26 (by rw [← getD_set_ne true (show 24 ≠ 26 by decide)]; exact h); exact (by rw [upd_ne x _ (by decide)]; exact hrl), kE f27 rfl, kE f28 rfl, kE f29 rfl, kE f30 rfl, fun h => by obtain hrl := f31 (by rw [← getD_set_ne true (show 24 ≠ 31 by decide)]; exact h); exact (by rw [upd_ne x _ (by decide)]; exact hrl), kE f32 rfl, fun h => by obtain hrl := f33 (by rw [← getD_set_ne true (show 24 ≠ 33 by decide)]; exact h); exact (by rw [upd_ne x _ (by decide)]; exact hrl), kE f34 rfl, kE f35 rfl, kE f36 rfl, kE f37 rfl, kE f38 rfl, fun h => by obtain hrl := f39 (by rw [← getD_set_ne true (show 24 ≠ 39 by decide)]; exact h); exact (by rw [upd_ne x _ (by decide)]; exact hrl), kE f40 rfl, kE f41 rfl, fun h => by obtain hrl := f42 (by rw [← getD_set_ne true (show 24 ≠ 42 by decide)]; exact h); exact (by rw [upd_ne x _ (by decide)]; exact hrl), kE f43 rfl, kE f44 rfl, kE f45 rfl, kE f46 rfl, kE f47 rfl, kE f48 rfl, kE f49 rfl, kE f50 rfl, kE f51 rfl, kE f52 rfl, kE f53 rfl, kE f54 rfl⟩⟩
    · have d21 := getD_ft (haf _ rfl ⟨21, .guard⟩ (by simp) rfl)
      have e114 : b.eval (.tmp 114) = .bool true := by rw [hbe, eval_in _ _ _ 21 (by decide) rfl (by rw [hz0]; decide)]; exact f21 d21
      have t114 : b.tmps[114]?.getD undef = .bool true := by have tv := e114; simpa only [Act.eval, Array.getD_eq_getD_getElem?] using tv
      refine wpOp_runs_on (v := .int .i64 cl) rfl (wanted_on rfl rfl rfl t114) (by simp [execOp, go_sem, t2]) ⟨_, _, rfl, rfl, ⟨hBw, kE f0 rfl, kE f1 rfl, kE f2 rfl, kE f3 rfl, kE f4 rfl, kE f5 rfl, kE f6 rfl, kE f7 rfl, kE f8 rfl, kE f9 rfl, kE f10 rfl, kE f11 rfl, kE f12 rfl, kE f13 rfl, kE f14 rfl, kE f15 rfl, kE f16 rfl, kE f17 rfl, kE f18 rfl, kE f19 rfl, kE f20 rfl, kE f21 rfl, kE f22 rfl, kE f23 rfl, kE f24 rfl, fun _ => upd_same _ _ _, fun h => by obtain hrl := f26 (by rw [← getD_set_ne true (show 25 ≠ 26 by decide)]; exact h); exact (by rw [upd_ne x _ (by decide)]; exact hrl), kE f27 rfl, kE f28 rfl, kE f29 rfl, kE f30 rfl, fun h => by obtain hrl := f31 (by rw [← getD_set_ne true (show 25 ≠ 31 by decide)]; exact h); exact (by rw [upd_ne x _ (by decide)]; exact hrl), kE f32 rfl, fun h => by obtain hrl := f33 (by rw [← getD_set_ne true (show 25 ≠ 33 by decide)]; exact h); exact (by rw [upd_ne x _ (by decide)]; exact hrl), kE f34 rfl, kE f35 rfl, kE f36 rfl, kE f37 rfl, kE f38 rfl, fun h => by obtain hrl := f39 (by rw [← getD_set_ne true (show 25 ≠ 39 by decide)]; exact h); exact (by rw [upd_ne x _ (by decide)]; exact hrl), kE f40 rfl, kE f41 rfl, fun h => by obtain hrl := f42 (by rw [← getD_set_ne true (show 25 ≠ 42 by decide)]; exact h); exact (by rw [upd_ne x _ (by decide)]; exact hrl), kE f43 rfl, kE f44 rfl, kE f45 rfl, kE f46 rfl, kE f47 rfl, kE f48 rfl, kE f49 rfl, kE f50 rfl, kE f51 rfl, kE f52 rfl, kE f53 rfl, kE f54 rfl⟩⟩
    · have d21 := getD_ft (haf _ rfl ⟨21, .guard⟩ (by simp) rfl)
      have e114 : b.eval (.tmp 114) = .bool true := by rw [hbe, eval_in _ _ _ 21 (by decide) rfl (by rw [hz0]; decide)]; exact f21 d21
      have t114 : b.tmps[114]?.getD undef = .bool true := by have tv := e114; simpa only [Act.eval, Array.getD_eq_getD_getElem?] using tv
      have d23 := getD_ft (haf _ rfl ⟨23, .data⟩ (by simp) rfl)
      have e116 : b.eval (.tmp 116) = .agg #[.slice A1 n1 c1, .slice A n c, .int .i64 clk, .int .i64 ver] := by rw [hbe, eval_in _ _ _ 23 (by decide) rfl (by rw [hz0]; decide)]; exact f23 d23
      have t116 : b.tmps[116]?.getD undef = .agg #[.slice A1 n1 c1, .slice A n c, .int .i64 clk, .int .i64 ver] := by have tv := e116; simpa only [Act.eval, Array.getD_eq_getD_getElem?] using tv
      have d24 := getD_ft (haf _ rfl ⟨24, .data⟩ (by simp) rfl)
      have e117 : b.eval (.tmp 117) = .slice A2 n2 c2 := by rw [hbe, eval_in _ _ _ 24 (by decide) rfl (by rw [hz0]; decide)]; exact f24 d24
      have t117 : b.tmps[117]?.getD undef = .slice A2 n2 c2 := by have tv := e117; simpa only [Act.eval, Array.getD_eq_getD_getElem?] using tv
      have d25 := getD_ft (haf _ rfl ⟨25, .data⟩ (by simp) rfl)
      have e118 : b.eval (.tmp 118) = .int .i64 cl := by rw [hbe, eval_in _ _ _ 25 (by decide) rfl (by rw [hz0]; decide)]; exact f25 d25
      have t118 : b.tmps[118]?.getD undef = .int .i64 cl := by have tv := e118; simpa only [Act.eval, Array.getD_eq_getD_getElem?] using tv
      refine wpOp_call_on rfl (wanted_on rfl rfl rfl t114) 18 #[.tmp 116, .tmp 117, .tmp 118] _ rfl #[.agg #[.slice A1 n1 c1, .slice A n c, .int .i64 clk, .int .i64 ver], .slice A2 n2 c2, .int .i64 cl] (by simp [e116, e117, e118]) Try.func18 rfl rfl ?_
      refine (rall11_any A1 n1 c1 cs A n c rs clk ver A2 n2 c2 bk cl w' HD1.out (by omega) HD.out (by omega) HD2.out (by omega) (h1.up hBw) (h.up hBw) (h2.up hBw) HLB.out HCL.out).mono ?_
      rintro e w'' ⟨v9, m9, rfl, hp9, hq9, hr, hb⟩
      exact ⟨_, rfl, _, _, rfl, rfl, ⟨hBw.trans (hb.mono hBw.size), kE f0 rfl, kE f1 rfl, kE f2 rfl, kE f3 rfl, kE f4 rfl, kE f5 rfl, kE f6 rfl, kE f7 rfl, kE f8 rfl, kE f9 rfl, kE f10 rfl, kE f11 rfl, kE f12 rfl, kE f13 rfl, kE f14 rfl, kE f15 rfl, kE f16 rfl, kE f17 rfl, kE f18 rfl, kE f19 rfl, kE f20 rfl, kE f21 rfl, kE f22 rfl, kE f23 rfl, kE f24 rfl, kE f25 rfl, fun _ => (by rw [upd_same]; exact (by have h5 := EL.of_own hr; rw [(allE_of HRP.out.co hp9 hq9).one HMA.out] at h5; exact h5)), kE f27 rfl, kE f28 rfl, kE f29 rfl, kE f30 rfl, fun h => by obtain hrl := f31 (by rw [← getD_set_ne true (show 26 ≠ 31 by decide)]; exact h); exact (by rw [upd_ne x _ (by decide)]; exact hrl.below hb), kE f32 rfl, fun h => by obtain hrl := f33 (by rw [← getD_set_ne true (show 26 ≠ 33 by decide)]; exact h); exact (by rw [upd_ne x _ (by decide)]; exact hrl.below hb), kE f34 rfl, kE f35 rfl, kE f36 rfl, kE f37 rfl, kE f38 rfl, fun h => by obtain hrl := f39 (by rw [← getD_set_ne true (show 26 ≠ 39 by decide)]; exact h); exact (by rw [upd_ne x _ (by decide)]; exact hrl.below hb), kE f40 rfl, kE f41 rfl, fun h => by obtain hrl := f42 (by rw [← getD_set_ne true (show 26 ≠ 42 by decide)]; exact h); exact (by rw [upd_ne x _ (by decide)]; exact hrl.below hb), kE f43 rfl, kE f44 rfl, kE f45 rfl, kE f46 rfl, kE f47 rfl, kE f48 rfl, kE f49 rfl, kE f50 rfl, kE f51 rfl, kE f52 rfl, kE f53 rfl, kE f54 rfl⟩⟩
    · have d21 := getD_ft (haf _ rfl ⟨21, .guard⟩ (by simp) rfl)
      have e114 : b.eval (.tmp 114) = .bool true := by rw [hbe, eval_in _ _ _ 21 (by decide) rfl (by rw [hz0]; decide)]; exact f21 d21
      have t114 : b.tmps[114]?.getD undef = .bool true := by have tv := e114; simpa only [Act.eval, Array.getD_eq_getD_getElem?] using tv
      have d22 := getD_ft (haf _ rfl ⟨22, .data⟩ (by simp) rfl)
      have e115 : b.eval (.tmp 115) = va := by rw [hbe, eval_in _ _ _ 22 (by decide) rfl (by rw [hz0]; decide)]; exact f22 d22
      have t115 : b.tmps[115]?.getD undef = va := by have tv := e115; simpa only [Act.eval, Array.getD_eq_getD_getElem?] using tv
      have d26 := getD_ft (haf _ rfl ⟨26, .data⟩ (by simp) rfl)
      have q26 := f26 d26
      have e119 : b.eval (.tmp 119) = x 26 := by rw [hbe, eval_in _ _ _ 26 (by decide) rfl (by rw [hz0]; decide)]
      have t119 : b.tmps[119]?.getD undef = x 26 := by have tv := e119; simpa only [Act.eval, Array.getD_eq_getD_getElem?] using tv
      refine wpOp_call_on rfl (wanted_on rfl rfl rfl t114) 17 #[.tmp 115, .tmp 119] _ rfl #[va, x 26] (by simp [e115, e119]) Try.func17 rfl rfl ?_
      refine (rsameV (hea.below hBw) q26 (by have := HML.out; omega) true (decide_eq_true rfl)).mono ?_
      rintro e w'' ⟨rfl, hb⟩
      exact ⟨_, rfl, _, _, rfl, rfl, ⟨hBw.trans (hb.mono hBw.size), kE f0 rfl, kE f1 rfl, kE f2 rfl, kE f3 rfl, kE f4 rfl, kE f5 rfl, kE f6 rfl, kE f7 rfl, kE f8 rfl, kE f9 rfl, kE f10 rfl, kE f11 rfl, kE f12 rfl, kE f13 rfl, kE f14 rfl, kE f15 rfl, kE f16 rfl, kE f17 rfl, kE f18 rfl, kE f19 rfl, kE f20 rfl, kE f21 rfl, kE f22 rfl, kE f23 rfl, kE f24 rfl, kE f25 rfl, fun h => by obtain hrl := f26 (by rw [← getD_set_ne true (show 27 ≠ 26 by decide)]; exact h); exact (by rw [upd_ne x _ (by decide)]; exact hrl.below hb), fun _ => upd_same _ _ _, kE f28 rfl, kE f29 rfl, kE f30 rfl, fun h => by obtain hrl := f31 (by rw [← getD_set_ne true (show 27 ≠ 31 by decide)]; exact h); exact (by rw [upd_ne x _ (by decide)]; exact hrl.below hb), kE f32 rfl, fun h => by obtain hrl := f33 (by rw [← getD_set_ne true (show 27 ≠ 33 by decide)]; exact h); exact (by rw [upd_ne x _ (by decide)]; exact hrl.below hb), kE f34 rfl, kE f35 rfl, kE f36 rfl, kE f37 rfl, kE f38 rfl, fun h => by obtain hrl := f39 (by rw [← getD_set_ne true (show 27 ≠ 39 by decide)]; exact h); exact (by rw [upd_ne x _ (by decide)]; exact hrl.below hb), kE f40 rfl, kE f41 rfl, fun h => by obtain hrl := f42 (by rw [← getD_set_ne true (show 27 ≠ 42 by decide)]; exact h); exact (by rw [upd_ne x _ (by decide)]; exact hrl.below hb), kE f43 rfl, kE f44 rfl, kE f45 rfl, kE f46 rfl, kE f47 rfl, kE f48 rfl, kE f49 rfl, kE f50 rfl, kE f51 rfl, kE f52 rfl, kE f53 rfl, kE f54 rfl⟩⟩
    · have d21 := getD_ft (haf _ rfl ⟨21, .data⟩ (by simp) rfl)
      have e114 : b.eval (.tmp 114) = .bool true := by rw [hbe, eval_in _ _ _ 21 (by decide) rfl (by rw [hz0]; decide)]; exact f21 d21
      have t114 : b.tmps[114]?.getD undef = .bool true := by have tv := e114; simpa only [Act.eval, Array.getD_eq_getD_getElem?] using tv
      have d27 := getD_ft (haf _ rfl ⟨27, .data⟩ (by simp) rfl)
      have e120 : b.eval (.tmp 120) = .bool true := by rw [hbe, eval_in _ _ _ 27 (by decide) rfl (by rw [hz0]; decide)]; exact f27 d27
      have t120 : b.tmps[120]?.getD undef = .bool true := by have tv := e120; simpa only [Act.eval, Array.getD_eq_getD_getElem?] using tv
      refine wpOp_runs (v := .bool true) rfl rfl (by simp [execOp, go_sem, t114, t120]) ⟨_, _, rfl, rfl, ⟨hBw, kE f0 rfl, kE f1 rfl, kE f2 rfl, kE f3 rfl, kE f4 rfl, kE f5 rfl, kE f6 rfl, kE f7 rfl, kE f8 rfl, kE f9 rfl, kE f10 rfl, kE f11 rfl, kE f12 rfl, kE f13 rfl, kE f14 rfl, kE f15 rfl, kE f16 rfl, kE f17 rfl, kE f18 rfl, kE f19 rfl, kE f20 rfl, kE f21 rfl, kE f22 rfl, kE f23 rfl, kE f24 rfl, kE f25 rfl, fun h => by obtain hrl := f26 (by rw [← getD_set_ne true (show 28 ≠ 26 by decide)]; exact h); exact (by rw [upd_ne x _ (by decide)]; exact hrl), kE f27 rfl, fun _ => upd_same _ _ _, kE f29 rfl, kE f30 rfl, fun h => by obtain hrl := f31 (by rw [← getD_set_ne true (show 28 ≠ 31 by decide)]; exact h); exact (by rw [upd_ne x _ (by decide)]; exact hrl), kE f32 rfl, fun h => by obtain hrl := f33 (by rw [← getD_set_ne true (show 28 ≠ 33 by decide)]; exact h); exact (by rw [upd_ne x _ (by decide)]; exact hrl), kE f34 rfl, kE f35 rfl, kE f36 rfl, kE f37 rfl, kE f38 rfl, fun h => by obtain hrl := f39 (by rw [← getD_set_ne true (show 28 ≠ 39 by decide)]; exact h); exact (by rw [upd_ne x _ (by decide)]; exact hrl), kE f40 rfl, kE f41 rfl, fun h => by obtain hrl := f42 (by rw [← getD_set_ne true (show 28 ≠ 42 by decide)]; exact h); exact (by rw [upd_ne x _ (by decide)]; exact hrl), kE f43 rfl, kE f44 rfl, kE f45 rfl, kE f46 rfl, kE f47 rfl, kE f48 rfl, kE f49 rfl, kE f50 rfl, kE f51 rfl, kE f52 rfl, kE f53 rfl, kE f54 rfl⟩⟩
    · have d28 := getD_ft (haf _ rfl ⟨28, .data⟩ (by simp) rfl)
      have e121 : b.eval (.tmp 121) = .bool true := by rw [hbe, eval_in _ _ _ 28 (by decide) rfl (by rw [hz0]; decide)]; exact f28 d28
      have t121 : b.tmps[121]?.getD undef = .bool true := by have tv := e121; simpa only [Act.eval, Array.getD_eq_getD_getElem?] using tv
      refine wpOp_runs (v := .bool true) rfl rfl (by simp [execOp, go_sem, t121]) ⟨_, _, rfl, rfl, ⟨hBw, kE f0 rfl, kE f1 rfl, kE f2 rfl, kE f3 rfl, kE f4 rfl, kE f5 rfl, kE f6 rfl, kE f7 rfl, kE f8 rfl, kE f9 rfl, kE f10 rfl, kE f11 rfl, kE f12 rfl, kE f13 rfl, kE f14 rfl, kE f15 rfl, kE f16 rfl, kE f17 rfl, kE f18 rfl, kE f19 rfl, kE f20 rfl, kE f21 rfl, kE f22 rfl, kE f23 rfl, kE f24 rfl, kE f25 rfl, fun h => by obtain hrl := f26 (by rw [← getD_set_ne true (show 29 ≠ 26 by decide)]; exact h); exact (by rw [upd_ne x _ (by decide)]; exact hrl), kE f27 rfl, kE f28 rfl, fun _ => upd_same _ _ _, kE f30 rfl, fun h => by obtain hrl := f31 (by rw [← getD_set_ne true (show 29 ≠ 31 by decide)]; exact h); exact (by rw [upd_ne x _ (by decide)]; exact hrl), kE f32 rfl, fun h => by obtain hrl := f33 (by rw [← getD_set_ne true (show 29 ≠ 33 by decide)]; exact h); exact (by rw [upd_ne x _ (by decide)]; exact hrl), kE f34 rfl, kE f35 rfl, kE f36 rfl, kE f37 rfl, kE f38 rfl, fun h => by obtain hrl := f39 (by rw [← getD_set_ne true (show 29 ≠ 39 by decide)]; exact h); exact (by rw [upd_ne x _ (by decide)]; exact hrl), kE f40 rfl, kE f41 rfl, fun h => by obtain hrl := f42 (by rw [← getD_set_ne true (show 29 ≠ 42 by decide)]; exact h); exact (by rw [upd_ne x _ (by decide)]; exact hrl), kE f43 rfl, kE f44 rfl, kE f45 rfl, kE f46 rfl, kE f47 rfl, kE f48 rfl, kE f49 rfl, kE f50 rfl, kE f51 rfl, kE f52 rfl, kE f53 rfl, kE f54 rfl⟩⟩
    · have d29 := getD_ft (haf _ rfl ⟨29, .guard⟩ (by simp) rfl)
      have e122 : b.eval (.tmp 122) = .bool true := by rw [hbe, eval_in _ _ _ 29 (by decide) rfl (by rw [hz0]; decide)]; exact f29 d29
      have t122 : b.tmps[122]?.getD undef = .bool true := by have tv := e122; simpa only [Act.eval, Array.getD_eq_getD_getElem?] using tv
      have bq := hP.below hBw hP.lt
      have n_0 : w'.cell? ⟨w.heap.size, 0, none⟩ = some (.slice A1 n1 c1) := bq.cell 0
      have n_1 : w'.cell? ⟨w.heap.size, 1, none⟩ = some (.slice A n c) := bq.cell 1
      have n_2 : w'.cell? ⟨w.heap.size, 2, none⟩ = some (.int .i64 clk) := bq.cell 2
      have n_3 : w'.cell? ⟨w.heap.size, 3, none⟩ = some (.int .i64 ver) := bq.cell 3
      refine wpOp_runs_on (v := .agg #[.slice A1 n1 c1, .slice A n c, .int .i64 clk, .int .i64 ver]) rfl (wanted_on rfl rfl rfl t122) (by simp [execOp, go_sem, t6, n_0, n_1, n_2, n_3]) ⟨_, _, rfl, rfl, ⟨hBw, kE f0 rfl, kE f1 rfl, kE f2 rfl, kE f3 rfl, kE f4 rfl, kE f5 rfl, kE f6 rfl, kE f7 rfl, kE f8 rfl, kE f9 rfl, kE f10 rfl, kE f11 rfl, kE f12 rfl, kE f13 rfl, kE f14 rfl, kE f15 rfl, kE f16 rfl, kE f17 rfl, kE f18 rfl, kE f19 rfl, kE f20 rfl, kE f21 rfl, kE f22 rfl, kE f23 rfl, kE f24 rfl, kE f25 rfl, fun h => by obtain hrl := f26 (by rw [← getD_set_ne true (show 30 ≠ 26 by decide)]; exact h); exact (by rw [upd_ne x _ (by decide)]; exact hrl), kE f27 rfl, kE f28 rfl, kE f29 rfl, fun _ => upd_same _ _ _, fun h => by obtain hrl := f31 (by rw [← getD_set_ne true (show 30 ≠ 31 by decide)]; exact h); exact (by rw [upd_ne x _ (by decide)]; exact hrl), kE f32 rfl, fun h => by obtain hrl := f33 (by rw [← getD_set_ne true (show 30 ≠ 33 by decide)]; exact h); exact (by rw [upd_ne x _ (by decide)]; exact hrl), kE f34 rfl, kE f35 rfl, kE f36 rfl, kE f37 rfl, kE f38 rfl, fun h => by obtain hrl := f39 (by rw [← getD_set_ne true (show 30 ≠ 39 by decide)]; exact h); exact (by rw [upd_ne x _ (by decide)]; exact hrl), kE f40 rfl, kE f41 rfl, fun h => by obtain hrl := f42 (by rw [← getD_set_ne true (show 30 ≠ 42 by decide)]; exact h); exact (by rw [upd_ne x _ (by decide)]; exact hrl), kE f43 rfl, kE f44 rfl, kE f45 rfl, kE f46 rfl, kE f47 rfl, kE f48 rfl, kE f49 rfl, kE f50 rfl, kE f51 rfl, kE f52 rfl, kE f53 rfl, kE f54 rfl⟩⟩
    · have d29 := getD_ft (haf _ rfl ⟨29, .guard⟩ (by simp) rfl)
      have e122 : b.eval (.tmp 122) = .bool true := by rw [hbe, eval_in _ _ _ 29 (by decide) rfl (by rw [hz0]; decide)]; exact f29 d29
      have t122 : b.tmps[122]?.getD undef = .bool true := by have tv := e122; simpa only [Act.eval, Array.getD_eq_getD_getElem?] using tv
      have d30 := getD_ft (haf _ rfl ⟨30, .data⟩ (by simp) rfl)
      have e123 : b.eval (.tmp 123) = .agg #[.slice A1 n1 c1, .slice A n c, .int .i64 clk, .int .i64 ver] := by rw [hbe, eval_in _ _ _ 30 (by decide) rfl (by rw [hz0]; decide)]; exact f30 d30
      have t123 : b.tmps[123]?.getD undef = .agg #[.slice A1 n1 c1, .slice A n c, .int .i64 clk, .int .i64 ver] := by have tv := e123; simpa only [Act.eval, Array.getD_eq_getD_getElem?] using tv
      refine wpOp_call_on rfl (wanted_on rfl rfl rfl t122) 19 #[.tmp 123] _ rfl #[.agg #[.slice A1 n1 c1, .slice A n c, .int .i64 clk, .int .i64 ver]] (by simp [e123]) Try.func19 rfl rfl ?_
      refine (vbare_of sortEd_any A1 n1 c1 cs A n c rs clk ver w' HD1.out (by omega) HD.out (by omega) (h1.up hBw) (h.up hBw) HRP.out.rg).mono ?_
      rintro e w'' ⟨v9, m9, rfl, hp9, hq9, hr, hb⟩
      exact ⟨_, rfl, _, _, rfl, rfl, ⟨hBw.trans (hb.mono hBw.size), kE f0 rfl, kE f1 rfl, kE f2 rfl, kE f3 rfl, kE f4 rfl, kE f5 rfl, kE f6 rfl, kE f7 rfl, kE f8 rfl, kE f9 rfl, kE f10 rfl, kE f11 rfl, kE f12 rfl, kE f13 rfl, kE f14 rfl, kE f15 rfl, kE f16 rfl, kE f17 rfl, kE f18 rfl, kE f19 rfl, kE f20 rfl, kE f21 rfl, kE f22 rfl, kE f23 rfl, kE f24 rfl, kE f25 rfl, fun h => by obtain hrl := f26 (by rw [← getD_set_ne true (show 31 ≠ 26 by decide)]; exact h); exact (by rw [upd_ne x _ (by decide)]; exact hrl.below hb), kE f27 rfl, kE f28 rfl, kE f29 rfl, kE f30 rfl, fun _ => (by rw [upd_same]; exact (by have h5 := EL.of_own hr; rw [(allE_of HRP.out.co hp9 hq9).one HMB.out] at h5; exact h5)), kE f32 rfl, fun h => by obtain hrl := f33 (by rw [← getD_set_ne true (show 31 ≠ 33 by decide)]; exact h); exact (by rw [upd_ne x _ (by decide)]; exact hrl.below hb), kE f34 rfl, kE f35 rfl, kE f36 rfl, kE f37 rfl, kE f38 rfl, fun h => by obtain hrl := f39 (by rw [← getD_set_ne true (show 31 ≠ 39 by decide)]; exact h); exact (by rw [upd_ne x _ (by decide)]; exact hrl.below hb), kE f40 rfl, kE f41 rfl, fun h => by obtain hrl := f42 (by rw [← getD_set_ne true (show 31 ≠ 42 by decide)]; exact h); exact (by rw [upd_ne x _ (by decide)]; exact hrl.below hb), kE f43 rfl, kE f44 rfl, kE f45 rfl, kE f46 rfl, kE f47 rfl, kE f48 rfl, kE f49 rfl, kE f50 rfl, kE f51 rfl, kE f52 rfl, kE f53 rfl, kE f54 rfl⟩⟩
    · have d29 := getD_ft (haf _ rfl ⟨29, .guard⟩ (by simp) rfl)
      have e122 : b.eval (.tmp 122) = .bool true := by rw [hbe, eval_in _ _ _ 29 (by decide) rfl (by rw [hz0]; decide)]; exact f29 d29
      have t122 : b.tmps[122]?.getD undef = .bool true := by have tv := e122; simpa only [Act.eval, Array.getD_eq_getD_getElem?] using tv
      have bq := hP.below hBw hP.lt
      have n_0 : w'.cell? ⟨w.heap.size, 0, none⟩ = some (.slice A1 n1 c1) := bq.cell 0
      have n_1 : w'.cell? ⟨w.heap.size, 1, none⟩ = some (.slice A n c) := bq.cell 1
      have n_2 : w'.cell? ⟨w.heap.size, 2, none⟩ = some (.int .i64 clk) := bq.cell 2
      have n_3 : w'.cell? ⟨w.heap.size, 3, none⟩ = some (.int .i64 ver) := bq.cell 3
      refine wpOp_runs_on (v := .agg #[.slice A1 n1 c1, .slice A n c, .int .i64 clk, .int .i64 ver]) rfl (wanted_on rfl rfl rfl t122) (by simp [execOp, go_sem, t6, n_0, n_1, n_2, n_3]) ⟨_, _, rfl, rfl, ⟨hBw, kE f0 rfl, kE f1 rfl, kE f2 rfl, kE f3 rfl, kE f4 rfl, kE f5 rfl, kE f6 rfl, kE f7 rfl, kE f8 rfl, kE f9 rfl, kE f10 rfl, kE f11 rfl, kE f12 rfl, kE f13 rfl, kE f14 rfl, kE f15 rfl, kE f16 rfl, kE f17 rfl, kE f18 rfl, kE f19 rfl, kE f20 rfl, kE f21 rfl, kE f22 rfl, kE f23 rfl, kE f24 rfl, kE f25 rfl, fun h => by obtain hrl := f26 (by rw [← getD_set_ne true (show 32 ≠ 26 by decide)]; exact h); exact (by rw [upd_ne x _ (by decide)]; exact hrl), kE f27 rfl, kE f28 rfl, kE f29 rfl, kE f30 rfl, fun h => by obtain hrl := f31 (by rw [← getD_set_ne true (show 32 ≠ 31 by decide)]; exact h); exact (by rw [upd_ne x _ (by decide)]; exact hrl), fun _ => upd_same _ _ _, fun h => by obtain hrl := f33 (by rw [← getD_set_ne true (show 32 ≠ 33 by decide)]; exact h); exact (by rw [upd_ne x _ (by decide)]; exact hrl), kE f34 rfl, kE f35 rfl, kE f36 rfl, kE f37 rfl, kE f38 rfl, fun h => by obtain hrl := f39 (by rw [← getD_set_ne true (show 32 ≠ 39 by decide)]; exact h); exact (by rw [upd_ne x _ (by decide)]; exact hrl), kE f40 rfl, kE f41 rfl, fun h => by obtain hrl := f42 (by rw [← getD_set_ne true (show 32 ≠ 42 by decide)]; exact h); exact (by rw [upd_ne x _ (by decide)]; exact hrl), kE f43 rfl, kE f44 rfl, kE f45 rfl, kE f46 rfl, kE f47 rfl, kE f48 rfl, kE f49 rfl, kE f50 rfl, kE f51 rfl, kE f52 rfl, kE f53 rfl, kE f54 rfl⟩⟩
    · have d29 := getD_ft (haf _ rfl ⟨29, .guard⟩ (by simp) rfl)
      have e122 : b.eval (.tmp 122) = .bool true := by rw [hbe, eval_in _ _ _ 29 (by decide) rfl (by rw [hz0]; decide)]; exact f29 d29
      have t122 : b.tmps[122]?.getD undef = .bool true := by have tv := e122; simpa only [Act.eval, Array.getD_eq_getD_getElem?] using tv
      have d32 := getD_ft (haf _ rfl ⟨32, .data⟩ (by simp) rfl)
      have e125 : b.eval (.tmp 125) = .agg #[.slice A1 n1 c1, .slice A n c, .int .i64 clk, .int .i64 ver] := by rw [hbe, eval_in _ _ _ 32 (by decide) rfl (by rw [hz0]; decide)]; exact f32 d32
      have t125 : b.tmps[125]?.getD undef = .agg #[.slice A1 n1 c1, .slice A n c, .int .i64 clk, .int .i64 ver] := by have tv := e125; simpa only [Act.eval, Array.getD_eq_getD_getElem?] using tv
      refine wpOp_call_on rfl (wanted_on rfl rfl rfl t122) 20 #[.tmp 125] _ rfl #[.agg #[.slice A1 n1 c1, .slice A n c, .int .i64 clk, .int .i64 ver]] (by simp [e125]) Try.func20 rfl rfl ?_
      refine (rbare11_any A1 n1 c1 cs A n c rs clk ver w' HD1.out (by omega) HD.out (by omega) (h1.up hBw) (h.up hBw)).mono ?_
      rintro e w'' ⟨v9, m9, rfl, hp9, hq9, hr, hb⟩
      exact ⟨_, rfl, _, _, rfl, rfl, ⟨hBw.trans (hb.mono hBw.size), kE f0 rfl, kE f1 rfl, kE f2 rfl, kE f3 rfl, kE f4 rfl, kE f5 rfl, kE f6 rfl, kE f7 rfl, kE f8 rfl, kE f9 rfl, kE f10 rfl, kE f11 rfl, kE f12 rfl, kE f13 rfl, kE f14 rfl, kE f15 rfl, kE f16 rfl, kE f17 rfl, kE f18 rfl, kE f19 rfl, kE f20 rfl, kE f21 rfl, kE f22 rfl, kE f23 rfl, kE f24 rfl, kE f25 rfl, fun h => by obtain hrl := f26 (by rw [← getD_set_ne true (show 33 ≠ 26 by decide)]; exact h); exact (by rw [upd_ne x _ (by decide)]; exact hrl.below hb), kE f27 rfl, kE f28 rfl, kE f29 rfl, kE f30 rfl, fun h => by obtain hrl := f31 (by rw [← getD_set_ne true (show 33 ≠ 31 by decide)]; exact h); exact (by rw [upd_ne x _ (by decide)]; exact hrl.below hb), kE f32 rfl, fun _ => (by rw [upd_same]; exact (by have h5 := EL.of_own hr; rw [(allE_of HRP.out.co hp9 hq9).one HMB.out] at h5; exact h5)), kE f34 rfl, kE f35 rfl, kE f36 rfl, kE f37 rfl, kE f38 rfl, fun h => by obtain hrl := f39 (by rw [← getD_set_ne true (show 33 ≠ 39 by decide)]; exact h); exact (by rw [upd_ne x _ (by decide)]; exact hrl.below hb), kE f40 rfl, kE f41 rfl, fun h => by obtain hrl := f42 (by rw [← getD_set_ne true (show 33 ≠ 42 by decide)]; exact h); exact (by rw [upd_ne x _ (by decide)]; exact hrl.below hb), kE f43 rfl, kE f44 rfl, kE f45 rfl, kE f46 rfl, kE f47 rfl, kE f48 rfl, kE f49 rfl, kE f50 rfl, kE f51 rfl, kE f52 rfl, kE f53 rfl, kE f54 rfl⟩⟩
    · have d29 := getD_ft (haf _ rfl ⟨29, .guard⟩ (by simp) rfl)
      have e122 : b.eval (.tmp 122) = .bool true := by rw [hbe, eval_in _ _ _ 29 (by decide) rfl (by rw [hz0]; decide)]; exact f29 d29
      have t122 : b.tmps[122]?.getD undef = .bool true := by have tv := e122; simpa only [Act.eval, Array.getD_eq_getD_getElem?] using tv
      have d31 := getD_ft (haf _ rfl ⟨31, .data⟩ (by simp) rfl)
      have q31 := f31 d31
      have e124 : b.eval (.tmp 124) = x 31 := by rw [hbe, eval_in _ _ _ 31 (by decide) rfl (by rw [hz0]; decide)]
      have t124 : b.tmps[124]?.getD undef = x 31 := by have tv := e124; simpa only [Act.eval, Array.getD_eq_getD_getElem?] using tv
      have d33 := getD_ft (haf _ rfl ⟨33, .data⟩ (by simp) rfl)
      have q33 := f33 d33
      have e126 : b.eval (.tmp 126) = x 33 := by rw [hbe, eval_in _ _ _ 33 (by decide) rfl (by rw [hz0]; decide)]
      have t126 : b.tmps[126]?.getD undef = x 33 := by have tv := e126; simpa only [Act.eval, Array.getD_eq_getD_getElem?] using tv
      refine wpOp_call_on rfl (wanted_on rfl rfl rfl t122) 17 #[.tmp 124, .tmp 126] _ rfl #[x 31, x 33] (by simp [e124, e126]) Try.func17 rfl rfl ?_
      refine (rsameV q31 q33 (by have := HML.out; omega) true (decide_eq_true rfl)).mono ?_
      rintro e w'' ⟨rfl, hb⟩
      exact ⟨_, rfl, _, _, rfl, rfl, ⟨hBw.trans (hb.mono hBw.size), kE f0 rfl, kE f1 rfl, kE f2 rfl, kE f3 rfl, kE f4 rfl, kE f5 rfl, kE f6 rfl, kE f7 rfl, kE f8 rfl, kE f9 rfl, kE f10 rfl, kE f11 rfl, kE f12 rfl, kE f13 rfl, kE f14 rfl, kE f15 rfl, kE f16 rfl, kE f17 rfl, kE f18 rfl, kE f19 rfl, kE f20 rfl, kE f21 rfl, kE f22 rfl, kE f23 rfl, kE f24 rfl, kE f25 rfl, fun h => by obtain hrl := f26 (by rw [← getD_set_ne true (show 34 ≠ 26 by decide)]; exact h); exact (by rw [upd_ne x _ (by decide)]; exact hrl.below hb), kE f27 rfl, kE f28 rfl, kE f29 rfl, kE f30 rfl, fun h => by obtain hrl := f31 (by rw [← getD_set_ne true (show 34 ≠ 31 by decide)]; exact h); exact (by rw [upd_ne x _ (by decide)]; exact hrl.below hb), kE f32 rfl, fun h => by obtain hrl := f33 (by rw [← getD_set_ne true (show 34 ≠ 33 by decide)]; exact h); exact (by rw [upd_ne x _ (by decide)]; exact hrl.below hb), fun _ => upd_same _ _ _, kE f35 rfl, kE f36 rfl, kE f37 rfl, kE f38 rfl, fun h => by obtain hrl := f39 (by rw [← getD_set_ne true (show 34 ≠ 39 by decide)]; exact h); exact (by rw [upd_ne x _ (by decide)]; exact hrl.below hb), kE f40 rfl, kE f41 rfl, fun h => by obtain hrl := f42 (by rw [← getD_set_ne true (show 34 ≠ 42 by decide)]; exact h); exact (by rw [upd_ne x _ (by decide)]; exact hrl.below hb), kE f43 rfl, kE f44 rfl, kE f45 rfl, kE f46 rfl, kE f47 rfl, kE f48 rfl, kE f49 rfl, kE f50 rfl, kE f51 rfl, kE f52 rfl, kE f53 rfl, kE f54 rfl⟩⟩
    · have d29 := getD_ft (haf _ rfl ⟨29, .data⟩ (by simp) rfl)
      have e122 : b.eval (.tmp 122) = .bool true := by rw [hbe, eval_in _ _ _ 29 (by decide) rfl (by rw [hz0]; decide)]; exact f29 d29
      have t122 : b.tmps[122]?.getD undef = .bool true := by have tv := e122; simpa only [Act.eval, Array.getD_eq_getD_getElem?] using tv
      have d34 := getD_ft (haf _ rfl ⟨34, .data⟩ (by simp) rfl)
      have e127 : b.eval (.tmp 127) = .bool true := by rw [hbe, eval_in _ _ _ 34 (by decide) rfl (by rw [hz0]; decide)]; exact f34 d34
      have t127 : b.tmps[127]?.getD undef = .bool true := by have tv := e127; simpa only [Act.eval, Array.getD_eq_getD_getElem?] using tv
      refine wpOp_runs (v := .bool true) rfl rfl (by simp [execOp, go_sem, t122, t127]) ⟨_, _, rfl, rfl, ⟨hBw, kE f0 rfl, kE f1 rfl, kE f2 rfl, kE f3 rfl, kE f4 rfl, kE f5 rfl, kE f6 rfl, kE f7 rfl, kE f8 rfl, kE f9 rfl, kE f10 rfl, kE f11 rfl, kE f12 rfl, kE f13 rfl, kE f14 rfl, kE f15 rfl, kE f16 rfl, kE f17 rfl, kE f18 rfl, kE f19 rfl, kE f20 rfl, kE f21 rfl, kE f22 rfl, kE f23 rfl, kE f24 rfl, kE f25 rfl, fun h => by obtain hrl := f26 (by rw [← getD_set_ne true (show 35 ≠ 26 by decide)]; exact h); exact (by rw [upd_ne x _ (by decide)]; exact hrl), kE f27 rfl, kE f28 rfl, kE f29 rfl, kE f30 rfl, fun h => by obtain hrl := f31 (by rw [← getD_set_ne true (show 35 ≠ 31 by decide)]; exact h); exact (by rw [upd_ne x _ (by decide)]; exact hrl), kE f32 rfl, fun h => by obtain hrl := f33 (by rw [← getD_set_ne true (show 35 ≠ 33 by decide)]; exact h); exact (by rw [upd_ne x _ (by decide)]; exact hrl), kE f34 rfl, fun _ => upd_same _ _ _, kE f36 rfl, kE f37 rfl, kE f38 rfl, fun h => by obtain hrl := f39 (by rw [← getD_set_ne true (show 35 ≠ 39 by decide)]; exact h); exact (by rw [upd_ne x _ (by decide)]; exact hrl), kE f40 rfl, kE f41 rfl, fun h => by obtain hrl := f42 (by rw [← getD_set_ne true (show 35 ≠ 42 by decide)]; exact h); exact (by rw [upd_ne x _ (by decide)]; exact hrl), kE f43 rfl, kE f44 rfl, kE f45 rfl, kE f46 rfl, kE f47 rfl, kE f48 rfl, kE f49 rfl, kE f50 rfl, kE f51 rfl, kE f52 rfl, kE f53 rfl, kE f54 rfl⟩⟩
    · have d35 := getD_ft (haf _ rfl ⟨35, .data⟩ (by simp) rfl)
      have e128 : b.eval (.tmp 128) = .bool true := by rw [hbe, eval_in _ _ _ 35 (by decide) rfl (by rw [hz0]; decide)]; exact f35 d35
      have t128 : b.tmps[128]?.getD undef = .bool true := by have tv := e128; simpa only [Act.eval, Array.getD_eq_getD_getElem?] using tv
      refine wpOp_runs (v := .bool true) rfl rfl (by simp [execOp, go_sem, t128]) ⟨_, _, rfl, rfl, ⟨hBw, kE f0 rfl, kE f1 rfl, kE f2 rfl, kE f3 rfl, kE f4 rfl, kE f5 rfl, kE f6 rfl, kE f7 rfl, kE f8 rfl, kE f9 rfl, kE f10 rfl, kE f11 rfl, kE f12 rfl, kE f13 rfl, kE f14 rfl, kE f15 rfl, kE f16 rfl, kE f17 rfl, kE f18 rfl, kE f19 rfl, kE f20 rfl, kE f21 rfl, kE f22 rfl, kE f23 rfl, kE f24 rfl, kE f25 rfl, fun h => by obtain hrl := f26 (by rw [← getD_set_ne true (show 36 ≠ 26 by decide)]; exact h); exact (by rw [upd_ne x _ (by decide)]; exact hrl), kE f27 rfl, kE f28 rfl, kE f29 rfl, kE f30 rfl, fun h => by obtain hrl := f31 (by rw [← getD_set_ne true (show 36 ≠ 31 by decide)]; exact h); exact (by rw [upd_ne x _ (by decide)]; exact hrl), kE f32 rfl, fun h => by obtain hrl := f33 (by rw [← getD_set_ne true (show 36 ≠ 33 by decide)]; exact h); exact (by rw [upd_ne x _ (by decide)]; exact hrl), kE f34 rfl, kE f35 rfl, fun _ => upd_same _ _ _, kE f37 rfl, kE f38 rfl, fun h => by obtain hrl := f39 (by rw [← getD_set_ne true (show 36 ≠ 39 by decide)]; exact h); exact (by rw [upd_ne x _ (by decide)]; exact hrl), kE f40 rfl, kE f41 rfl, fun h => by obtain hrl := f42 (by rw [← getD_set_ne true (show 36 ≠ 42 by decide)]; exact h); exact (by rw [upd_ne x _ (by decide)]; exact hrl), kE f43 rfl, kE f44 rfl, kE f45 rfl, kE f46 rfl, kE f47 rfl, kE f48 rfl, kE f49 rfl, kE f50 rfl, kE f51 rfl, kE f52 rfl, kE f53 rfl, kE f54 rfl⟩⟩
    · have d36 := getD_ft (haf _ rfl ⟨36, .guard⟩ (by simp) rfl)
      have e129 : b.eval (.tmp 129) = .bool true := by rw [hbe, eval_in _ _ _ 36 (by decide) rfl (by rw [hz0]; decide)]; exact f36 d36
      have t129 : b.tmps[129]?.getD undef = .bool true := by have tv := e129; simpa only [Act.eval, Array.getD_eq_getD_getElem?] using tv
      refine wpOp_runs_on (v := .slice A3 n3 c3_) rfl (wanted_on rfl rfl rfl t129) (by simp [execOp, go_sem, t4]) ⟨_, _, rfl, rfl, ⟨hBw, kE f0 rfl, kE f1 rfl, kE f2 rfl, kE f3 rfl, kE f4 rfl, kE f5 rfl, kE f6 rfl, kE f7 rfl, kE f8 rfl, kE f9 rfl, kE f10 rfl, kE f11 rfl, kE f12 rfl, kE f13 rfl, kE f14 rfl, kE f15 rfl, kE f16 rfl, kE f17 rfl, kE f18 rfl, kE f19 rfl, kE f20 rfl, kE f21 rfl, kE f22 rfl, kE f23 rfl, kE f24 rfl, kE f25 rfl, fun h => by obtain hrl := f26 (by rw [← getD_set_ne true (show 37 ≠ 26 by decide)]; exact h); exact (by rw [upd_ne x _ (by decide)]; exact hrl), kE f27 rfl, kE f28 rfl, kE f29 rfl, kE f30 rfl, fun h => by obtain hrl := f31 (by rw [← getD_set_ne true (show 37 ≠ 31 by decide)]; exact h); exact (by rw [upd_ne x _ (by decide)]; exact hrl), kE f32 rfl, fun h => by obtain hrl := f33 (by rw [← getD_set_ne true (show 37 ≠ 33 by decide)]; exact h); exact (by rw [upd_ne x _ (by decide)]; exact hrl), kE f34 rfl, kE f35 rfl, kE f36 rfl, fun _ => upd_same _ _ _, kE f38 rfl, fun h => by obtain hrl := f39 (by rw [← getD_set_ne true (show 37 ≠ 39 by decide)]; exact h); exact (by rw [upd_ne x _ (by decide)]; exact hrl), kE f40 rfl, kE f41 rfl, fun h => by obtain hrl := f42 (by rw [← getD_set_ne true (show 37 ≠ 42 by decide)]; exact h); exact (by rw [upd_ne x _ (by decide)]; exact hrl), kE f43 rfl, kE f44 rfl, kE f45 rfl, kE f46 rfl, kE f47 rfl, kE f48 rfl, kE f49 rfl, kE f50 rfl, kE f51 rfl, kE f52 rfl, kE f53 rfl, kE f54 rfl⟩⟩
    · have d36 := getD_ft (haf _ rfl ⟨36, .guard⟩ (by simp) rfl)
      have e129 : b.eval (.tmp 129) = .bool true := by rw [hbe, eval_in _ _ _ 36 (by decide) rfl (by rw [hz0]; decide)]; exact f36 d36
      have t129 : b.tmps[129]?.getD undef = .bool true := by have tv := e129; simpa only [Act.eval, Array.getD_eq_getD_getElem?] using tv
      refine wpOp_runs_on (v := .int .i64 q) rfl (wanted_on rfl rfl rfl t129) (by simp [execOp, go_sem, t5]) ⟨_, _, rfl, rfl, ⟨hBw, kE f0 rfl, kE f1 rfl, kE f2 rfl, kE f3 rfl, kE f4 rfl, kE f5 rfl, kE f6 rfl, kE f7 rfl, kE f8 rfl, kE f9 rfl, kE f10 rfl, kE f11 rfl, kE f12 rfl, kE f13 rfl, kE f14 rfl, kE f15 rfl, kE f16 rfl, kE f17 rfl, kE f18 rfl, kE f19 rfl, kE f20 rfl, kE f21 rfl, kE f22 rfl, kE f23 rfl, kE f24 rfl, kE f25 rfl, fun h => by obtain hrl := f26 (by rw [← getD_set_ne true (show 38 ≠ 26 by decide)]; exact h); exact (by rw [upd_ne x _ (by decide)]; exact hrl), kE f27 rfl, kE f28 rfl, kE f29 rfl, kE f30 rfl, fun h => by obtain hrl := f31 (by rw [← getD_set_ne true (show 38 ≠ 31 by decide)]; exact h); exact (by rw [upd_ne x _ (by decide)]; exact hrl), kE f32 rfl, fun h => by obtain hrl := f33 (by rw [← getD_set_ne true (show 38 ≠ 33 by decide)]; exact h); exact (by rw [upd_ne x _ (by decide)]; exact hrl), kE f34 rfl, kE f35 rfl, kE f36 rfl, kE f37 rfl, fun _ => upd_same _ _ _, fun h => by obtain hrl := f39 (by rw [← getD_set_ne true (show 38 ≠ 39 by decide)]; exact h); exact (by rw [upd_ne x _ (by decide)]; exact hrl), kE f40 rfl, kE f41 rfl, fun h => by obtain hrl := f42 (by rw [← getD_set_ne true (show 38 ≠ 42 by decide)]; exact h); exact (by rw [upd_ne x _ (by decide)]; exact hrl), kE f43 rfl, kE f44 rfl, kE f45 rfl, kE f46 rfl, kE f47 rfl, kE f48 rfl, kE f49 rfl, kE f50 rfl, kE f51 rfl, kE f52 rfl, kE f53 rfl, kE f54 rfl⟩⟩
    · have d36 := getD_ft (haf _ rfl ⟨36, .guard⟩ (by simp) rfl)
      have e129 : b.eval (.tmp 129) = .bool true := by rw [hbe, eval_in _ _ _ 36 (by decide) rfl (by rw [hz0]; decide)]; exact f36 d36
      have t129 : b.tmps[129]?.getD undef = .bool true := by have tv := e129; simpa only [Act.eval, Array.getD_eq_getD_getElem?] using tv
      have d37 := getD_ft (haf _ rfl ⟨37, .data⟩ (by simp) rfl)
      have e130 : b.eval (.tmp 130) = .slice A3 n3 c3_ := by rw [hbe, eval_in _ _ _ 37 (by decide) rfl (by rw [hz0]; decide)]; exact f37 d37
      have t130 : b.tmps[130]?.getD undef = .slice A3 n3 c3_ := by have tv := e130; simpa only [Act.eval, Array.getD_eq_getD_getElem?] using tv
      have d38 := getD_ft (haf _ rfl ⟨38, .data⟩ (by simp) rfl)
      have e131 : b.eval (.tmp 131) = .int .i64 q := by rw [hbe, eval_in _ _ _ 38 (by decide) rfl (by rw [hz0]; decide)]; exact f38 d38
      have t131 : b.tmps[131]?.getD undef = .int .i64 q := by have tv := e131; simpa only [Act.eval, Array.getD_eq_getD_getElem?] using tv
      refine wpOp_call_on rfl (wanted_on rfl rfl rfl t129) 21 #[.tmp 130, .tmp 131] _ rfl #[.slice A3 n3 c3_, .int .i64 q] (by simp [e130, e131]) Try.func21 rfl rfl ?_
      refine (vfrom_any A3 n3 c3_ ms q w' HD3.out (by omega) (h3.up hBw) mf HMF.out).mono ?_
      rintro e w'' ⟨v9, rfl, hr, hb⟩
      exact ⟨_, rfl, _, _, rfl, rfl, ⟨hBw.trans (hb.mono hBw.size), kE f0 rfl, kE f1 rfl, kE f2 rfl, kE f3 rfl, kE f4 rfl, kE f5 rfl, kE f6 rfl, kE f7 rfl, kE f8 rfl, kE f9 rfl, kE f10 rfl, kE f11 rfl, kE f12 rfl, kE f13 rfl, kE f14 rfl, kE f15 rfl, kE f16 rfl, kE f17 rfl, kE f18 rfl, kE f19 rfl, kE f20 rfl, kE f21 rfl, kE f22 rfl, kE f23 rfl, kE f24 rfl, kE f25 rfl, fun h => by obtain hrl := f26 (by rw [← getD_set_ne true (show 39 ≠ 26 by decide)]; exact h); exact (by rw [upd_ne x _ (by decide)]; exact hrl.below hb), kE f27 rfl, kE f28 rfl, kE f29 rfl, kE f30 rfl, fun h => by obtain hrl := f31 (by rw [← getD_set_ne true (show 39 ≠ 31 by decide)]; exact h); exact (by rw [upd_ne x _ (by decide)]; exact hrl.below hb), kE f32 rfl, fun h => by obtain hrl := f33 (by rw [← getD_set_ne true (show 39 ≠ 33 by decide)]; exact h); exact (by rw [upd_ne x _ (by decide)]; exact hrl.below hb), kE f34 rfl, kE f35 rfl, kE f36 rfl, kE f37 rfl, kE f38 rfl, fun _ => (by rw [upd_same]; exact (EL.of_own hr)), kE f40 rfl, kE f41 rfl, fun h => by obtain hrl := f42 (by rw [← getD_set_ne true (show 39 ≠ 42 by decide)]; exact h); exact (by rw [upd_ne x _ (by decide)]; exact hrl.below hb), kE f43 rfl, kE f44 rfl, kE f45 rfl, kE f46 rfl, kE f47 rfl, kE f48 rfl, kE f49 rfl, kE f50 rfl, kE f51 rfl, kE f52 rfl, kE f53 rfl, kE f54 rfl⟩⟩
    · have d36 := getD_ft (haf _ rfl ⟨36, .guard⟩ (by simp) rfl)
      have e129 : b.eval (.tmp 129) = .bool true := by rw [hbe, eval_in _ _ _ 36 (by decide) rfl (by rw [hz0]; decide)]; exact f36 d36
      have t129 : b.tmps[129]?.getD undef = .bool true := by have tv := e129; simpa only [Act.eval, Array.getD_eq_getD_getElem?] using tv
      refine wpOp_runs_on (v := .slice A3 n3 c3_) rfl (wanted_on rfl rfl rfl t129) (by simp [execOp, go_sem, t4]) ⟨_, _, rfl, rfl, ⟨hBw, kE f0 rfl, kE f1 rfl, kE f2 rfl, kE f3 rfl, kE f4 rfl, kE f5 rfl, kE f6 rfl, kE f7 rfl, kE f8 rfl, kE f9 rfl, kE f10 rfl, kE f11 rfl, kE f12 rfl, kE f13 rfl, kE f14 rfl, kE f15 rfl, kE f16 rfl, kE f17 rfl, kE f18 rfl, kE f19 rfl, kE f20 rfl, kE f21 rfl, kE f22 rfl, kE f23 rfl, kE f24 rfl, kE f25 rfl, fun h => by obtain hrl := f26 (by rw [← getD_set_ne true (show 40 ≠ 26 by decide)]; exact h); exact (by rw [upd_ne x _ (by decide)]; exact hrl), kE f27 rfl, kE f28 rfl, kE f29 rfl, kE f30 rfl, fun h => by obtain hrl := f31 (by rw [← getD_set_ne true (show 40 ≠ 31 by decide)]; exact h); exact (by rw [upd_ne x _ (by decide)]; exact hrl), kE f32 rfl, fun h => by obtain hrl := f33 (by rw [← getD_set_ne true (show 40 ≠ 33 by decide)]; exact h); exact (by rw [upd_ne x _ (by decide)]; exact hrl), kE f34 rfl, kE f35 rfl, kE f36 rfl, kE f37 rfl, kE f38 rfl, fun h => by obtain hrl := f39 (by rw [← getD_set_ne true (show 40 ≠ 39 by decide)]; exact h); exact (by rw [upd_ne x _ (by decide)]; exact hrl), fun _ => upd_same _ _ _, kE f41 rfl, fun h => by obtain hrl := f42 (by rw [← getD_set_ne true (show 40 ≠ 42 by decide)]; exact h); exact (by rw [upd_ne x _ (by decide)]; exact hrl), kE f43 rfl, kE f44 rfl, kE f45 rfl, kE f46 rfl, kE f47 rfl, kE f48 rfl, kE f49 rfl, kE f50 rfl, kE f51 rfl, kE f52 rfl, kE f53 rfl, kE f54 rfl⟩⟩
    · have d36 := getD_ft (haf _ rfl ⟨36, .guard⟩ (by simp) rfl)
      have e129 : b.eval (.tmp 129) = .bool true := by rw [hbe, eval_in _ _ _ 36 (by decide) rfl (by rw [hz0]; decide)]; exact f36 d36
      have t129 : b.tmps[129]?.getD undef = .bool true := by have tv := e129; simpa only [Act.eval, Array.getD_eq_getD_getElem?] using tv
      refine wpOp_runs_on (v := .int .i64 q) rfl (wanted_on rfl rfl rfl t129) (by simp [execOp, go_sem, t5]) ⟨_, _, rfl, rfl, ⟨hBw, kE f0 rfl, kE f1 rfl, kE f2 rfl, kE f3 rfl, kE f4 rfl, kE f5 rfl, kE f6 rfl, kE f7 rfl, kE f8 rfl, kE f9 rfl, kE f10 rfl, kE f11 rfl, kE f12 rfl, kE f13 rfl, kE f14 rfl, kE f15 rfl, kE f16 rfl, kE f17 rfl, kE f18 rfl, kE f19 rfl, kE f20 rfl, kE f21 rfl, kE f22 rfl, kE f23 rfl, kE f24 rfl, kE f25 rfl, fun h => by obtain hrl := f26 (by rw [← getD_set_ne true (show 41 ≠ 26 by decide)]; exact h); exact (by rw [upd_ne x _ (by decide)]; exact hrl), kE f27 rfl, kE f28 rfl, kE f29 rfl, kE f30 rfl, fun h => by obtain hrl := f31 (by rw [← getD_set_ne true (show 41 ≠ 31 by decide)]; exact h); exact (by rw [upd_ne x _ (by decide)]; exact hrl), kE f32 rfl, fun h => by obtain hrl := f33 (by rw [← getD_set_ne true (show 41 ≠ 33 by decide)]; exact h); exact (by rw [upd_ne x _ (by decide)]; exact hrl), kE f34 rfl, kE f35 rfl, kE f36 rfl, kE f37 rfl, kE f38 rfl, fun h => by obtain hrl := f39 (by rw [← getD_set_ne true (show 41 ≠ 39 by decide)]; exact h); exact (by rw [upd_ne x _ (by decide)]; exact hrl), kE f40 rfl, fun _ => upd_same _ _ _, fun h => by obtain hrl := f42 (by rw [← getD_set_ne true (show 41 ≠ 42 by decide)]; exact h); exact (by rw [upd_ne x _ (by decide)]; exact hrl), kE f43 rfl, kE f44 rfl, kE f45 rfl, kE f46 rfl, kE f47 rfl, kE f48 rfl, kE f49 rfl, kE f50 rfl, kE f51 rfl, kE f52 rfl, kE f53 rfl, kE f54 rfl⟩⟩
    · have d36 := getD_ft (haf _ rfl ⟨36, .guard⟩ (by simp) rfl)
      have e129 : b.eval (.tmp 129) = .bool true := by rw [hbe, eval_in _ _ _ 36 (by decide) rfl (by rw [hz0]; decide)]; exact f36 d36
      have t129 : b.tmps[129]?.getD undef = .bool true := by have tv := e129; simpa only [Act.eval, Array.getD_eq_getD_getElem?] using tv
      have d40 := getD_ft (haf _ rfl ⟨40, .data⟩ (by simp) rfl)
      have e133 : b.eval (.tmp 133) = .slice A3 n3 c3_ := by rw [hbe, eval_in _ _ _ 40 (by decide) rfl (by rw [hz0]; decide)]; exact f40 d40
      have t133 : b.tmps[133]?.getD undef = .slice A3 n3 c3_ := by have tv := e133; simpa only [Act.eval, Array.getD_eq_getD_getElem?] using tv
      have d41 := getD_ft (haf _ rfl ⟨41, .data⟩ (by simp) rfl)
      have e134 : b.eval (.tmp 134) = .int .i64 q := by rw [hbe, eval_in _ _ _ 41 (by decide) rfl (by rw [hz0]; decide)]; exact f41 d41
      have t134 : b.tmps[134]?.getD undef = .int .i64 q := by have tv := e134; simpa only [Act.eval, Array.getD_eq_getD_getElem?] using tv
      refine wpOp_call_on rfl (wanted_on rfl rfl rfl t129) 22 #[.tmp 133, .tmp 134] _ rfl #[.slice A3 n3 c3_, .int .i64 q] (by simp [e133, e134]) Try.func22 rfl rfl ?_
      refine (rfrom11_any A3 n3 c3_ ms q w' HD3.out (by omega) (h3.up hBw) mf HMF.out).mono ?_
      rintro e w'' ⟨v9, rfl, hr, hb⟩
      exact ⟨_, rfl, _, _, rfl, rfl, ⟨hBw.trans (hb.mono hBw.size), kE f0 rfl, kE f1 rfl, kE f2 rfl, kE f3 rfl, kE f4 rfl, kE f5 rfl, kE f6 rfl, kE f7 rfl, kE f8 rfl, kE f9 rfl, kE f10 rfl, kE f11 rfl, kE f12 rfl, kE f13 rfl, kE f14 rfl, kE f15 rfl, kE f16 rfl, kE f17 rfl, kE f18 rfl, kE f19 rfl, kE f20 rfl, kE f21 rfl, kE f22 rfl, kE f23 rfl, kE f24 rfl, kE f25 rfl, fun h => by obtain hrl := f26 (by rw [← getD_set_ne true (show 42 ≠ 26 by decide)]; exact h); exact (by rw [upd_ne x _ (by decide)]; exact hrl.below hb), kE f27 rfl, kE f28 rfl, kE f29 rfl, kE f30 rfl, fun h => by obtain hrl := f31 (by rw [← getD_set_ne true (show 42 ≠ 31 by decide)]; exact h); exact (by rw [upd_ne x _ (by decide)]; exact hrl.below hb), kE f32 rfl, fun h => by obtain hrl := f33 (by rw [← getD_set_ne true (show 42 ≠ 33 by decide)]; exact h); exact (by rw [upd_ne x _ (by decide)]; exact hrl.below hb), kE f34 rfl, kE f35 rfl, kE f36 rfl, kE f37 rfl, kE f38 rfl, fun h => by obtain hrl := f39 (by rw [← getD_set_ne true (show 42 ≠ 39 by decide)]; exact h); exact (by rw [upd_ne x _ (by decide)]; exact hrl.below hb), kE f40 rfl, kE f41 rfl, fun _ => (by rw [upd_same]; exact (EL.of_own hr)), kE f43 rfl, kE f44 rfl, kE f45 rfl, kE f46 rfl, kE f47 rfl, kE f48 rfl, kE f49 rfl, kE f50 rfl, kE f51 rfl, kE f52 rfl, kE f53 rfl, kE f54 rfl⟩⟩
    · have d36 := getD_ft (haf _ rfl ⟨36, .guard⟩ (by simp) rfl)
      have e129 : b.eval (.tmp 129) = .bool true := by rw [hbe, eval_in _ _ _ 36 (by decide) rfl (by rw [hz0]; decide)]; exact f36 d36
      have t129 : b.tmps[129]?.getD undef = .bool true := by have tv := e129; simpa only [Act.eval, Array.getD_eq_getD_getElem?] using tv
      have d39 := getD_ft (haf _ rfl ⟨39, .data⟩ (by simp) rfl)
      have q39 := f39 d39
      have e132 : b.eval (.tmp 132) = x 39 := by rw [hbe, eval_in _ _ _ 39 (by decide) rfl (by rw [hz0]; decide)]
      have t132 : b.tmps[132]?.getD undef = x 39 := by have tv := e132; simpa only [Act.eval, Array.getD_eq_getD_getElem?] using tv
      have d42 := getD_ft (haf _ rfl ⟨42, .data⟩ (by simp) rfl)
      have q42 := f42 d42
      have e135 : b.eval (.tmp 135) = x 42 := by rw [hbe, eval_in _ _ _ 42 (by decide) rfl (by rw [hz0]; decide)]
      have t135 : b.tmps[135]?.getD undef = x 42 := by have tv := e135; simpa only [Act.eval, Array.getD_eq_getD_getElem?] using tv
      refine wpOp_call_on rfl (wanted_on rfl rfl rfl t129) 17 #[.tmp 132, .tmp 135] _ rfl #[x 39, x 42] (by simp [e132, e135]) Try.func17 rfl rfl ?_
      refine (rsameV q39 q42 (by have := HFL.out; omega) true (decide_eq_true rfl)).mono ?_
      rintro e w'' ⟨rfl, hb⟩
      exact ⟨_, rfl, _, _, rfl, rfl, ⟨hBw.trans (hb.mono hBw.size), kE f0 rfl, kE f1 rfl, kE f2 rfl, kE f3 rfl, kE f4 rfl, kE f5 rfl, kE f6 rfl, kE f7 rfl, kE f8 rfl, kE f9 rfl, kE f10 rfl, kE f11 rfl, kE f12 rfl, kE f13 rfl, kE f14 rfl, kE f15 rfl, kE f16 rfl, kE f17 rfl, kE f18 rfl, kE f19 rfl, kE f20 rfl, kE f21 rfl, kE f22 rfl, kE f23 rfl, kE f24 rfl, kE f25 rfl, fun h => by obtain hrl := f26 (by rw [← getD_set_ne true (show 43 ≠ 26 by decide)]; exact h); exact (by rw [upd_ne x _ (by decide)]; exact hrl.below hb), kE f27 rfl, kE f28 rfl, kE f29 rfl, kE f30 rfl, fun h => by obtain hrl := f31 (by rw [← getD_set_ne true (show 43 ≠ 31 by decide)]; exact h); exact (by rw [upd_ne x _ (by decide)]; exact hrl.below hb), kE f32 rfl, fun h => by obtain hrl := f33 (by rw [← getD_set_ne true (show 43 ≠ 33 by decide)]; exact h); exact (by rw [upd_ne x _ (by decide)]; exact hrl.below hb), kE f34 rfl, kE f35 rfl, kE f36 rfl, kE f37 rfl, kE f38 rfl, fun h => by obtain hrl := f39 (by rw [← getD_set_ne true (show 43 ≠ 39 by decide)]; exact h); exact (by rw [upd_ne x _ (by decide)]; exact hrl.below hb), kE f40 rfl, kE f41 rfl, fun h => by obtain hrl := f42 (by rw [← getD_set_ne true (show 43 ≠ 42 by decide)]; exact h); exact (by rw [upd_ne x _ (by decide)]; exact hrl.below hb), fun _ => upd_same _ _ _, kE f44 rfl, kE f45 rfl, kE f46 rfl, kE f47 rfl, kE f48 rfl, kE f49 rfl, kE f50 rfl, kE f51 rfl, kE f52 rfl, kE f53 rfl, kE f54 rfl⟩⟩
    · have d36 := getD_ft (haf _ rfl ⟨36, .data⟩ (by simp) rfl)
      have e129 : b.eval (.tmp 129) = .bool true := by rw [hbe, eval_in _ _ _ 36 (by decide) rfl (by rw [hz0]; decide)]; exact f36 d36
      have t129 : b.tmps[129]?.getD undef = .bool true := by have tv := e129; simpa only [Act.eval, Array.getD_eq_getD_getElem?] using tv
      have d43 := getD_ft (haf _ rfl ⟨43, .data⟩ (by simp) rfl)
      have e136 : b.eval (.tmp 136) = .bool true := by rw [hbe, eval_in _ _ _ 43 (by decide) rfl (by rw [hz0]; decide)]; exact f43 d43
      have t136 : b.tmps[136]?.getD undef = .bool true := by have tv := e136; simpa only [Act.eval, Array.getD_eq_getD_getElem?] using tv
      refine wpOp_runs (v := .bool true) rfl rfl (by simp [execOp, go_sem, t129, t136]) ⟨_, _, rfl, rfl, ⟨hBw, kE f0 rfl, kE f1 rfl, kE f2 rfl, kE f3 rfl, kE f4 rfl, kE f5 rfl, kE f6 rfl, kE f7 rfl, kE f8 rfl, kE f9 rfl, kE f10 rfl, kE f11 rfl, kE f12 rfl, kE f13 rfl, kE f14 rfl, kE f15 rfl, kE f16 rfl, kE f17 rfl, kE f18 rfl, kE f19 rfl, kE f20 rfl, kE f21 rfl, kE f22 rfl, kE f23 rfl, kE f24 rfl, kE f25 rfl, fun h => by obtain hrl := f26 (by rw [← getD_set_ne true (show 44 ≠ 26 by decide)]; exact h); exact (by rw [upd_ne x _ (by decide)]; exact hrl), kE f27 rfl, kE f28 rfl, kE f29 rfl, kE f30 rfl, fun h => by obtain hrl := f31 (by rw [← getD_set_ne true (show 44 ≠ 31 by decide)]; exact h); exact (by rw [upd_ne x _ (by decide)]; exact hrl), kE f32 rfl, fun h => by obtain hrl := f33 (by rw [← getD_set_ne true (show 44 ≠ 33 by decide)]; exact h); exact (by rw [upd_ne x _ (by decide)]; exact hrl), kE f34 rfl, kE f35 rfl, kE f36 rfl, kE f37 rfl, kE f38 rfl, fun h => by obtain hrl := f39 (by rw [← getD_set_ne true (show 44 ≠ 39 by decide)]; exact h); exact (by rw [upd_ne x _ (by decide)]; exact hrl), kE f40 rfl, kE f41 rfl, fun h => by obtain hrl := f42 (by rw [← getD_set_ne true (show 44 ≠ 42 by decide)]; exact h); exact (by rw [upd_ne x _ (by decide)]; exact hrl), kE f43 rfl, fun _ => upd_same _ _ _, kE f45 rfl, kE f46 rfl, kE f47 rfl, kE f48 rfl, kE f49 rfl, kE f50 rfl, kE f51 rfl, kE f52 rfl, kE f53 rfl, kE f54 rfl⟩⟩
    · have d44 := getD_ft (haf _ rfl ⟨44, .data⟩ (by simp) rfl)
      have e137 : b.eval (.tmp 137) = .bool true := by rw [hbe, eval_in _ _ _ 44 (by decide) rfl (by rw [hz0]; decide)]; exact f44 d44
      have t137 : b.tmps[137]?.getD undef = .bool true := by have tv := e137; simpa only [Act.eval, Array.getD_eq_getD_getElem?] using tv
      refine wpOp_runs (v := .bool true) rfl rfl (by simp [execOp, go_sem, t137]) ⟨_, _, rfl, rfl, ⟨hBw, kE f0 rfl, kE f1 rfl, kE f2 rfl, kE f3 rfl, kE f4 rfl, kE f5 rfl, kE f6 rfl, kE f7 rfl, kE f8 rfl, kE f9 rfl, kE f10 rfl, kE f11 rfl, kE f12 rfl, kE f13 rfl, kE f14 rfl, kE f15 rfl, kE f16 rfl, kE f17 rfl, kE f18 rfl, kE f19 rfl, kE f20 rfl, kE f21 rfl, kE f22 rfl, kE f23 rfl, kE f24 rfl, kE f25 rfl, fun h => by obtain hrl := f26 (by rw [← getD_set_ne true (show 45 ≠ 26 by decide)]; exact h); exact (by rw [upd_ne x _ (by decide)]; exact hrl), kE f27 rfl, kE f28 rfl, kE f29 rfl, kE f30 rfl, fun h => by obtain hrl := f31 (by rw [← getD_set_ne true (show 45 ≠ 31 by decide)]; exact h); exact (by rw [upd_ne x _ (by decide)]; exact hrl), kE f32 rfl, fun h => by obtain hrl := f33 (by rw [← getD_set_ne true (show 45 ≠ 33 by decide)]; exact h); exact (by rw [upd_ne x _ (by decide)]; exact hrl), kE f34 rfl, kE f35 rfl, kE f36 rfl, kE f37 rfl, kE f38 rfl, fun h => by obtain hrl := f39 (by rw [← getD_set_ne true (show 45 ≠ 39 by decide)]; exact h); exact (by rw [upd_ne x _ (by decide)]; exact hrl), kE f40 rfl, kE f41 rfl, fun h => by obtain hrl := f42 (by rw [← getD_set_ne true (show 45 ≠ 42 by decide)]; exact h); exact (by rw [upd_ne x _ (by decide)]; exact hrl), kE f43 rfl, kE f44 rfl, fun _ => upd_same _ _ _, kE f46 rfl, kE f47 rfl, kE f48 rfl, kE f49 rfl, kE f50 rfl, kE f51 rfl, kE f52 rfl, kE f53 rfl, kE f54 rfl⟩⟩
    · have d45 := getD_ft (haf _ rfl ⟨45, .guard⟩ (by simp) rfl)
      have e138 : b.eval (.tmp 138) = .bool true := by rw [hbe, eval_in _ _ _ 45 (by decide) rfl (by rw [hz0]; decide)]; exact f45 d45
      have t138 : b.tmps[138]?.getD undef = .bool true := by have tv := e138; simpa only [Act.eval, Array.getD_eq_getD_getElem?] using tv
      refine wpOp_runs_on (v := .slice A3 n3 c3_) rfl (wanted_on rfl rfl rfl t138) (by simp [execOp, go_sem, t4]) ⟨_, _, rfl, rfl, ⟨hBw, kE f0 rfl, kE f1 rfl, kE f2 rfl, kE f3 rfl, kE f4 rfl, kE f5 rfl, kE f6 rfl, kE f7 rfl, kE f8 rfl, kE f9 rfl, kE f10 rfl, kE f11 rfl, kE f12 rfl, kE f13 rfl, kE f14 rfl, kE f15 rfl, kE f16 rfl, kE f17 rfl, kE f18 rfl, kE f19 rfl, kE f20 rfl, kE f21 rfl, kE f22 rfl, kE f23 rfl, kE f24 rfl, kE f25 rfl, fun h => by obtain hrl := f26 (by rw [← getD_set_ne true (show 46 ≠ 26 by decide)]; exact h); exact (by rw [upd_ne x _ (by decide)]; exact hrl), kE f27 rfl, kE f28 rfl, kE f29 rfl, kE f30 rfl, fun h => by obtain hrl := f31 (by rw [← getD_set_ne true (show 46 ≠ 31 by decide)]; exact h); exact (by rw [upd_ne x _ (by decide)]; exact hrl), kE f32 rfl, fun h => by obtain hrl := f33 (by rw [← getD_set_ne true (show 46 ≠ 33 by decide)]; exact h); exact (by rw [upd_ne x _ (by decide)]; exact hrl), kE f34 rfl, kE f35 rfl, kE f36 rfl, kE f37 rfl, kE f38 rfl, fun h => by obtain hrl := f39 (by rw [← getD_set_ne true (show 46 ≠ 39 by decide)]; exact h); exact (by rw [upd_ne x _ (by decide)]; exact hrl), kE f40 rfl, kE f41 rfl, fun h => by obtain hrl := f42 (by rw [← getD_set_ne true (show 46 ≠ 42 by decide)]; exact h); exact (by rw [upd_ne x _ (by decide)]; exact hrl), kE f43 rfl, kE f44 rfl, kE f45 rfl, fun _ => upd_same _ _ _, kE f47 rfl, kE f48 rfl, kE f49 rfl, kE f50 rfl, kE f51 rfl, kE f52 rfl, kE f53 rfl, kE f54 rfl⟩⟩
    · have d45 := getD_ft (haf _ rfl ⟨45, .guard⟩ (by simp) rfl)
      have e138 : b.eval (.tmp 138) = .bool true := by rw [hbe, eval_in _ _ _ 45 (by decide) rfl (by rw [hz0]; decide)]; exact f45 d45
      have t138 : b.tmps[138]?.getD undef = .bool true := by have tv := e138; simpa only [Act.eval, Array.getD_eq_getD_getElem?] using tv
      refine wpOp_runs_on (v := va) rfl (wanted_on rfl rfl rfl t138) (by simp [execOp, go_sem, t25]) ⟨_, _, rfl, rfl, ⟨hBw, kE f0 rfl, kE f1 rfl, kE f2 rfl, kE f3 rfl, kE f4 rfl, kE f5 rfl, kE f6 rfl, kE f7 rfl, kE f8 rfl, kE f9 rfl, kE f10 rfl, kE f11 rfl, kE f12 rfl, kE f13 rfl, kE f14 rfl, kE f15 rfl, kE f16 rfl, kE f17 rfl, kE f18 rfl, kE f19 rfl, kE f20 rfl, kE f21 rfl, kE f22 rfl, kE f23 rfl, kE f24 rfl, kE f25 rfl, fun h => by obtain hrl := f26 (by rw [← getD_set_ne true (show 47 ≠ 26 by decide)]; exact h); exact (by rw [upd_ne x _ (by decide)]; exact hrl), kE f27 rfl, kE f28 rfl, kE f29 rfl, kE f30 rfl, fun h => by obtain hrl := f31 (by rw [← getD_set_ne true (show 47 ≠ 31 by decide)]; exact h); exact (by rw [upd_ne x _ (by decide)]; exact hrl), kE f32 rfl, fun h => by obtain hrl := f33 (by rw [← getD_set_ne true (show 47 ≠ 33 by decide)]; exact h); exact (by rw [upd_ne x _ (by decide)]; exact hrl), kE f34 rfl, kE f35 rfl, kE f36 rfl, kE f37 rfl, kE f38 rfl, fun h => by obtain hrl := f39 (by rw [← getD_set_ne true (show 47 ≠ 39 by decide)]; exact h); exact (by rw [upd_ne x _ (by decide)]; exact hrl), kE f40 rfl, kE f41 rfl, fun h => by obtain hrl := f42 (by rw [← getD_set_ne true (show 47 ≠ 42 by decide)]; exact h); exact (by rw [upd_ne x _ (by decide)]; exact hrl), kE f43 rfl, kE f44 rfl, kE f45 rfl, kE f46 rfl, fun _ => upd_same _ _ _, kE f48 rfl, kE f49 rfl, kE f50 rfl, kE f51 rfl, kE f52 rfl, kE f53 rfl, kE f54 rfl⟩⟩
    · have d45 := getD_ft (haf _ rfl ⟨45, .guard⟩ (by simp) rfl)
      have e138 : b.eval (.tmp 138) = .bool true := by rw [hbe, eval_in _ _ _ 45 (by decide) rfl (by rw [hz0]; decide)]; exact f45 d45
      have t138 : b.tmps[138]?.getD undef = .bool true := by have tv := e138; simpa only [Act.eval, Array.getD_eq_getD_getElem?] using tv
      have d46 := getD_ft (haf _ rfl ⟨46, .data⟩ (by simp) rfl)
      have e139 : b.eval (.tmp 139) = .slice A3 n3 c3_ := by rw [hbe, eval_in _ _ _ 46 (by decide) rfl (by rw [hz0]; decide)]; exact f46 d46
      have t139 : b.tmps[139]?.getD undef = .slice A3 n3 c3_ := by have tv := e139; simpa only [Act.eval, Array.getD_eq_getD_getElem?] using tv
      have d47 := getD_ft (haf _ rfl ⟨47, .data⟩ (by simp) rfl)
      have e140 : b.eval (.tmp 140) = va := by rw [hbe, eval_in _ _ _ 47 (by decide) rfl (by rw [hz0]; decide)]; exact f47 d47
      have t140 : b.tmps[140]?.getD undef = va := by have tv := e140; simpa only [Act.eval, Array.getD_eq_getD_getElem?] using tv
      refine wpOp_call_on rfl (wanted_on rfl rfl rfl t138) 23 #[.tmp 139, .tmp 140] _ rfl #[.slice A3 n3 c3_, va] (by simp [e139, e140]) Try.func23 rfl rfl ?_
      refine (vsameV (hem.below hBw) (hea.below hBw) (by have := HML.out; omega) (by have := HML.out; omega) r0 HR0.out).mono ?_
      rintro e w'' ⟨rfl, hb⟩
      exact ⟨_, rfl, _, _, rfl, rfl, ⟨hBw.trans (hb.mono hBw.size), kE f0 rfl, kE f1 rfl, kE f2 rfl, kE f3 rfl, kE f4 rfl, kE f5 rfl, kE f6 rfl, kE f7 rfl, kE f8 rfl, kE f9 rfl, kE f10 rfl, kE f11 rfl, kE f12 rfl, kE f13 rfl, kE f14 rfl, kE f15 rfl, kE f16 rfl, kE f17 rfl, kE f18 rfl, kE f19 rfl, kE f20 rfl, kE f21 rfl, kE f22 rfl, kE f23 rfl, kE f24 rfl, kE f25 rfl, fun h => by obtain hrl := f26 (by rw [← getD_set_ne true (show 48 ≠ 26 by decide)]; exact h); exact (by rw [upd_ne x _ (by decide)]; exact hrl.below hb), kE f27 rfl, kE f28 rfl, kE f29 rfl, kE f30 rfl, fun h => by obtain hrl := f31 (by rw [← getD_set_ne true (show 48 ≠ 31 by decide)]; exact h); exact (by rw [upd_ne x _ (by decide)]; exact hrl.below hb), kE f32 rfl, fun h => by obtain hrl := f33 (by rw [← getD_set_ne true (show 48 ≠ 33 by decide)]; exact h); exact (by rw [upd_ne x _ (by decide)]; exact hrl.below hb), kE f34 rfl, kE f35 rfl, kE f36 rfl, kE f37 rfl, kE f38 rfl, fun h => by obtain hrl := f39 (by rw [← getD_set_ne true (show 48 ≠ 39 by decide)]; exact h); exact (by rw [upd_ne x _ (by decide)]; exact hrl.below hb), kE f40 rfl, kE f41 rfl, fun h => by obtain hrl := f42 (by rw [← getD_set_ne true (show 48 ≠ 42 by decide)]; exact h); exact (by rw [upd_ne x _ (by decide)]; exact hrl.below hb), kE f43 rfl, kE f44 rfl, kE f45 rfl, kE f46 rfl, kE f47 rfl, fun _ => upd_same _ _ _, kE f49 rfl, kE f50 rfl, kE f51 rfl, kE f52 rfl, kE f53 rfl, kE f54 rfl⟩⟩
    · have d45 := getD_ft (haf _ rfl ⟨45, .guard⟩ (by simp) rfl)
      have e138 : b.eval (.tmp 138) = .bool true := by rw [hbe, eval_in _ _ _ 45 (by decide) rfl (by rw [hz0]; decide)]; exact f45 d45
      have t138 : b.tmps[138]?.getD undef = .bool true := by have tv := e138; simpa only [Act.eval, Array.getD_eq_getD_getElem?] using tv
      refine wpOp_runs_on (v := .slice A3 n3 c3_) rfl (wanted_on rfl rfl rfl t138) (by simp [execOp, go_sem, t4]) ⟨_, _, rfl, rfl, ⟨hBw, kE f0 rfl, kE f1 rfl, kE f2 rfl, kE f3 rfl, kE f4 rfl, kE f5 rfl, kE f6 rfl, kE f7 rfl, kE f8 rfl, kE f9 rfl, kE f10 rfl, kE f11 rfl, kE f12 rfl, kE f13 rfl, kE f14 rfl, kE f15 rfl, kE f16 rfl, kE f17 rfl, kE f18 rfl, kE f19 rfl, kE f20 rfl, kE f21 rfl, kE f22 rfl, kE f23 rfl, kE f24 rfl, kE f25 rfl, fun h => by obtain hrl := f26 (by rw [← getD_set_ne true (show 49 ≠ 26 by decide)]; exact h); exact (by rw [upd_ne x _ (by decide)]; exact hrl), kE f27 rfl, kE f28 rfl, kE f29 rfl, kE f30 rfl, fun h => by obtain hrl := f31 (by rw [← getD_set_ne true (show 49 ≠ 31 by decide)]; exact h); exact (by rw [upd_ne x _ (by decide)]; exact hrl), kE f32 rfl, fun h => by obtain hrl := f33 (by rw [← getD_set_ne true (show 49 ≠ 33 by decide)]; exact h); exact (by rw [upd_ne x _ (by decide)]; exact hrl), kE f34 rfl, kE f35 rfl, kE f36 rfl, kE f37 rfl, kE f38 rfl, fun h => by obtain hrl := f39 (by rw [← getD_set_ne true (show 49 ≠ 39 by decide)]; exact h); exact (by rw [upd_ne x _ (by decide)]; exact hrl), kE f40 rfl, kE f41 rfl, fun h => by obtain hrl := f42 (by rw [← getD_set_ne true (show 49 ≠ 42 by decide)]; exact h); exact (by rw [upd_ne x _ (by decide)]; exact hrl), kE f43 rfl, kE f44 rfl, kE f45 rfl, kE f46 rfl, kE f47 rfl, kE f48 rfl, fun _ => upd_same _ _ _, kE f50 rfl, kE f51 rfl, kE f52 rfl, kE f53 rfl, kE f54 rfl⟩⟩
    · have d45 := getD_ft (haf _ rfl ⟨45, .guard⟩ (by simp) rfl)
      have e138 : b.eval (.tmp 138) = .bool true := by rw [hbe, eval_in _ _ _ 45 (by decide) rfl (by rw [hz0]; decide)]; exact f45 d45
      have t138 : b.tmps[138]?.getD undef = .bool true := by have tv := e138; simpa only [Act.eval, Array.getD_eq_getD_getElem?] using tv
      refine wpOp_runs_on (v := va) rfl (wanted_on rfl rfl rfl t138) (by simp [execOp, go_sem, t25]) ⟨_, _, rfl, rfl, ⟨hBw, kE f0 rfl, kE f1 rfl, kE f2 rfl, kE f3 rfl, kE f4 rfl, kE f5 rfl, kE f6 rfl, kE f7 rfl, kE f8 rfl, kE f9 rfl, kE f10 rfl, kE f11 rfl, kE f12 rfl, kE f13 rfl, kE f14 rfl, kE f15 rfl, kE f16 rfl, kE f17 rfl, kE f18 rfl, kE f19 rfl, kE f20 rfl, kE f21 rfl, kE f22 rfl, kE f23 rfl, kE f24 rfl, kE f25 rfl, fun h => by obtain hrl := f26 (by rw [← getD_set_ne true (show 50 ≠ 26 by decide)]; exact h); exact (by rw [upd_ne x _ (by decide)]; exact hrl), kE f27 rfl, kE f28 rfl, kE f29 rfl, kE f30 rfl, fun h => by obtain hrl := f31 (by rw [← getD_set_ne true (show 50 ≠ 31 by decide)]; exact h); exact (by rw [upd_ne x _ (by decide)]; exact hrl), kE f32 rfl, fun h => by obtain hrl := f33 (by rw [← getD_set_ne true (show 50 ≠ 33 by decide)]; exact h); exact (by rw [upd_ne x _ (by decide)]; exact hrl), kE f34 rfl, kE f35 rfl, kE f36 rfl, kE f37 rfl, kE f38 rfl, fun h => by obtain hrl := f39 (by rw [← getD_set_ne true (show 50 ≠ 39 by decide)]; exact h); exact (by rw [upd_ne x _ (by decide)]; exact hrl), kE f40 rfl, kE f41 rfl, fun h => by obtain hrl := f42 (by rw [← getD_set_ne true (show 50 ≠ 42 by decide)]; exact h); exact (by rw [upd_ne x _ (by decide)]; exact hrl), kE f43 rfl, kE f44 rfl, kE f45 rfl, kE f46 rfl, kE f47 rfl, kE f48 rfl, kE f49 rfl, fun _ => upd_same _ _ _, kE f51 rfl, kE f52 rfl, kE f53 rfl, kE f54 rfl⟩⟩
    · have d45 := getD_ft (haf _ rfl ⟨45, .guard⟩ (by simp) rfl)
      have e138 : b.eval (.tmp 138) = .bool true := by rw [hbe, eval_in _ _ _ 45 (by decide) rfl (by rw [hz0]; decide)]; exact f45 d45
      have t138 : b.tmps[138]?.getD undef = .bool true := by have tv := e138; simpa only [Act.eval, Array.getD_eq_getD_getElem?] using tv
      have d49 := getD_ft (haf _ rfl ⟨49, .data⟩ (by simp) rfl)
      have e142 : b.eval (.tmp 142) = .slice A3 n3 c3_ := by rw [hbe, eval_in _ _ _ 49 (by decide) rfl (by rw [hz0]; decide)]; exact f49 d49
      have t142 : b.tmps[142]?.getD undef = .slice A3 n3 c3_ := by have tv := e142; simpa only [Act.eval, Array.getD_eq_getD_getElem?] using tv
      have d50 := getD_ft (haf _ rfl ⟨50, .data⟩ (by simp) rfl)
      have e143 : b.eval (.tmp 143) = va := by rw [hbe, eval_in _ _ _ 50 (by decide) rfl (by rw [hz0]; decide)]; exact f50 d50
      have t143 : b.tmps[143]?.getD undef = va := by have tv := e143; simpa only [Act.eval, Array.getD_eq_getD_getElem?] using tv
      refine wpOp_call_on rfl (wanted_on rfl rfl rfl t138) 17 #[.tmp 142, .tmp 143] _ rfl #[.slice A3 n3 c3_, va] (by simp [e142, e143]) Try.func17 rfl rfl ?_
      refine (rsameV (hem.below hBw) (hea.below hBw) (by have := HML.out; omega) r0 HR0.out).mono ?_
      rintro e w'' ⟨rfl, hb⟩
      exact ⟨_, rfl, _, _, rfl, rfl, ⟨hBw.trans (hb.mono hBw.size), kE f0 rfl, kE f1 rfl, kE f2 rfl, kE f3 rfl, kE f4 rfl, kE f5 rfl, kE f6 rfl, kE f7 rfl, kE f8 rfl, kE f9 rfl, kE f10 rfl, kE f11 rfl, kE f12 rfl, kE f13 rfl, kE f14 rfl, kE f15 rfl, kE f16 rfl, kE f17 rfl, kE f18 rfl, kE f19 rfl, kE f20 rfl, kE f21 rfl, kE f22 rfl, kE f23 rfl, kE f24 rfl, kE f25 rfl, fun h => by obtain hrl := f26 (by rw [← getD_set_ne true (show 51 ≠ 26 by decide)]; exact h); exact (by rw [upd_ne x _ (by decide)]; exact hrl.below hb), kE f27 rfl, kE f28 rfl, kE f29 rfl, kE f30 rfl, fun h => by obtain hrl := f31 (by rw [← getD_set_ne true (show 51 ≠ 31 by decide)]; exact h); exact (by rw [upd_ne x _ (by decide)]; exact hrl.below hb), kE f32 rfl, fun h => by obtain hrl := f33 (by rw [← getD_set_ne true (show 51 ≠ 33 by decide)]; exact h); exact (by rw [upd_ne x _ (by decide)]; exact hrl.below hb), kE f34 rfl, kE f35 rfl, kE f36 rfl, kE f37 rfl, kE f38 rfl, fun h => by obtain hrl := f39 (by rw [← getD_set_ne true (show 51 ≠ 39 by decide)]; exact h); exact (by rw [upd_ne x _ (by decide)]; exact hrl.below hb), kE f40 rfl, kE f41 rfl, fun h => by obtain hrl := f42 (by rw [← getD_set_ne true (show 51 ≠ 42 by decide)]; exact h); exact (by rw [upd_ne x _ (by decide)]; exact hrl.below hb), kE f43 rfl, kE f44 rfl, kE f45 rfl, kE f46 rfl, kE f47 rfl, kE f48 rfl, kE f49 rfl, kE f50 rfl, fun _ => upd_same _ _ _, kE f52 rfl, kE f53 rfl, kE f54 rfl⟩⟩
    · have d45 := getD_ft (haf _ rfl ⟨45, .guard⟩ (by simp) rfl)
      have e138 : b.eval (.tmp 138) = .bool true := by rw [hbe, eval_in _ _ _ 45 (by decide) rfl (by rw [hz0]; decide)]; exact f45 d45
      have t138 : b.tmps[138]?.getD undef = .bool true := by have tv := e138; simpa only [Act.eval, Array.getD_eq_getD_getElem?] using tv
      have d48 := getD_ft (haf _ rfl ⟨48, .data⟩ (by simp) rfl)
      have e141 : b.eval (.tmp 141) = .bool r0 := by rw [hbe, eval_in _ _ _ 48 (by decide) rfl (by rw [hz0]; decide)]; exact f48 d48
      have t141 : b.tmps[141]?.getD undef = .bool r0 := by have tv := e141; simpa only [Act.eval, Array.getD_eq_getD_getElem?] using tv
      have d51 := getD_ft (haf _ rfl ⟨51, .data⟩ (by simp) rfl)
      have e144 : b.eval (.tmp 144) = .bool r0 := by rw [hbe, eval_in _ _ _ 51 (by decide) rfl (by rw [hz0]; decide)]; exact f51 d51
      have t144 : b.tmps[144]?.getD undef = .bool r0 := by have tv := e144; simpa only [Act.eval, Array.getD_eq_getD_getElem?] using tv
      refine wpOp_runs_on (v := .bool true) rfl (wanted_on rfl rfl rfl t138) (by simp [execOp, go_sem, t141, t144, hBR]) ⟨_, _, rfl, rfl, ⟨hBw, kE f0 rfl, kE f1 rfl, kE f2 rfl, kE f3 rfl, kE f4 rfl, kE f5 rfl, kE f6 rfl, kE f7 rfl, kE f8 rfl, kE f9 rfl, kE f10 rfl, kE f11 rfl, kE f12 rfl, kE f13 rfl, kE f14 rfl, kE f15 rfl, kE f16 rfl, kE f17 rfl, kE f18 rfl, kE f19 rfl, kE f20 rfl, kE f21 rfl, kE f22 rfl, kE f23 rfl, kE f24 rfl, kE f25 rfl, fun h => by obtain hrl := f26 (by rw [← getD_set_ne true (show 52 ≠ 26 by decide)]; exact h); exact (by rw [upd_ne x _ (by decide)]; exact hrl), kE f27 rfl, kE f28 rfl, kE f29 rfl, kE f30 rfl, fun h => by obtain hrl := f31 (by rw [← getD_set_ne true (show 52 ≠ 31 by decide)]; exact h); exact (by rw [upd_ne x _ (by decide)]; exact hrl), kE f32 rfl, fun h => by obtain hrl := f33 (by rw [← getD_set_ne true (show 52 ≠ 33 by decide)]; exact h); exact (by rw [upd_ne x _ (by decide)]; exact hrl), kE f34 rfl, kE f35 rfl, kE f36 rfl, kE f37 rfl, kE f38 rfl, fun h => by obtain hrl := f39 (by rw [← getD_set_ne true (show 52 ≠ 39 by decide)]; exact h); exact (by rw [upd_ne x _ (by decide)]; exact hrl), kE f40 rfl, kE f41 rfl, fun h => by obtain hrl := f42 (by rw [← getD_set_ne true (show 52 ≠ 42 by decide)]; exact h); exact (by rw [upd_ne x _ (by decide)]; exact hrl), kE f43 rfl, kE f44 rfl, kE f45 rfl, kE f46 rfl, kE f47 rfl, kE f48 rfl, kE f49 rfl, kE f50 rfl, kE f51 rfl, fun _ => upd_same _ _ _, kE f53 rfl, kE f54 rfl⟩⟩
    · have d45 := getD_ft (haf _ rfl ⟨45, .data⟩ (by simp) rfl)
      have e138 : b.eval (.tmp 138) = .bool true := by rw [hbe, eval_in _ _ _ 45 (by decide) rfl (by rw [hz0]; decide)]; exact f45 d45
      have t138 : b.tmps[138]?.getD undef = .bool true := by have tv := e138; simpa only [Act.eval, Array.getD_eq_getD_getElem?] using tv
      have d52 := getD_ft (haf _ rfl ⟨52, .data⟩ (by simp) rfl)
      have e145 : b.eval (.tmp 145) = .bool true := by rw [hbe, eval_in _ _ _ 52 (by decide) rfl (by rw [hz0]; decide)]; exact f52 d52
      have t145 : b.tmps[145]?.getD undef = .bool true := by have tv := e145; simpa only [Act.eval, Array.getD_eq_getD_getElem?] using tv
      refine wpOp_runs (v := .bool true) rfl rfl (by simp [execOp, go_sem, t138, t145]) ⟨_, _, rfl, rfl, ⟨hBw, kE f0 rfl, kE f1 rfl, kE f2 rfl, kE f3 rfl, kE f4 rfl, kE f5 rfl, kE f6 rfl, kE f7 rfl, kE f8 rfl, kE f9 rfl, kE f10 rfl, kE f11 rfl, kE f12 rfl, kE f13 rfl, kE f14 rfl, kE f15 rfl, kE f16 rfl, kE f17 rfl, kE f18 rfl, kE f19 rfl, kE f20 rfl, kE f21 rfl, kE f22 rfl, kE f23 rfl, kE f24 rfl, kE f25 rfl, fun h => by obtain hrl := f26 (by rw [← getD_set_ne true (show 53 ≠ 26 by decide)]; exact h); exact (by rw [upd_ne x _ (by decide)]; exact hrl), kE f27 rfl, kE f28 rfl, kE f29 rfl, kE f30 rfl, fun h => by obtain hrl := f31 (by rw [← getD_set_ne true (show 53 ≠ 31 by decide)]; exact h); exact (by rw [upd_ne x _ (by decide)]; exact hrl), kE f32 rfl, fun h => by obtain hrl := f33 (by rw [← getD_set_ne true (show 53 ≠ 33 by decide)]; exact h); exact (by rw [upd_ne x _ (by decide)]; exact hrl), kE f34 rfl, kE f35 rfl, kE f36 rfl, kE f37 rfl, kE f38 rfl, fun h => by obtain hrl := f39 (by rw [← getD_set_ne true (show 53 ≠ 39 by decide)]; exact h); exact (by rw [upd_ne x _ (by decide)]; exact hrl), kE f40 rfl, kE f41 rfl, fun h => by obtain hrl := f42 (by rw [← getD_set_ne true (show 53 ≠ 42 by decide)]; exact h); exact (by rw [upd_ne x _ (by decide)]; exact hrl), kE f43 rfl, kE f44 rfl, kE f45 rfl, kE f46 rfl, kE f47 rfl, kE f48 rfl, kE f49 rfl, kE f50 rfl, kE f51 rfl, kE f52 rfl, fun _ => upd_same _ _ _, kE f54 rfl⟩⟩
    · have d53 := getD_ft (haf _ rfl ⟨53, .data⟩ (by simp) rfl)
      have e146 : b.eval (.tmp 146) = .bool true := by rw [hbe, eval_in _ _ _ 53 (by decide) rfl (by rw [hz0]; decide)]; exact f53 d53
      have t146 : b.tmps[146]?.getD undef = .bool true := by have tv := e146; simpa only [Act.eval, Array.getD_eq_getD_getElem?] using tv
      refine wpOp_runs (v := .bool true) rfl rfl (by simp [execOp, go_sem, t146]) ⟨_, _, rfl, rfl, ⟨hBw, kE f0 rfl, kE f1 rfl, kE f2 rfl, kE f3 rfl, kE f4 rfl, kE f5 rfl, kE f6 rfl, kE f7 rfl, kE f8 rfl, kE f9 rfl, kE f10 rfl, kE f11 rfl, kE f12 rfl, kE f13 rfl, kE f14 rfl, kE f15 rfl, kE f16 rfl, kE f17 rfl, kE f18 rfl, kE f19 rfl, kE f20 rfl, kE f21 rfl, kE f22 rfl, kE f23 rfl, kE f24 rfl, kE f25 rfl, fun h => by obtain hrl := f26 (by rw [← getD_set_ne true (show 54 ≠ 26 by decide)]; exact h); exact (by rw [upd_ne x _ (by decide)]; exact hrl), kE f27 rfl, kE f28 rfl, kE f29 rfl, kE f30 rfl, fun h => by obtain hrl := f31 (by rw [← getD_set_ne true (show 54 ≠ 31 by decide)]; exact h); exact (by rw [upd_ne x _ (by decide)]; exact hrl), kE f32 rfl, fun h => by obtain hrl := f33 (by rw [← getD_set_ne true (show 54 ≠ 33 by decide)]; exact h); exact (by rw [upd_ne x _ (by decide)]; exact hrl), kE f34 rfl, kE f35 rfl, kE f36 rfl, kE f37 rfl, kE f38 rfl, fun h => by obtain hrl := f39 (by rw [← getD_set_ne true (show 54 ≠ 39 by decide)]; exact h); exact (by rw [upd_ne x _ (by decide)]; exact hrl), kE f40 rfl, kE f41 rfl, fun h => by obtain hrl := f42 (by rw [← getD_set_ne true (show 54 ≠ 42 by decide)]; exact h); exact (by rw [upd_ne x _ (by decide)]; exact hrl), kE f43 rfl, kE f44 rfl, kE f45 rfl, kE f46 rfl, kE f47 rfl, kE f48 rfl, kE f49 rfl, kE f50 rfl, kE f51 rfl, kE f52 rfl, kE f53 rfl, fun _ => upd_same _ _ _⟩⟩
  intro V x w' hall hF
  obtain ⟨hbF, f0, f1, f2, f3, f4, f5, f6, f7, f8, f9, f10, f11, f12, f13, f14, f15, f16, f17, f18, f19, f20, f21, f22, f23, f24, f25, f26, f27, f28, f29, f30, f31, f32, f33, f34, f35, f36, f37, f38, f39, f40, f41, f42, f43, f44, f45, f46, f47, f48, f49, f50, f51, f52, f53, f54⟩ := hF
  have hx54 := f54 (hall 54 (by decide))
  clear hall f0 f1 f2 f3 f4 f5 f6 f7 f8 f9 f10 f11 f12 f13 f14 f15 f16 f17 f18 f19 f20 f21 f22 f23 f24 f25 f26 f27 f28 f29 f30 f31 f32 f33 f34 f35 f36 f37 f38 f39 f40 f41 f42 f43 f44 f45 f46 f47 f48 f49 f50 f51 f52 f53 f54
  subst ha0
  simp only [List.map_cons, List.map_nil, putAll, hx54]
  clear hx54
  go_simp
  go_wp2_with fail
  go_ret
  exact ⟨rfl, hB.trans (hbF.mono hs)⟩
theorem viewTells_walk (A1 : Option Addr) (n1 c1 : Nat) (ns1 : List Int) (A : Option Addr) (n c : Nat) (ns : List Int) (clk ver : Int) (A2 : Option Addr) (n2 c2 : Nat) (ns2 : List Int) (cl : Int) (b0 b1 b2 b3 b4 b5 : Int) (A3 : Option Addr) (n3 c3_ : Nat) (ns3 : List Int) (q : Int) (hnl1 : ns1.length = n1 * 6) (_ : ∀ m ∈ ns1, (Lit.int .i64 m).wf = true) (hnl : ns.length = n * 5) (_ : ∀ m ∈ ns, (Lit.int .i64 m).wf = true) (_ : (Lit.int .i64 clk).wf = true) (_ : (Lit.int .i64 ver).wf = true) (hnl2 : ns2.length = n2 * 4) (_ : ∀ m ∈ ns2, (Lit.int .i64 m).wf = true) (_ : (Lit.int .i64 cl).wf = true) (_ : ∀ m ∈ [b0, b1, b2, b3, b4, b5], (Lit.int .i64 m).wf = true) (hnl3 : ns3.length = n3 * 8) (_ : ∀ m ∈ ns3, (Lit.int .i64 m).wf = true) (_ : (Lit.int .i64 q).wf = true) (w : World)
    (h1 : Sl w w.heap.size 6 A1 n1 c1 (ns1.map (Value.int .i64))) (h : Sl w w.heap.size 5 A n c (ns.map (Value.int .i64))) (h2 : Sl w w.heap.size 4 A2 n2 c2 (ns2.map (Value.int .i64))) (h3 : Sl w w.heap.size 8 A3 n3 c3_ (ns3.map (Value.int .i64))) :
    Calls Try.prog 3 #[.agg #[.slice A1 n1 c1, .slice A n c, .int .i64 clk, .int .i64 ver], .slice A2 n2 c2, .int .i64 cl, .agg #[.int .i64 b0, .int .i64 b1, .int .i64 b2, .int .i64 b3, .int .i64 b4, .int .i64 b5], .slice A3 n3 c3_, .int .i64 q] w fun e w' => e = .returned (.bool true) ∧ Below w.heap.size w w' := by
  obtain ⟨cs, hd1, hf1⟩ := rowsCo_of n1 ns1 hnl1
  obtain ⟨rs, hd, hf⟩ := rowsRg_of n ns hnl
  obtain ⟨bk, hd2, hf2⟩ := rowsBk_of n2 ns2 hnl2
  obtain ⟨ms, hd3, hf3⟩ := rowsEd_of n3 ns3 hnl3
  rw [hf1] at h1
  rw [hf] at h
  rw [hf2] at h2
  rw [hf3] at h3
  exact viewTells_w A1 n1 c1 cs A n c rs clk ver A2 n2 c2 bk cl ⟨b0, b1, b2, b3, b4, b5⟩ A3 n3 c3_ ms q hd1 hd hd2 hd3 w h1 h h2 h3
theorem viewTells_own : ownKnob Try.prog.godebug = none := by kernel_rfl
theorem viewTells_laidOut : laidOutB Try.prog = true := by kernel_rfl

set_option maxHeartbeats 1000000 in
set_option maxRecDepth 100000 in
theorem viewTells_lifted (os : Os) (started : os.Started) (H : Type) (enc : TypeId × Value → H) :
    ReturnsInHanded {} Try.checked os 3 .any (Rows.viewTellsSpec.pre6 enc Try.prog Try.f3 Rows.viewTellsRow.domain false) (Rows.viewTellsSpec.post enc Try.prog Try.f3 false true false false) := by
  refine returnsInHanded_of_change (C := Try.checked) viewTells_own started (by kernel_rfl) Try.func3
    (ChangeSpec.witness6 (enc := enc) (C := Try.checked) false ⟨#[], #[.agg #[.slice none 0 0, .slice none 0 0, .int .i64 0, .int .i64 0], .slice none 0 0, .int .i64 0, .agg #[.int .i64 0, .int .i64 0, .int .i64 0, .int .i64 0, .int .i64 0, .int .i64 0], .slice none 0 0, .int .i64 0], []⟩ 8 (by kernel_rfl) (by kernel_rfl) (by kernel_rfl) (by kernel_rfl)) ?_
  intro W base args ds gs before hval0 hW hcnd _
  have hval : ∀ (j : Nat) t v, Try.f3.params[j]? = some t → args[j]? = some v → Value.okWide Try.prog W .any base t v := hval0
  have hW' := hW
  obtain ⟨p, q, hA0, hV, rfl, hfz, hnd⟩ := hW
  have hA : DataW.TrodAll enc Try.prog W 0 (fun _ => true) true Try.f3.params.toList args.toList ds p := hA0
  rw [Try.params3] at hA hval
  obtain ⟨v0, vs0, d0, ds0, p0, q0, hargs, rfl, rfl, h0, r0⟩ := trodAll_cons hA
  obtain ⟨v1, vs1, d1, ds1, p1, q1, rfl, rfl, rfl, h1, r1⟩ := trodAll_cons r0
  obtain ⟨v2, vs2, d2, ds2, p2, q2, rfl, rfl, rfl, h2, r2⟩ := trodAll_cons r1
  obtain ⟨v3, vs3, d3, ds3, p3, q3, rfl, rfl, rfl, h3, r3⟩ := trodAll_cons r2
  obtain ⟨v4, vs4, d4, ds4, p4, q4, rfl, rfl, rfl, h4, r4⟩ := trodAll_cons r3
  obtain ⟨v5, vs5, d5, ds5, p5, q5, rfl, rfl, rfl, h5, r5⟩ := trodAll_cons r4
  obtain ⟨rfl, rfl, rfl⟩ := trodAll_nil r5
  obtain rfl : args = #[v0, v1, v2, v3, v4, v5] := by cases args; simp_all
  obtain ⟨rfl, rfl⟩ := trodVars_none hV
  obtain ⟨A0, n0, c0, ns0, B0, m0, k0, ms0, x0, y0, rfl, hl0, nl0, w0, hm0, ml0, wm0, wx0, wy0⟩ := open_plan 4 (e0 := 28) (e1 := 59) (K0 := 6) (K1 := 5) Try.underlying25 (by kernel_rfl) (by kernel_rfl) (by kernel_rfl) (by kernel_rfl) (by kernel_rfl) (by kernel_rfl) (by kernel_rfl) (by kernel_rfl) (by omega) (by kernel_rfl) (by omega) (hval 0 25 v0 rfl rfl) h0
  obtain ⟨A1, n1, c1, ns1, rfl, hl1, nl1, w1⟩ := open_rowsS 4 (K := 4) Try.underlying26 (by kernel_rfl) (by kernel_rfl) (by omega) (hval 1 26 v1 rfl rfl) h1
  obtain ⟨a2, rfl, rfl, rfl, w2⟩ := open_int Try.underlying3 (hval 2 3 v2 rfl rfl) h2
  obtain ⟨n3, e3, l3, w3⟩ := open_flat 4 Try.underlying28 (by kernel_rfl) (hval 3 28 v3 rfl rfl) h3
  obtain ⟨a3_0, a3_1, a3_2, a3_3, a3_4, a3_5, rfl⟩ : ∃ a3_0 a3_1 a3_2 a3_3 a3_4 a3_5 : Int, n3 = [a3_0, a3_1, a3_2, a3_3, a3_4, a3_5] := by
    rw [show Try.prog.cellsOf 28 = 6 by kernel_rfl] at l3
    match n3, l3 with
    | [a3_0, a3_1, a3_2, a3_3, a3_4, a3_5], _ => exact ⟨_, _, _, _, _, _, rfl⟩
  obtain rfl : v3 = .agg #[.int .i64 a3_0, .int .i64 a3_1, .int .i64 a3_2, .int .i64 a3_3, .int .i64 a3_4, .int .i64 a3_5] := e3
  obtain ⟨A4, n4, c4, ns4, rfl, hl4, nl4, w4⟩ := open_rowsS 4 (K := 8) Try.underlying29 (by kernel_rfl) (by kernel_rfl) (by omega) (hval 4 29 v4 rfl rfl) h4
  obtain ⟨a5, rfl, rfl, rfl, w5⟩ := open_int Try.underlying3 (hval 5 3 v5 rfl rfl) h5
  clear hA0 hval0
  refine (viewTells_walk A0 n0 c0 ns0 B0 m0 k0 ms0 x0 y0 A1 n1 c1 ns1 a2 a3_0 a3_1 a3_2 a3_3 a3_4 a3_5 A4 n4 c4 ns4 a5 nl0 w0 ml0 wm0 wx0 wy0 nl1 w1 w2 w3 nl4 w4 w5 W hl0 hm0 hl1 hl4).mono fun e W' ⟨he, bel⟩ => ?_
  subst he
  exact ⟨_, rfl, law_post viewTells_laidOut (by kernel_rfl) rfl Try.underlying4 rfl rfl hW' bel⟩

theorem viewTells_proved : Rows.ViewTellsSaid :=
  OpenClaim.holds_of_wide 3 Try.f3 rfl rfl rfl rfl rfl rfl rfl ⟨rfl, rfl, rfl, rfl, rfl⟩ rfl rfl rfl rfl rfl (by kernel_rfl) Try.func3 (by kernel_rfl)
    (of_decide_eq_true (by kernel_rfl)) (by unfold Func.isWrapper; first | (rw [if_pos (by decide +kernel)]; kernel_rfl) | (rw [if_neg (by decide +kernel)]; exact ⟨rfl, rfl⟩))
    (fun os started H enc _ => viewTells_lifted os started H enc)
#print axioms viewTells_proved
end Go.Proofs.Ytfdphpmcgidmiaa
