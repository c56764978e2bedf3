/- What is right stays right, an error changes nothing, time never goes back, the Version rises by one with each change: PlanRight returns true. No condition. -/
import Derived.Test.YtolaabllhibkdaaGreatW9
import Derived.Test.YtolaabllhibkdaaGreatRows
namespace Go.Proofs.YtolaabllhibkdaaGreat
open Go.ChangeShapes Go.WideShapes Go.ChangeAt Go.RowKit Go.Sort
set_option linter.unusedSimpArgs false
set_option linter.unusedVariables false
theorem wf_flatAp {ns : List Int} {d : List Ap} (hw : ∀ m ∈ ns, (Lit.int .i64 m).wf = true) (hf : ns.map (Value.int .i64) = flatAp d) {j : Nat} (hj : j < d.length) : (Lit.int .i64 (gAp d j).op).wf = true ∧ (Lit.int .i64 (gAp d j).kd).wf = true := by
  have key : ∀ (k : Nat) (x : Int), (flatAp d)[k]? = some (.int .i64 x) → (Lit.int .i64 x).wf = true := by
    intro k x hx
    rw [← hf, List.getElem?_map] at hx
    cases hn : ns[k]? with
    | none => rw [hn] at hx; simp at hx
    | some y =>
      rw [hn] at hx
      simp at hx
      subst hx
      exact hw _ (List.mem_of_getElem? hn)
  exact ⟨key _ _ (flatAp_at1 d j hj), key _ _ (flatAp_at2 d j hj)⟩
set_option maxHeartbeats 16000000 in
set_option maxRecDepth 100000 in
theorem planRight_w (A1 : Option Addr) (n1 c1 : Nat) (A : Option Addr) (n c : Nat) (p : Pl) (Al : Option Addr) (nl cl : Nat) (l : List Ap) (hwf : ∀ j, j < nl → (Lit.int .i64 (gAp l j).op).wf = true ∧ (Lit.int .i64 (gAp l j).kd).wf = true) (hdl : l.length = nl) (hd1 : p.cs.length = n1) (hd : p.rs.length = n) (w : World) (h1 : Sl w w.heap.size 6 A1 n1 c1 (flatCo p.cs)) (h : Sl w w.heap.size 5 A n c (flatRg p.rs)) (hl : Sl w w.heap.size 15 Al nl cl (flatAp l)) :
    Calls Tryz.prog 4 #[.agg #[.slice A1 n1 c1, .slice A n c, .int .i64 p.clk, .int .i64 p.ver], .slice Al nl cl] w fun e w' => e = .returned (.bool true) ∧ Below w.heap.size w w' := by
  have hB : Below w.heap.size w (w.alloc (.cells #[.slice A1 n1 c1, .slice A n c, .int .i64 p.clk, .int .i64 p.ver] 25)) := by (repeat (first | exact Below.refl _ _ | refine Below.alloc ?_ (by first | omega | (simp; done) | (simp; omega)) _ | refine Below.setCell ?_ (by first | omega | (simp; done) | (simp; omega)) _ | refine Below.drew ?_))
  have hP := Blok.new w 25 #[.slice A1 n1 c1, .slice A n c, .int .i64 p.clk, .int .i64 p.ver]
  replace h1 := h1.up hB
  replace h := h.up hB
  have hs := hB.size
  have HDL := Lib.hid hdl
  have HWF := Lib.hid hwf
  have HLL := Lib.hid (fun w' (hb : Below w.heap.size w w') => hl.up hb)
  clear hdl hwf hl
  have HD1 := Lib.hid hd1
  have HD := Lib.hid hd
  clear hd hd1
  go_enter Tryz.func4, Tryz.ntmps4
  go_wp2_with fail
  generalize w.alloc (.cells #[.slice A1 n1 c1, .slice A n c, .int .i64 p.clk, .int .i64 p.ver] 25) = w0 at *
  refine (small08_any w0).mono ?_
  rintro e w1 ⟨rfl, hb⟩
  replace h1 := h1.up hb
  replace h := h.up hb
  replace hP := hP.below hb hP.lt
  replace hB := hB.trans (hb.mono hs)
  replace hs := hB.size
  clear hb
  have p0 : w1.cell? ⟨w.heap.size, 0, none⟩ = some (.slice A1 n1 c1) := hP.cell 0
  have p1 : w1.cell? ⟨w.heap.size, 1, none⟩ = some (.slice A n c) := hP.cell 1
  have p2 : w1.cell? ⟨w.heap.size, 2, none⟩ = some (.int .i64 p.clk) := hP.cell 2
  have p3 : w1.cell? ⟨w.heap.size, 3, none⟩ = some (.int .i64 p.ver) := hP.cell 3
  have lt_p := hP.lt
  go_wp2_with fail
  clear p0 p1 p2 p3 lt_p
  refine (few_any A1 n1 c1 A n c p.clk p.ver w1 _ rfl).mono ?_
  rintro e w2 ⟨rfl, hb⟩
  replace h1 := h1.up hb
  replace h := h.up hb
  replace hP := hP.below hb hP.lt
  replace hB := hB.trans (hb.mono hs)
  replace hs := hB.size
  clear hb
  by_cases hf : ¬ (n1 ≤ 50 ∧ n ≤ 50)
  · rw [decide_eq_false hf]
    go_wp2_with fail
    go_ret
    exact ⟨rfl, hB⟩
  replace hf := Decidable.not_not.1 hf
  rw [decide_eq_true hf]
  obtain ⟨hf1, hf2⟩ := hf
  by_cases hf3 : 50 < nl
  · have g0 : decide ((nl : Int) > 50) = true := decide_eq_true (by omega)
    go_wp2_with fail
    go_ret
    exact ⟨rfl, hB⟩
  have g9 : decide ((nl : Int) > 50) = false := decide_eq_false (by omega)
  have p0 : w2.cell? ⟨w.heap.size, 0, none⟩ = some (.slice A1 n1 c1) := hP.cell 0
  have p1 : w2.cell? ⟨w.heap.size, 1, none⟩ = some (.slice A n c) := hP.cell 1
  have p2 : w2.cell? ⟨w.heap.size, 2, none⟩ = some (.int .i64 p.clk) := hP.cell 2
  have p3 : w2.cell? ⟨w.heap.size, 3, none⟩ = some (.int .i64 p.ver) := hP.cell 3
  have lt_p := hP.lt
  go_wp2_with fail
  clear p0 p1 p2 p3 lt_p g9
  obtain ⟨rb, hrb⟩ : ∃ rb, rightP p.cs p.rs p.clk p.ver = rb := ⟨_, rfl⟩
  refine (pright_any A1 n1 c1 p.cs A n c p.rs p.clk p.ver w2 HD1.out (by omega) HD.out (by omega) h1 h rb hrb).mono ?_
  rintro e w3 ⟨rfl, hb⟩
  replace h1 := h1.up hb
  replace h := h.up hb
  replace hP := hP.below hb hP.lt
  replace hB := hB.trans (hb.mono hs)
  replace hs := hB.size
  clear hb
  cases rb
  · clear hrb
    go_wp2_with fail
    go_ret
    exact ⟨rfl, hB⟩
  have HRP := Lib.hid (rightP_spec.1 hrb)
  clear hrb
  have hp : PlAt w3 A1 n1 c1 A n c p := ⟨HD1.out, HD.out, by omega, by omega, h1, h⟩
  clear h1 h
  have HPR := Lib.hid (Pl.right_spec.2 HRP.out)
  go_wp2_with fail
  go_loopw [7] (fun iv wr => ∃ (i : Nat) (A5 : Option Addr) (n5 c5 : Nat) (A6 : Option Addr) (n6 c6 : Nat) (x : Pl), i ≤ nl ∧ iv = .int .i64 i ∧ Hid (x.right = true) ∧ Blok wr w.heap.size 25 #[.slice A5 n5 c5, .slice A6 n6 c6, .int .i64 x.clk, .int .i64 x.ver] ∧ PlAt wr A5 n5 c5 A6 n6 c6 x ∧ Below w.heap.size w wr) (fun iv _ => nl - (intOf iv).toNat)
  case atStart => exact ⟨0, A1, n1, c1, A, n, c, p, by omega, rfl, HPR, hP, hp, hB⟩
  case round =>
    obtain ⟨i, A5, n5, c5, A6, n6, c6, x, hi, rfl, HXR, hX', hx, hB0⟩ := hrel
    clear hP hp hB hs
    by_cases hin : i < nl
    · obtain ⟨u, hu⟩ : ∃ u, gAp l i = u := ⟨_, rfl⟩
      have HW := Lib.hid (HWF.out i hin)
      rw [hu] at HW
      have HU := Lib.hid hu
      have hin2 : (i : Int) < (nl : Int) := by omega
      have x0 : wr.cell? ⟨w.heap.size, 0, none⟩ = some (.slice A5 n5 c5) := hX'.cell 0
      have x1 : wr.cell? ⟨w.heap.size, 1, none⟩ = some (.slice A6 n6 c6) := hX'.cell 1
      have x2 : wr.cell? ⟨w.heap.size, 2, none⟩ = some (.int .i64 x.clk) := hX'.cell 2
      have x3 : wr.cell? ⟨w.heap.size, 3, none⟩ = some (.int .i64 x.ver) := hX'.cell 3
      have lt_x := hX'.lt
      go_upto_region 9 with fail
      clear x0 x1 x2 x3 lt_x
      have hQ := Blok.new wr 25 #[.slice A5 n5 c5, .slice A6 n6 c6, .int .i64 x.clk, .int .i64 x.ver]
      have hb : Below wr.heap.size wr (wr.alloc (.cells #[.slice A5 n5 c5, .slice A6 n6 c6, .int .i64 x.clk, .int .i64 x.ver] 25)) := by (repeat (first | exact Below.refl _ _ | refine Below.alloc ?_ (by first | omega | (simp; done) | (simp; omega)) _ | refine Below.setCell ?_ (by first | omega | (simp; done) | (simp; omega)) _ | refine Below.drew ?_))
      have hX0 := hX'
      have hx0 := hx
      have hR := hb
      clear hX' hx hb
      generalize wr.alloc (.cells #[.slice A5 n5 c5, .slice A6 n6 c6, .int .i64 x.clk, .int .i64 x.ver] 25) = w8 at *
      have HRX := Lib.hid (fun w' (hb : Below wr.heap.size wr w') => hX0.below hb hX0.lt)
      have HRL := Lib.hid (fun w' (hb : Below wr.heap.size wr w') => hx0.up hb)
      have HRB := Lib.hid (fun w' (hb : Below wr.heap.size wr w') => hB0.trans (hb.mono hB0.size))
      have HBP := Lib.hid hX0.lt
      have HNE := Lib.hid (show w.heap.size ≠ wr.heap.size from Nat.ne_of_lt hX0.lt)
      have HAX := Lib.hid (hx0.apart (Nat.le_refl wr.heap.size))
      obtain ⟨al, hA1, hab, hcs⟩ := (HLL.out _ hB0).lst.atAp HDL.out hin
      rw [hu] at hcs
      subst hA1
      clear hu hX0 hx0 hB0
      obtain ⟨e0, e1, e2, e3, e4, e5, e6, e7, e8, e9, ea, eb, ec, ed, ee⟩ := hcs
      have HEA := Lib.hid (fun w' (hb : Below wr.heap.size wr w') => (show (w'.cell? ⟨(al.add (i * 15)).block, (al.add (i * 15)).off + 1, none⟩ = some (.int .i64 u.op) ∧ w'.cell? ⟨(al.add (i * 15)).block, (al.add (i * 15)).off + 2, none⟩ = some (.int .i64 u.kd) ∧ w'.cell? ⟨(al.add (i * 15)).block, (al.add (i * 15)).off + 3, none⟩ = some (.int .i64 u.id) ∧ w'.cell? ⟨(al.add (i * 15)).block, (al.add (i * 15)).off + 4, none⟩ = some (.int .i64 u.fr) ∧ w'.cell? ⟨(al.add (i * 15)).block, (al.add (i * 15)).off + 5, none⟩ = some (.int .i64 u.tn) ∧ w'.cell? ⟨(al.add (i * 15)).block, (al.add (i * 15)).off + 6, none⟩ = some (.int .i64 u.st) ∧ w'.cell? ⟨(al.add (i * 15)).block, (al.add (i * 15)).off + 7, none⟩ = some (.int .i64 u.en) ∧ w'.cell? ⟨(al.add (i * 15)).block, (al.add (i * 15)).off + 8, none⟩ = some (.int .i64 u.rt) ∧ w'.cell? ⟨(al.add (i * 15)).block, (al.add (i * 15)).off + 9, none⟩ = some (.int .i64 u.rf) ∧ w'.cell? ⟨(al.add (i * 15)).block, (al.add (i * 15)).off + 10, none⟩ = some (.int .i64 u.rn) ∧ w'.cell? ⟨(al.add (i * 15)).block, (al.add (i * 15)).off + 11, none⟩ = some (.int .i64 u.rs) ∧ w'.cell? ⟨(al.add (i * 15)).block, (al.add (i * 15)).off + 12, none⟩ = some (.int .i64 u.re) ∧ w'.cell? ⟨(al.add (i * 15)).block, (al.add (i * 15)).off + 13, none⟩ = some (.int .i64 u.ro)) from ⟨(hb.cell (block_lt_of_cell e1)).trans e1, (hb.cell (block_lt_of_cell e2)).trans e2, (hb.cell (block_lt_of_cell e3)).trans e3, (hb.cell (block_lt_of_cell e4)).trans e4, (hb.cell (block_lt_of_cell e5)).trans e5, (hb.cell (block_lt_of_cell e6)).trans e6, (hb.cell (block_lt_of_cell e7)).trans e7, (hb.cell (block_lt_of_cell e8)).trans e8, (hb.cell (block_lt_of_cell e9)).trans e9, (hb.cell (block_lt_of_cell ea)).trans ea, (hb.cell (block_lt_of_cell eb)).trans eb, (hb.cell (block_lt_of_cell ec)).trans ec, (hb.cell (block_lt_of_cell ed)).trans ed⟩))
      have HEN := Lib.hid (fun w' (hb : Below wr.heap.size wr w') => (hb.cell (block_lt_of_cell ee)).trans ee)
      have HE0 := Lib.hid (fun w' (hb : Below wr.heap.size wr w') => (hb.cell (block_lt_of_cell e0)).trans e0)
      clear e0 e1 e2 e3 e4 e5 e6 e7 e8 e9 ea eb ec ed ee
      have e0 := HE0.out _ hR
      by_cases hdo : u.dq = 0
      · have g1 : (u.dq == 0) = true := by simpa using hdo
        have g1d : decide (u.dq = 0) = true := by simpa using hdo
        have HDO := Lib.hid hdo
        clear hdo
        obtain ⟨y, hy⟩ : ∃ y, stepP x ⟨u.op, u.kd, u.id, u.fr, u.tn, u.st, u.en, u.rt, u.rf, u.rn, u.rs, u.re, u.ro⟩ = y := ⟨_, rfl⟩
        obtain ⟨f, hf⟩ : ∃ f, stepQ x ⟨u.op, u.kd, u.id, u.fr, u.tn, u.st, u.en, u.rt, u.rf, u.rn, u.rs, u.re, u.ro⟩ = f := ⟨_, rfl⟩
        have HY := Lib.hid hy
        have HF := Lib.hid hf
        have HYR := Lib.hid (show y.right = true by rw [← hy]; exact stepP_right HXR.out)
        clear hy hf
        go_upto_region 11 with fail
        clear g1 g1d e0
        go_cut [9] (fun fv wx => ∃ A7 n7 c7 A8 n8 c8, fv = .int .i64 f ∧ Below wr.heap.size wr wx ∧ Blok wx wr.heap.size 25 #[.slice A7 n7 c7, .slice A8 n8 c8, .int .i64 y.clk, .int .i64 y.ver] ∧ PlAt wx A7 n7 c7 A8 n8 c8 y ∧ Apart w.heap.size A7 n7 A8 n8)
        case first =>
          have hX := HRX.out _ hR
          have x0 : w8.cell? ⟨w.heap.size, 0, none⟩ = some (.slice A5 n5 c5) := hX.cell 0
          have x1 : w8.cell? ⟨w.heap.size, 1, none⟩ = some (.slice A6 n6 c6) := hX.cell 1
          have x2 : w8.cell? ⟨w.heap.size, 2, none⟩ = some (.int .i64 x.clk) := hX.cell 2
          have x3 : w8.cell? ⟨w.heap.size, 3, none⟩ = some (.int .i64 x.ver) := hX.cell 3
          obtain ⟨e1, e2, e3, e4, e5, e6, e7, e8, e9, ea, eb, ec, ed⟩ := HEA.out _ hR
          have HFOOT := Lib.hid (fun (w' : World) (hb : Below wr.heap.size wr w') => (show (w'.cell? ⟨w.heap.size, 0, none⟩ = some (.slice A5 n5 c5) ∧ w'.cell? ⟨w.heap.size, 1, none⟩ = some (.slice A6 n6 c6) ∧ w'.cell? ⟨w.heap.size, 2, none⟩ = some (.int .i64 x.clk) ∧ w'.cell? ⟨w.heap.size, 3, none⟩ = some (.int .i64 x.ver) ∧ w'.cell? ⟨(al.add (i * 15)).block, (al.add (i * 15)).off + 1, none⟩ = some (.int .i64 u.op) ∧ w'.cell? ⟨(al.add (i * 15)).block, (al.add (i * 15)).off + 2, none⟩ = some (.int .i64 u.kd) ∧ w'.cell? ⟨(al.add (i * 15)).block, (al.add (i * 15)).off + 3, none⟩ = some (.int .i64 u.id) ∧ w'.cell? ⟨(al.add (i * 15)).block, (al.add (i * 15)).off + 4, none⟩ = some (.int .i64 u.fr) ∧ w'.cell? ⟨(al.add (i * 15)).block, (al.add (i * 15)).off + 5, none⟩ = some (.int .i64 u.tn) ∧ w'.cell? ⟨(al.add (i * 15)).block, (al.add (i * 15)).off + 6, none⟩ = some (.int .i64 u.st) ∧ w'.cell? ⟨(al.add (i * 15)).block, (al.add (i * 15)).off + 7, none⟩ = some (.int .i64 u.en) ∧ w'.cell? ⟨(al.add (i * 15)).block, (al.add (i * 15)).off + 8, none⟩ = some (.int .i64 u.rt) ∧ w'.cell? ⟨(al.add (i * 15)).block, (al.add (i * 15)).off + 9, none⟩ = some (.int .i64 u.rf) ∧ w'.cell? ⟨(al.add (i * 15)).block, (al.add (i * 15)).off + 10, none⟩ = some (.int .i64 u.rn) ∧ w'.cell? ⟨(al.add (i * 15)).block, (al.add (i * 15)).off + 11, none⟩ = some (.int .i64 u.rs) ∧ w'.cell? ⟨(al.add (i * 15)).block, (al.add (i * 15)).off + 12, none⟩ = some (.int .i64 u.re) ∧ w'.cell? ⟨(al.add (i * 15)).block, (al.add (i * 15)).off + 13, none⟩ = some (.int .i64 u.ro)) from ⟨(HRX.out _ hb).cell 0, (HRX.out _ hb).cell 1, (HRX.out _ hb).cell 2, (HRX.out _ hb).cell 3, HEA.out _ hb⟩))
          have HQF := Lib.hid (fun w' (hb : Below w8.heap.size w8 w') => hQ.below hb hQ.lt)
          have HBQ := Lib.hid hQ.lt
          have HRS := Lib.hid hR.size
          have hC : Below wr.heap.size wr w8 := hR
          have hD : Below w8.heap.size w8 w8 := Below.refl _ _
          clear hX hR hQ
          try simp only [List.append]
          go_region_held3 (fun w' => w'.cell? ⟨w.heap.size, 0, none⟩ = some (.slice A5 n5 c5) ∧ w'.cell? ⟨w.heap.size, 1, none⟩ = some (.slice A6 n6 c6) ∧ w'.cell? ⟨w.heap.size, 2, none⟩ = some (.int .i64 x.clk) ∧ w'.cell? ⟨w.heap.size, 3, none⟩ = some (.int .i64 x.ver) ∧ w'.cell? ⟨(al.add (i * 15)).block, (al.add (i * 15)).off + 1, none⟩ = some (.int .i64 u.op) ∧ w'.cell? ⟨(al.add (i * 15)).block, (al.add (i * 15)).off + 2, none⟩ = some (.int .i64 u.kd) ∧ w'.cell? ⟨(al.add (i * 15)).block, (al.add (i * 15)).off + 3, none⟩ = some (.int .i64 u.id) ∧ w'.cell? ⟨(al.add (i * 15)).block, (al.add (i * 15)).off + 4, none⟩ = some (.int .i64 u.fr) ∧ w'.cell? ⟨(al.add (i * 15)).block, (al.add (i * 15)).off + 5, none⟩ = some (.int .i64 u.tn) ∧ w'.cell? ⟨(al.add (i * 15)).block, (al.add (i * 15)).off + 6, none⟩ = some (.int .i64 u.st) ∧ w'.cell? ⟨(al.add (i * 15)).block, (al.add (i * 15)).off + 7, none⟩ = some (.int .i64 u.en) ∧ w'.cell? ⟨(al.add (i * 15)).block, (al.add (i * 15)).off + 8, none⟩ = some (.int .i64 u.rt) ∧ w'.cell? ⟨(al.add (i * 15)).block, (al.add (i * 15)).off + 9, none⟩ = some (.int .i64 u.rf) ∧ w'.cell? ⟨(al.add (i * 15)).block, (al.add (i * 15)).off + 10, none⟩ = some (.int .i64 u.rn) ∧ w'.cell? ⟨(al.add (i * 15)).block, (al.add (i * 15)).off + 11, none⟩ = some (.int .i64 u.rs) ∧ w'.cell? ⟨(al.add (i * 15)).block, (al.add (i * 15)).off + 12, none⟩ = some (.int .i64 u.re) ∧ w'.cell? ⟨(al.add (i * 15)).block, (al.add (i * 15)).off + 13, none⟩ = some (.int .i64 u.ro))
            (first | exact HFOOT.out _ hC | exact HFOOT.out _ (by (repeat (first | exact Below.refl _ _ | exact hC | refine Below.alloc ?_ (by first | omega | (simp; done) | (simp; omega)) _ | refine Below.setCell ?_ (by first | omega | (simp; done) | (simp; omega)) _ | refine Below.drew ?_ | refine Below.trans ?_ (hC.mono (by first | omega | (simp; done) | (simp; omega)))))) | (go_keep; done))
            (first
              | (go_at_call 23; (with_reducible refine Calls.mono (papp_to A5 n5 c5 A6 n6 c6 x ⟨u.op, u.kd, u.id, u.fr, u.tn, u.st, u.en, u.rt, u.rf, u.rn, u.rs, u.re, u.ro⟩ _ HW.out.1 HW.out.2 (by first | exact HRL.out _ hC | exact HRL.out _ (by (repeat (first | exact Below.refl _ _ | exact hC | refine Below.alloc ?_ (by first | omega | (simp; done) | (simp; omega)) _ | refine Below.setCell ?_ (by first | omega | (simp; done) | (simp; omega)) _ | refine Below.drew ?_ | refine Below.trans ?_ (hC.mono (by first | omega | (simp; done) | (simp; omega))))))) HXR.out y f HY.out HF.out) ?_); rintro e xa ⟨A7, n7, c7, A8, n8, c8, rfl, ho, hbx⟩; have hap : Apart w.heap.size A7 n7 A8 n8 := ⟨apart_own ho.o1 (by have h := HBP.out; have h2 := HRS.out; simp; omega), apart_own ho.o (by have h := HBP.out; have h2 := HRS.out; simp; omega)⟩; have hapq : Apart wr.heap.size A7 n7 A8 n8 := ⟨apart_own ho.o1 (by have h := HBQ.out; simp; omega), apart_own ho.o (by have h := HBQ.out; simp; omega)⟩; have hyl := ho.at_; have hqz := HQF.out _ (hD.drew.trans (hbx.mono (by first | exact Nat.le_refl _ | (simp; done)))); clear hD; have q0 := hqz.cell 0; have q1 := hqz.cell 1; have q2 := hqz.cell 2; have q3 := hqz.cell 3; have k0 := hqz.free 0; have k1 := hqz.free 1; have k2 := hqz.free 2; have k3 := hqz.free 3; have ltq := hqz.lt; replace hC : Below wr.heap.size wr xa := Below.trans (by (repeat (first | exact Below.refl _ _ | exact hC | refine Below.alloc ?_ (by first | omega | (simp; done) | (simp; omega)) _ | refine Below.setCell ?_ (by first | omega | (simp; done) | (simp; omega)) _ | refine Below.drew ?_ | refine Below.trans ?_ (hC.mono (by first | omega | (simp; done) | (simp; omega)))))) (hbx.mono (by first | exact HRS.out | (simp; exact HRS.out))); clear hbx ho))
          all_goals
            go_wp2
            go_meet
            exact ⟨A7, n7, c7, A8, n8, c8, rfl, pl_below4 hC wr.heap.size (Nat.le_refl _) _ _ _ _, pl_set4 hqz _ _ _ _, hyl.kept1 (pl_grown4 _ _ _ _ _ _) hapq, hap⟩
        case rest =>
          revert wc
          intro wt hcut
          obtain ⟨A7, n7, c7, A8, n8, c8, rfl, hRt, hY, hyl, hap⟩ := hcut
          clear hR hQ
          have hX := HRX.out _ hRt
          have hxl := HRL.out _ hRt
          have hB := HRB.out _ hRt
          have e0' := HE0.out _ hRt
          clear hRt
          have g1 : (u.dq != 0) = false := by simpa using HDO.out
          have g1d : decide (u.dq = 0) = true := by simpa using HDO.out
          by_cases hz : f = 0
          · subst hz
            have hok : StepOk x y := by rw [← HY.out]; exact stepP_ok HF.out
            have HVE0 := Lib.hid hok.ver
            have HGE := Lib.hid (show ¬ y.clk < x.clk by rw [hok.clk]; exact Int.lt_irrefl _)
            clear hok
            have HYB := Lib.hid (show rightP y.cs y.rs y.clk y.ver = true from HYR.out)
            have t0 : IntKind.i64.wrap (x.ver + 1) = x.ver + 1 := by rw [IntWalk.i64_in _ (by have := (Pl.right_spec.1 HXR.out).v0; have := (Pl.right_spec.1 HXR.out).v1; omega)]
            have x0 : wt.cell? ⟨w.heap.size, 0, none⟩ = some (.slice A5 n5 c5) := hX.cell 0
            have x1 : wt.cell? ⟨w.heap.size, 1, none⟩ = some (.slice A6 n6 c6) := hX.cell 1
            have x2 : wt.cell? ⟨w.heap.size, 2, none⟩ = some (.int .i64 x.clk) := hX.cell 2
            have x3 : wt.cell? ⟨w.heap.size, 3, none⟩ = some (.int .i64 x.ver) := hX.cell 3
            have y0 : wt.cell? ⟨wr.heap.size, 0, none⟩ = some (.slice A7 n7 c7) := hY.cell 0
            have y1 : wt.cell? ⟨wr.heap.size, 1, none⟩ = some (.slice A8 n8 c8) := hY.cell 1
            have y2 : wt.cell? ⟨wr.heap.size, 2, none⟩ = some (.int .i64 y.clk) := hY.cell 2
            have y3 : wt.cell? ⟨wr.heap.size, 3, none⟩ = some (.int .i64 y.ver) := hY.cell 3
            have lt_x := hX.lt
            have lt_y := hY.lt
            go_upto_region 18 with fail
            generalize hnv : min (x.ver + 1) 1099511627776 = nv at *
            clear t0
            have HNV := Lib.hid hnv
            clear hnv
            go_upto_region 20 with fail
            clear e0'
            have g2 : decide (y.clk < x.clk) = false := decide_eq_false HGE.out
            have HVE := Lib.hid (show y.ver = nv from by first | exact HVE0.out.trans HNV.out | exact HVE0.out)
            have g7 : (y.ver != nv) = false := by rw [HVE.out]; simp
            have HQY := Lib.hid (fun d os => hyl.up (below_regrown wt d os))
            have HQX := Lib.hid (fun d os => hxl.up (below_regrown wt d os))
            have hXK := Lib.hid hX
            have hYK := Lib.hid hY
            have hyK := Lib.hid hyl
            clear hX hY hyl hxl
            have q_x0 := fun d os => cell_regrown x0 d os
            have q_x1 := fun d os => cell_regrown x1 d os
            have q_x2 := fun d os => cell_regrown x2 d os
            have q_x3 := fun d os => cell_regrown x3 d os
            have q_y0 := fun d os => cell_regrown y0 d os
            have q_y1 := fun d os => cell_regrown y1 d os
            have q_y2 := fun d os => cell_regrown y2 d os
            have q_y3 := fun d os => cell_regrown y3 d os
            try simp only [List.append]
            first | refine wp_region_text_below ?_ | refine wp_region_quiet_below (by kernel_rfl) (by kernel_rfl) ?_
            repeat (go_big_quiet_step (((go_at_call 12; with_reducible exact Calls.regrown_of (pright_any A7 n7 c7 y.cs A8 n8 c8 y.rs y.clk y.ver _ (HQY.out 0 #[]).l1 (by have := (HQY.out 0 #[]).b1; omega) (HQY.out 0 #[]).l (by have := (HQY.out 0 #[]).b; omega) (HQY.out _ _).s1 (HQY.out _ _).s true HYB.out)))))
            refine wpQuiet_nil ?_
            intro _ hqw
            obtain ⟨pq, hqw⟩ := hqw
            subst hqw
            have hX := hXK.out
            have hY := hYK.out
            have hyl := hyK.out
            have hbq := below_regrown wt pq.d pq.os
            clear q_x0 q_x1 q_x2 q_x3 q_y0 q_y1 q_y2 q_y3 x0 x1 x2 x3 y0 y1 y2 y3 HQY HQX g2 hXK hYK hyK
            replace hX := hX.below hbq hX.lt
            replace hY := hY.below hbq hY.lt
            replace hyl := hyl.up hbq
            replace hB := hB.trans (hbq.mono hB.size)
            generalize grow (redrawn wt pq.d) pq.os = wu at *
            clear hbq
            have y0 : wu.cell? ⟨wr.heap.size, 0, none⟩ = some (.slice A7 n7 c7) := hY.cell 0
            have y1 : wu.cell? ⟨wr.heap.size, 1, none⟩ = some (.slice A8 n8 c8) := hY.cell 1
            have y2 : wu.cell? ⟨wr.heap.size, 2, none⟩ = some (.int .i64 y.clk) := hY.cell 2
            have y3 : wu.cell? ⟨wr.heap.size, 3, none⟩ = some (.int .i64 y.ver) := hY.cell 3
            have x0 : wu.cell? ⟨w.heap.size, 0, none⟩ = some (.slice A5 n5 c5) := hX.cell 0
            have x1 : wu.cell? ⟨w.heap.size, 1, none⟩ = some (.slice A6 n6 c6) := hX.cell 1
            have x2 : wu.cell? ⟨w.heap.size, 2, none⟩ = some (.int .i64 x.clk) := hX.cell 2
            have x3 : wu.cell? ⟨w.heap.size, 3, none⟩ = some (.int .i64 x.ver) := hX.cell 3
            have f_0 := hX.free 0
            have f_1 := hX.free 1
            have f_2 := hX.free 2
            have f_3 := hX.free 3
            have lt_x := hX.lt
            have lt_y := hY.lt
            have hF := pl_set4 hX (.slice A7 n7 c7) (.slice A8 n8 c8) (.int .i64 y.clk) (.int .i64 y.ver)
            have hG := hyl.kept1 (pl_grown4 wu w.heap.size (.slice A7 n7 c7) (.slice A8 n8 c8) (.int .i64 y.clk) (.int .i64 y.ver)) hap
            have hE := pl_below4 hB w.heap.size (Nat.le_refl _) (.slice A7 n7 c7) (.slice A8 n8 c8) (.int .i64 y.clk) (.int .i64 y.ver)
            clear hX hY hyl hB
            go_wp2
            go_roundw
            case rel => exact ⟨i + 1, A7, n7, c7, A8, n8, c8, y, by omega, by go_num, HYR, hF, hG, hE⟩
            case measure => simp [intOf]; omega
          · have hyx : y = x := by rw [← HY.out]; exact stepP_same (by rw [HF.out]; exact hz)
            subst hyx
            have g3 : (f != 0) = true := by simpa using hz
            have g4 : (f == 0) = false := by simpa using hz
            clear hz
            have HYB := Lib.hid (show rightP y.cs y.rs y.clk y.ver = true from HYR.out)
            have t0 : IntKind.i64.wrap (y.ver + 1) = y.ver + 1 := by rw [IntWalk.i64_in _ (by have := (Pl.right_spec.1 HYR.out).v0; have := (Pl.right_spec.1 HYR.out).v1; omega)]
            have x0 : wt.cell? ⟨w.heap.size, 0, none⟩ = some (.slice A5 n5 c5) := hX.cell 0
            have x1 : wt.cell? ⟨w.heap.size, 1, none⟩ = some (.slice A6 n6 c6) := hX.cell 1
            have x2 : wt.cell? ⟨w.heap.size, 2, none⟩ = some (.int .i64 y.clk) := hX.cell 2
            have x3 : wt.cell? ⟨w.heap.size, 3, none⟩ = some (.int .i64 y.ver) := hX.cell 3
            have y0 : wt.cell? ⟨wr.heap.size, 0, none⟩ = some (.slice A7 n7 c7) := hY.cell 0
            have y1 : wt.cell? ⟨wr.heap.size, 1, none⟩ = some (.slice A8 n8 c8) := hY.cell 1
            have y2 : wt.cell? ⟨wr.heap.size, 2, none⟩ = some (.int .i64 y.clk) := hY.cell 2
            have y3 : wt.cell? ⟨wr.heap.size, 3, none⟩ = some (.int .i64 y.ver) := hY.cell 3
            have lt_x := hX.lt
            have lt_y := hY.lt
            go_upto_region 18 with fail
            generalize hnv : min (y.ver + 1) 1099511627776 = nv at *
            clear t0
            have HNV := Lib.hid hnv
            clear hnv
            go_upto_region 20 with fail
            clear e0'
            have g2 : decide (y.clk < y.clk) = false := decide_eq_false (Int.lt_irrefl _)
            have HQY := Lib.hid (fun d os => hyl.up (below_regrown wt d os))
            have HQX := Lib.hid (fun d os => hxl.up (below_regrown wt d os))
            have hXK := Lib.hid hX
            have hYK := Lib.hid hY
            have hyK := Lib.hid hyl
            clear hX hY hyl hxl
            have q_x0 := fun d os => cell_regrown x0 d os
            have q_x1 := fun d os => cell_regrown x1 d os
            have q_x2 := fun d os => cell_regrown x2 d os
            have q_x3 := fun d os => cell_regrown x3 d os
            have q_y0 := fun d os => cell_regrown y0 d os
            have q_y1 := fun d os => cell_regrown y1 d os
            have q_y2 := fun d os => cell_regrown y2 d os
            have q_y3 := fun d os => cell_regrown y3 d os
            try simp only [List.append]
            first | refine wp_region_text_below ?_ | refine wp_region_quiet_below (by kernel_rfl) (by kernel_rfl) ?_
            repeat (go_big_quiet_step (((first | (go_at_call 12; with_reducible exact Calls.regrown_of (pright_any A7 n7 c7 y.cs A8 n8 c8 y.rs y.clk y.ver _ (HQY.out 0 #[]).l1 (by have := (HQY.out 0 #[]).b1; omega) (HQY.out 0 #[]).l (by have := (HQY.out 0 #[]).b; omega) (HQY.out _ _).s1 (HQY.out _ _).s true HYB.out)) | (go_at_call 14; with_reducible exact Calls.regrown_of (psame_any A7 n7 c7 A8 n8 c8 y A5 n5 c5 A6 n6 c6 y _ (HQY.out _ _) (HQX.out _ _) true (samePB_refl y)))))))
            refine wpQuiet_nil ?_
            intro _ hqw
            obtain ⟨pq, hqw⟩ := hqw
            subst hqw
            have hX := hXK.out
            have hY := hYK.out
            have hyl := hyK.out
            have hbq := below_regrown wt pq.d pq.os
            clear q_x0 q_x1 q_x2 q_x3 q_y0 q_y1 q_y2 q_y3 x0 x1 x2 x3 y0 y1 y2 y3 HQY HQX g2 hXK hYK hyK
            replace hX := hX.below hbq hX.lt
            replace hY := hY.below hbq hY.lt
            replace hyl := hyl.up hbq
            replace hB := hB.trans (hbq.mono hB.size)
            generalize grow (redrawn wt pq.d) pq.os = wu at *
            clear hbq
            have y0 : wu.cell? ⟨wr.heap.size, 0, none⟩ = some (.slice A7 n7 c7) := hY.cell 0
            have y1 : wu.cell? ⟨wr.heap.size, 1, none⟩ = some (.slice A8 n8 c8) := hY.cell 1
            have y2 : wu.cell? ⟨wr.heap.size, 2, none⟩ = some (.int .i64 y.clk) := hY.cell 2
            have y3 : wu.cell? ⟨wr.heap.size, 3, none⟩ = some (.int .i64 y.ver) := hY.cell 3
            have x0 : wu.cell? ⟨w.heap.size, 0, none⟩ = some (.slice A5 n5 c5) := hX.cell 0
            have x1 : wu.cell? ⟨w.heap.size, 1, none⟩ = some (.slice A6 n6 c6) := hX.cell 1
            have x2 : wu.cell? ⟨w.heap.size, 2, none⟩ = some (.int .i64 y.clk) := hX.cell 2
            have x3 : wu.cell? ⟨w.heap.size, 3, none⟩ = some (.int .i64 y.ver) := hX.cell 3
            have f_0 := hX.free 0
            have f_1 := hX.free 1
            have f_2 := hX.free 2
            have f_3 := hX.free 3
            have lt_x := hX.lt
            have lt_y := hY.lt
            have hF := pl_set4 hX (.slice A7 n7 c7) (.slice A8 n8 c8) (.int .i64 y.clk) (.int .i64 y.ver)
            have hG := hyl.kept1 (pl_grown4 wu w.heap.size (.slice A7 n7 c7) (.slice A8 n8 c8) (.int .i64 y.clk) (.int .i64 y.ver)) hap
            have hE := pl_below4 hB w.heap.size (Nat.le_refl _) (.slice A7 n7 c7) (.slice A8 n8 c8) (.int .i64 y.clk) (.int .i64 y.ver)
            clear hX hY hyl hB
            go_wp2
            go_roundw
            case rel => exact ⟨i + 1, A7, n7, c7, A8, n8, c8, y, by omega, by go_num, HYR, hF, hG, hE⟩
            case measure => simp [intOf]; omega
      · have g1 : (u.dq == 0) = false := by simpa using hdo
        have g1d : decide (u.dq = 0) = false := by simpa using hdo
        have HDO := Lib.hid hdo
        clear hdo
        obtain ⟨y, hy⟩ : ∃ y, advP x u.nn = y := ⟨_, rfl⟩
        obtain ⟨f, hf⟩ : ∃ f, advQ x u.nn = f := ⟨_, rfl⟩
        obtain ⟨g, hg⟩ : ∃ g, advG x u.nn = g := ⟨_, rfl⟩
        have HY := Lib.hid hy
        have HF := Lib.hid hf
        have HG := Lib.hid hg
        have HYR := Lib.hid (show y.right = true by rw [← hy]; exact adv_right HXR.out)
        have hlen := (adv_len x u.nn).len
        rw [hy, hg] at hlen
        have HLEN := Lib.hid hlen
        clear hy hf hg hlen
        go_upto_region 12 with fail
        clear g1 g1d e0
        go_cut [10, 11, 12] (fun pv gv fv wx => ∃ b A7 n7 c7 A8 n8 c8 A9 n9 c9, pv = .pointer (some ⟨b, 0, none⟩) ∧ gv = .slice A9 n9 c9 ∧ fv = .int .i64 f ∧ w8.heap.size ≤ b ∧ Below w8.heap.size w8 wx ∧ Blok wx b 25 #[.slice A7 n7 c7, .slice A8 n8 c8, .int .i64 y.clk, .int .i64 y.ver] ∧ PlAt wx A7 n7 c7 A8 n8 c8 y ∧ Apart w.heap.size A7 n7 A8 n8 ∧ Apart wr.heap.size A7 n7 A8 n8 ∧ g.length = n9)
        case first =>
          have hX := HRX.out _ hR
          have x0 : w8.cell? ⟨w.heap.size, 0, none⟩ = some (.slice A5 n5 c5) := hX.cell 0
          have x1 : w8.cell? ⟨w.heap.size, 1, none⟩ = some (.slice A6 n6 c6) := hX.cell 1
          have x2 : w8.cell? ⟨w.heap.size, 2, none⟩ = some (.int .i64 x.clk) := hX.cell 2
          have x3 : w8.cell? ⟨w.heap.size, 3, none⟩ = some (.int .i64 x.ver) := hX.cell 3
          have ee := HEN.out _ hR
          have hRX := fun (w' : World) (hb : Below w8.heap.size w8 w') => hR.trans (hb.mono hR.size)
          have HRR := Lib.hid hRX
          have HFOOT := Lib.hid (fun (w' : World) (hb : Below w8.heap.size w8 w') => (show (w'.cell? ⟨w.heap.size, 0, none⟩ = some (.slice A5 n5 c5) ∧ w'.cell? ⟨w.heap.size, 1, none⟩ = some (.slice A6 n6 c6) ∧ w'.cell? ⟨w.heap.size, 2, none⟩ = some (.int .i64 x.clk) ∧ w'.cell? ⟨w.heap.size, 3, none⟩ = some (.int .i64 x.ver) ∧ w'.cell? ⟨(al.add (i * 15)).block, (al.add (i * 15)).off + 14, none⟩ = some (.int .i64 u.nn)) from ⟨(HRX.out _ (hRX _ hb)).cell 0, (HRX.out _ (hRX _ hb)).cell 1, (HRX.out _ (hRX _ hb)).cell 2, (HRX.out _ (hRX _ hb)).cell 3, HEN.out _ (hRX _ hb)⟩))
          have HBQ := Lib.hid hQ.lt
          have HRS := Lib.hid hR.size
          have hC : Below w8.heap.size w8 w8 := Below.refl _ _
          clear hX hR hQ hRX
          try simp only [List.append]
          go_region_held3 (fun w' => w'.cell? ⟨w.heap.size, 0, none⟩ = some (.slice A5 n5 c5) ∧ w'.cell? ⟨w.heap.size, 1, none⟩ = some (.slice A6 n6 c6) ∧ w'.cell? ⟨w.heap.size, 2, none⟩ = some (.int .i64 x.clk) ∧ w'.cell? ⟨w.heap.size, 3, none⟩ = some (.int .i64 x.ver) ∧ w'.cell? ⟨(al.add (i * 15)).block, (al.add (i * 15)).off + 14, none⟩ = some (.int .i64 u.nn))
            (first | exact HFOOT.out _ hC | exact HFOOT.out _ (by (repeat (first | exact Below.refl _ _ | exact hC | refine Below.alloc ?_ (by first | omega | (simp; done) | (simp; omega)) _ | refine Below.setCell ?_ (by first | omega | (simp; done) | (simp; omega)) _ | refine Below.drew ?_ | refine Below.trans ?_ (hC.mono (by first | omega | (simp; done) | (simp; omega)))))) | go_keep)
            (first
              | (go_at_call 25; (with_reducible refine Calls.mono (padv_to A5 n5 c5 A6 n6 c6 x u.nn _ (by first | exact HRL.out _ (HRR.out _ hC) | exact HRL.out _ (HRR.out _ (by (repeat (first | exact Below.refl _ _ | exact hC | refine Below.alloc ?_ (by first | omega | (simp; done) | (simp; omega)) _ | refine Below.setCell ?_ (by first | omega | (simp; done) | (simp; omega)) _ | refine Below.drew ?_ | refine Below.trans ?_ (hC.mono (by first | omega | (simp; done) | (simp; omega)))))))) (Pl.right_spec.1 HXR.out).v0 (Pl.right_spec.1 HXR.out).v1 x.clk x.ver rfl rfl y f g HY.out HF.out HG.out) ?_); rintro e xa ⟨A7, n7, c7, A8, n8, c8, A9, n9, c9, rfl, ho, hl9, hs9, hbx⟩; have hap : Apart w.heap.size A7 n7 A8 n8 := ⟨apart_own ho.o1 (by have h := HBP.out; have h2 := HRS.out; simp; omega), apart_own ho.o (by have h := HBP.out; have h2 := HRS.out; simp; omega)⟩; have hapq : Apart wr.heap.size A7 n7 A8 n8 := ⟨apart_own ho.o1 (by have h := HBQ.out; simp; omega), apart_own ho.o (by have h := HBQ.out; simp; omega)⟩; have hyl := ho.at_; (try (have hzz : Blok xa w8.heap.size 25 #[.slice none 0 0, .slice none 0 0, .int .i64 0, .int .i64 0] := (by with_reducible exact Blok.below (Blok.new w8.drew 25 #[.slice none 0 0, .slice none 0 0, .int .i64 0, .int .i64 0]) hbx (by simp)); have hap2 : Apart w8.heap.size A7 n7 A8 n8 := ⟨apart_own ho.o1 (by simp), apart_own ho.o (by simp)⟩; have z0 := hzz.cell 0; have y0 := hzz.free 0; have z1 := hzz.cell 1; have y1 := hzz.free 1; have z2 := hzz.cell 2; have y2 := hzz.free 2; have z3 := hzz.cell 3; have y3 := hzz.free 3; have ltz := hzz.lt)); replace hC : Below w8.heap.size w8 xa := Below.trans (by (repeat (first | exact Below.refl _ _ | exact hC | refine Below.alloc ?_ (by first | omega | (simp; done) | (simp; omega)) _ | refine Below.setCell ?_ (by first | omega | (simp; done) | (simp; omega)) _ | refine Below.drew ?_ | refine Below.trans ?_ (hC.mono (by first | omega | (simp; done) | (simp; omega)))))) (hbx.mono (by first | exact Nat.le_refl _ | (simp; done) | (simp; omega))); have hsC := hC.size; clear hbx ho))
          all_goals
            go_wp2
            go_meet
            first
              | exact ⟨_, A7, n7, c7, A8, n8, c8, A9, n9, c9, rfl, rfl, rfl, hsC, hC.alloc hsC _, Blok.new _ _ _, hyl.up (by (repeat (first | exact Below.refl _ _ | refine Below.alloc ?_ (by first | omega | (simp; done) | (simp; omega)) _ | refine Below.setCell ?_ (by first | omega | (simp; done) | (simp; omega)) _ | refine Below.drew ?_))), hap, hapq, hl9⟩
              | exact ⟨_, A7, n7, c7, A8, n8, c8, A9, n9, c9, rfl, rfl, rfl, Nat.le_refl _, by (repeat (first | exact Below.refl _ _ | exact hC | refine Below.alloc ?_ (by first | omega | (simp; done) | (simp; omega)) _ | refine Below.setCell ?_ (by first | omega | (simp; done) | (simp; omega)) _ | refine Below.drew ?_ | refine Below.trans ?_ (hC.mono (by first | omega | (simp; done) | (simp; omega))))), pl_set4 hzz _ _ _ _, hyl.kept1 (pl_grown4 _ _ _ _ _ _) hap2, hap, hapq, hl9⟩
        case rest =>
          revert wc
          intro wa hcut
          obtain ⟨Bm, A7, n7, c7, A8, n8, c8, A9, n9, c9, rfl, rfl, rfl, hle, hb, hM, hyl, hap, hapq, hl9⟩ := hcut
          have hRa := hR.trans (hb.mono hR.size)
          have hX := HRX.out _ hRa
          have hxl := HRL.out _ hRa
          have hYq := hQ.below hb hQ.lt
          have hne : Bm ≠ wr.heap.size := by have := hQ.lt; omega
          clear hQ hb hle hR
          have m0 : wa.cell? ⟨Bm, 0, none⟩ = some (.slice A7 n7 c7) := hM.cell 0
          have m1 : wa.cell? ⟨Bm, 1, none⟩ = some (.slice A8 n8 c8) := hM.cell 1
          have m2 : wa.cell? ⟨Bm, 2, none⟩ = some (.int .i64 y.clk) := hM.cell 2
          have m3 : wa.cell? ⟨Bm, 3, none⟩ = some (.int .i64 y.ver) := hM.cell 3
          have lt_m := hM.lt
          have q0 : wa.cell? ⟨wr.heap.size, 0, none⟩ = some (.slice A5 n5 c5) := hYq.cell 0
          have q1 : wa.cell? ⟨wr.heap.size, 1, none⟩ = some (.slice A6 n6 c6) := hYq.cell 1
          have q2 : wa.cell? ⟨wr.heap.size, 2, none⟩ = some (.int .i64 x.clk) := hYq.cell 2
          have q3 : wa.cell? ⟨wr.heap.size, 3, none⟩ = some (.int .i64 x.ver) := hYq.cell 3
          have k0 := hYq.free 0
          have k1 := hYq.free 1
          have k2 := hYq.free 2
          have k3 := hYq.free 3
          have lt_q := hYq.lt
          go_upto_region 14 with fail
          clear m0 m1 m2 m3 lt_m q0 q1 q2 q3 k0 k1 k2 k3 lt_q
          have hY := pl_set4 hYq (.slice A7 n7 c7) (.slice A8 n8 c8) (.int .i64 y.clk) (.int .i64 y.ver)
          replace hX := pl_far4 hX HNE.out (.slice A7 n7 c7) (.slice A8 n8 c8) (.int .i64 y.clk) (.int .i64 y.ver)
          replace hM := pl_far4 hM hne (.slice A7 n7 c7) (.slice A8 n8 c8) (.int .i64 y.clk) (.int .i64 y.ver)
          have hxl2 := hxl.kept1 (pl_grown4 wa wr.heap.size (.slice A7 n7 c7) (.slice A8 n8 c8) (.int .i64 y.clk) (.int .i64 y.ver)) HAX.out
          have hyl2 := hyl.kept1 (pl_grown4 wa wr.heap.size (.slice A7 n7 c7) (.slice A8 n8 c8) (.int .i64 y.clk) (.int .i64 y.ver)) hapq
          have hRb := pl_below4 hRa wr.heap.size (Nat.le_refl _) (.slice A7 n7 c7) (.slice A8 n8 c8) (.int .i64 y.clk) (.int .i64 y.ver)
          have hB := HRB.out _ hRb
          have e0' := HE0.out _ hRb
          have ee := HEN.out _ hRb
          have HRbK := Lib.hid hRb
          clear hYq hxl hyl hapq hne hRa hRb
          generalize (((wa.setCell ⟨wr.heap.size, 0, none⟩ (.slice A7 n7 c7)).setCell ⟨wr.heap.size, 1, none⟩ (.slice A8 n8 c8)).setCell ⟨wr.heap.size, 2, none⟩ (.int .i64 y.clk)).setCell ⟨wr.heap.size, 3, none⟩ (.int .i64 y.ver) = wb at *
          have hxl := hxl2
          have hyl := hyl2
          clear hxl2 hyl2
          go_upto_region 15 with fail
          have hn5 : n7 + n9 = n5 := by
            have h1 := HLEN.out
            rw [hyl.l1, hxl.l1, hl9] at h1
            exact h1
          subst hn5
          have hbd : n7 + n9 ≤ 100000 := hxl.b1
          have t5 : IntKind.i64.wrap ((n7 : Int) + (n9 : Int)) = (n7 : Int) + (n9 : Int) := by rw [IntWalk.i64_in _ (by omega)]
          have m0 : wb.cell? ⟨Bm, 0, none⟩ = some (.slice A7 n7 c7) := hM.cell 0
          have x0 : wb.cell? ⟨w.heap.size, 0, none⟩ = some (.slice A5 (n7 + n9) c5) := hX.cell 0
          have y2 : wb.cell? ⟨wr.heap.size, 2, none⟩ = some (.int .i64 y.clk) := hY.cell 2
          have lt_m := hM.lt
          have lt_x := hX.lt
          have lt_y := hY.lt
          have hXK := Lib.hid hX
          have hYK := Lib.hid hY
          have hyK := Lib.hid hyl
          have hxK := Lib.hid hxl
          clear hX hY hyl hxl hM
          by_cases hz : f = 0
          · subst hz
            have hok := adv_ok HXR.out HF.out
            rw [HY.out] at hok
            have HCL := Lib.hid hok.clk
            have HGE0 := Lib.hid hok.ge
            have HVR := Lib.hid hok.ver
            have g8 : (y.clk != u.nn) = false := by rw [hok.clk]; simp
            clear hok
            clear e0'
            have q_m0 := fun d os => cell_regrown m0 d os
            have q_x0 := fun d os => cell_regrown x0 d os
            have q_y2 := fun d os => cell_regrown y2 d os
            have q_ee := fun d os => cell_regrown ee d os
            try simp only [List.append]
            first | refine wp_region_text_below ?_ | refine wp_region_quiet_below (by kernel_rfl) (by kernel_rfl) ?_
            repeat (go_big_quiet_step ((fail)))
            refine wpQuiet_nil ?_
            intro _ hqw
            obtain ⟨pq, hqw⟩ := hqw
            subst hqw
            have hbq := below_regrown wb pq.d pq.os
            have hX := (hXK.out).below hbq hXK.out.lt
            have hY := (hYK.out).below hbq hYK.out.lt
            have hyl := (hyK.out).up hbq
            have hxl := (hxK.out).up hbq
            replace hB := hB.trans (hbq.mono hB.size)
            have e0' := HE0.out _ (HRbK.out.trans (hbq.mono HRbK.out.size))
            clear HRbK q_m0 q_x0 q_y2 q_ee m0 x0 y2 ee lt_m lt_x lt_y hXK hYK hyK hxK t5
            generalize grow (redrawn wb pq.d) pq.os = wt at *
            clear hbq
            have g1 : (u.dq != 0) = true := by simpa using HDO.out
            have g1d : decide (u.dq = 0) = false := by simpa using HDO.out
            have hcl := HCL.out
            have hge0 := HGE0.out
            have hvr := HVR.out
            have HGE := Lib.hid (show ¬ y.clk < x.clk by omega)
            by_cases hce : y.clk = x.clk
            · have HCE := Lib.hid hce
              have HVE := Lib.hid (show y.ver = x.ver by rw [hvr, if_pos (by omega)])
              clear hce hcl hge0 hvr
              have HYB := Lib.hid (show rightP y.cs y.rs y.clk y.ver = true from HYR.out)
              have t0 : IntKind.i64.wrap (x.ver + 1) = x.ver + 1 := by rw [IntWalk.i64_in _ (by have := (Pl.right_spec.1 HXR.out).v0; have := (Pl.right_spec.1 HXR.out).v1; omega)]
              have x0 : wt.cell? ⟨w.heap.size, 0, none⟩ = some (.slice A5 (n7 + n9) c5) := hX.cell 0
              have x1 : wt.cell? ⟨w.heap.size, 1, none⟩ = some (.slice A6 n6 c6) := hX.cell 1
              have x2 : wt.cell? ⟨w.heap.size, 2, none⟩ = some (.int .i64 x.clk) := hX.cell 2
              have x3 : wt.cell? ⟨w.heap.size, 3, none⟩ = some (.int .i64 x.ver) := hX.cell 3
              have y0 : wt.cell? ⟨wr.heap.size, 0, none⟩ = some (.slice A7 n7 c7) := hY.cell 0
              have y1 : wt.cell? ⟨wr.heap.size, 1, none⟩ = some (.slice A8 n8 c8) := hY.cell 1
              have y2 : wt.cell? ⟨wr.heap.size, 2, none⟩ = some (.int .i64 y.clk) := hY.cell 2
              have y3 : wt.cell? ⟨wr.heap.size, 3, none⟩ = some (.int .i64 y.ver) := hY.cell 3
              have lt_x := hX.lt
              have lt_y := hY.lt
              go_upto_region 18 with fail
              generalize hnv : min (x.ver + 1) 1099511627776 = nv at *
              clear t0
              have HNV := Lib.hid hnv
              clear hnv
              have g5 : (y.clk == x.clk) = true := by rw [HCE.out]; simp
              have g6 : decide (y.clk = x.clk) = true := by rw [HCE.out]; simp
              go_upto_region 20 with fail
              clear e0'
              have g2 : decide (y.clk < x.clk) = false := decide_eq_false HGE.out
              have g7 : (y.ver != x.ver) = false := by rw [HVE.out]; simp
              have HQY := Lib.hid (fun d os => hyl.up (below_regrown wt d os))
              have HQX := Lib.hid (fun d os => hxl.up (below_regrown wt d os))
              have hXK := Lib.hid hX
              have hYK := Lib.hid hY
              have hyK := Lib.hid hyl
              clear hX hY hyl hxl
              have q_x0 := fun d os => cell_regrown x0 d os
              have q_x1 := fun d os => cell_regrown x1 d os
              have q_x2 := fun d os => cell_regrown x2 d os
              have q_x3 := fun d os => cell_regrown x3 d os
              have q_y0 := fun d os => cell_regrown y0 d os
              have q_y1 := fun d os => cell_regrown y1 d os
              have q_y2 := fun d os => cell_regrown y2 d os
              have q_y3 := fun d os => cell_regrown y3 d os
              try simp only [List.append]
              first | refine wp_region_text_below ?_ | refine wp_region_quiet_below (by kernel_rfl) (by kernel_rfl) ?_
              repeat (go_big_quiet_step (((go_at_call 12; with_reducible exact Calls.regrown_of (pright_any A7 n7 c7 y.cs A8 n8 c8 y.rs y.clk y.ver _ (HQY.out 0 #[]).l1 (by have := (HQY.out 0 #[]).b1; omega) (HQY.out 0 #[]).l (by have := (HQY.out 0 #[]).b; omega) (HQY.out _ _).s1 (HQY.out _ _).s true HYB.out)))))
              refine wpQuiet_nil ?_
              intro _ hqw
              obtain ⟨pq, hqw⟩ := hqw
              subst hqw
              have hX := hXK.out
              have hY := hYK.out
              have hyl := hyK.out
              have hbq := below_regrown wt pq.d pq.os
              clear q_x0 q_x1 q_x2 q_x3 q_y0 q_y1 q_y2 q_y3 x0 x1 x2 x3 y0 y1 y2 y3 HQY HQX g2 hXK hYK hyK
              replace hX := hX.below hbq hX.lt
              replace hY := hY.below hbq hY.lt
              replace hyl := hyl.up hbq
              replace hB := hB.trans (hbq.mono hB.size)
              generalize grow (redrawn wt pq.d) pq.os = wu at *
              clear hbq
              have y0 : wu.cell? ⟨wr.heap.size, 0, none⟩ = some (.slice A7 n7 c7) := hY.cell 0
              have y1 : wu.cell? ⟨wr.heap.size, 1, none⟩ = some (.slice A8 n8 c8) := hY.cell 1
              have y2 : wu.cell? ⟨wr.heap.size, 2, none⟩ = some (.int .i64 y.clk) := hY.cell 2
              have y3 : wu.cell? ⟨wr.heap.size, 3, none⟩ = some (.int .i64 y.ver) := hY.cell 3
              have x0 : wu.cell? ⟨w.heap.size, 0, none⟩ = some (.slice A5 (n7 + n9) c5) := hX.cell 0
              have x1 : wu.cell? ⟨w.heap.size, 1, none⟩ = some (.slice A6 n6 c6) := hX.cell 1
              have x2 : wu.cell? ⟨w.heap.size, 2, none⟩ = some (.int .i64 x.clk) := hX.cell 2
              have x3 : wu.cell? ⟨w.heap.size, 3, none⟩ = some (.int .i64 x.ver) := hX.cell 3
              have f_0 := hX.free 0
              have f_1 := hX.free 1
              have f_2 := hX.free 2
              have f_3 := hX.free 3
              have lt_x := hX.lt
              have lt_y := hY.lt
              have hF := pl_set4 hX (.slice A7 n7 c7) (.slice A8 n8 c8) (.int .i64 y.clk) (.int .i64 y.ver)
              have hG := hyl.kept1 (pl_grown4 wu w.heap.size (.slice A7 n7 c7) (.slice A8 n8 c8) (.int .i64 y.clk) (.int .i64 y.ver)) hap
              have hE := pl_below4 hB w.heap.size (Nat.le_refl _) (.slice A7 n7 c7) (.slice A8 n8 c8) (.int .i64 y.clk) (.int .i64 y.ver)
              clear hX hY hyl hB
              go_wp2
              go_roundw
              case rel => exact ⟨i + 1, A7, n7, c7, A8, n8, c8, y, by omega, by go_num, HYR, hF, hG, hE⟩
              case measure => simp [intOf]; omega
            · have HCE := Lib.hid hce
              have HVE0 := Lib.hid (show y.ver = min (x.ver + 1) 1099511627776 by rw [hvr, if_neg (by omega)])
              clear hce hcl hge0 hvr
              have HYB := Lib.hid (show rightP y.cs y.rs y.clk y.ver = true from HYR.out)
              have t0 : IntKind.i64.wrap (x.ver + 1) = x.ver + 1 := by rw [IntWalk.i64_in _ (by have := (Pl.right_spec.1 HXR.out).v0; have := (Pl.right_spec.1 HXR.out).v1; omega)]
              have x0 : wt.cell? ⟨w.heap.size, 0, none⟩ = some (.slice A5 (n7 + n9) c5) := hX.cell 0
              have x1 : wt.cell? ⟨w.heap.size, 1, none⟩ = some (.slice A6 n6 c6) := hX.cell 1
              have x2 : wt.cell? ⟨w.heap.size, 2, none⟩ = some (.int .i64 x.clk) := hX.cell 2
              have x3 : wt.cell? ⟨w.heap.size, 3, none⟩ = some (.int .i64 x.ver) := hX.cell 3
              have y0 : wt.cell? ⟨wr.heap.size, 0, none⟩ = some (.slice A7 n7 c7) := hY.cell 0
              have y1 : wt.cell? ⟨wr.heap.size, 1, none⟩ = some (.slice A8 n8 c8) := hY.cell 1
              have y2 : wt.cell? ⟨wr.heap.size, 2, none⟩ = some (.int .i64 y.clk) := hY.cell 2
              have y3 : wt.cell? ⟨wr.heap.size, 3, none⟩ = some (.int .i64 y.ver) := hY.cell 3
              have lt_x := hX.lt
              have lt_y := hY.lt
              go_upto_region 18 with fail
              generalize hnv : min (x.ver + 1) 1099511627776 = nv at *
              clear t0
              have HNV := Lib.hid hnv
              clear hnv
              have g5 : (y.clk == x.clk) = false := by simpa using HCE.out
              have g6 : decide (y.clk = x.clk) = false := by simpa using HCE.out
              go_upto_region 20 with fail
              clear e0'
              have g2 : decide (y.clk < x.clk) = false := decide_eq_false HGE.out
              have HVE := Lib.hid (show y.ver = nv from by first | exact HVE0.out.trans HNV.out | exact HVE0.out)
              have g7 : (y.ver != nv) = false := by rw [HVE.out]; simp
              have HQY := Lib.hid (fun d os => hyl.up (below_regrown wt d os))
              have HQX := Lib.hid (fun d os => hxl.up (below_regrown wt d os))
              have hXK := Lib.hid hX
              have hYK := Lib.hid hY
              have hyK := Lib.hid hyl
              clear hX hY hyl hxl
              have q_x0 := fun d os => cell_regrown x0 d os
              have q_x1 := fun d os => cell_regrown x1 d os
              have q_x2 := fun d os => cell_regrown x2 d os
              have q_x3 := fun d os => cell_regrown x3 d os
              have q_y0 := fun d os => cell_regrown y0 d os
              have q_y1 := fun d os => cell_regrown y1 d os
              have q_y2 := fun d os => cell_regrown y2 d os
              have q_y3 := fun d os => cell_regrown y3 d os
              try simp only [List.append]
              first | refine wp_region_text_below ?_ | refine wp_region_quiet_below (by kernel_rfl) (by kernel_rfl) ?_
              repeat (go_big_quiet_step (((go_at_call 12; with_reducible exact Calls.regrown_of (pright_any A7 n7 c7 y.cs A8 n8 c8 y.rs y.clk y.ver _ (HQY.out 0 #[]).l1 (by have := (HQY.out 0 #[]).b1; omega) (HQY.out 0 #[]).l (by have := (HQY.out 0 #[]).b; omega) (HQY.out _ _).s1 (HQY.out _ _).s true HYB.out)))))
              refine wpQuiet_nil ?_
              intro _ hqw
              obtain ⟨pq, hqw⟩ := hqw
              subst hqw
              have hX := hXK.out
              have hY := hYK.out
              have hyl := hyK.out
              have hbq := below_regrown wt pq.d pq.os
              clear q_x0 q_x1 q_x2 q_x3 q_y0 q_y1 q_y2 q_y3 x0 x1 x2 x3 y0 y1 y2 y3 HQY HQX g2 hXK hYK hyK
              replace hX := hX.below hbq hX.lt
              replace hY := hY.below hbq hY.lt
              replace hyl := hyl.up hbq
              replace hB := hB.trans (hbq.mono hB.size)
              generalize grow (redrawn wt pq.d) pq.os = wu at *
              clear hbq
              have y0 : wu.cell? ⟨wr.heap.size, 0, none⟩ = some (.slice A7 n7 c7) := hY.cell 0
              have y1 : wu.cell? ⟨wr.heap.size, 1, none⟩ = some (.slice A8 n8 c8) := hY.cell 1
              have y2 : wu.cell? ⟨wr.heap.size, 2, none⟩ = some (.int .i64 y.clk) := hY.cell 2
              have y3 : wu.cell? ⟨wr.heap.size, 3, none⟩ = some (.int .i64 y.ver) := hY.cell 3
              have x0 : wu.cell? ⟨w.heap.size, 0, none⟩ = some (.slice A5 (n7 + n9) c5) := hX.cell 0
              have x1 : wu.cell? ⟨w.heap.size, 1, none⟩ = some (.slice A6 n6 c6) := hX.cell 1
              have x2 : wu.cell? ⟨w.heap.size, 2, none⟩ = some (.int .i64 x.clk) := hX.cell 2
              have x3 : wu.cell? ⟨w.heap.size, 3, none⟩ = some (.int .i64 x.ver) := hX.cell 3
              have f_0 := hX.free 0
              have f_1 := hX.free 1
              have f_2 := hX.free 2
              have f_3 := hX.free 3
              have lt_x := hX.lt
              have lt_y := hY.lt
              have hF := pl_set4 hX (.slice A7 n7 c7) (.slice A8 n8 c8) (.int .i64 y.clk) (.int .i64 y.ver)
              have hG := hyl.kept1 (pl_grown4 wu w.heap.size (.slice A7 n7 c7) (.slice A8 n8 c8) (.int .i64 y.clk) (.int .i64 y.ver)) hap
              have hE := pl_below4 hB w.heap.size (Nat.le_refl _) (.slice A7 n7 c7) (.slice A8 n8 c8) (.int .i64 y.clk) (.int .i64 y.ver)
              clear hX hY hyl hB
              go_wp2
              go_roundw
              case rel => exact ⟨i + 1, A7, n7, c7, A8, n8, c8, y, by omega, by go_num, HYR, hF, hG, hE⟩
              case measure => simp [intOf]; omega
          · have hyx : y = x := by rw [← HY.out]; exact adv_same (by rw [HF.out]; exact hz)
            have g3 : (f != 0) = true := by simpa using hz
            have g4 : (f == 0) = false := by simpa using hz
            clear hz
            clear e0'
            have q_m0 := fun d os => cell_regrown m0 d os
            have q_x0 := fun d os => cell_regrown x0 d os
            have q_y2 := fun d os => cell_regrown y2 d os
            have q_ee := fun d os => cell_regrown ee d os
            try simp only [List.append]
            first | refine wp_region_text_below ?_ | refine wp_region_quiet_below (by kernel_rfl) (by kernel_rfl) ?_
            repeat (go_big_quiet_step ((fail)))
            refine wpQuiet_nil ?_
            intro _ hqw
            obtain ⟨pq, hqw⟩ := hqw
            subst hqw
            have hbq := below_regrown wb pq.d pq.os
            have hX := (hXK.out).below hbq hXK.out.lt
            have hY := (hYK.out).below hbq hYK.out.lt
            have hyl := (hyK.out).up hbq
            have hxl := (hxK.out).up hbq
            replace hB := hB.trans (hbq.mono hB.size)
            have e0' := HE0.out _ (HRbK.out.trans (hbq.mono HRbK.out.size))
            clear HRbK q_m0 q_x0 q_y2 q_ee m0 x0 y2 ee lt_m lt_x lt_y hXK hYK hyK hxK t5
            generalize grow (redrawn wb pq.d) pq.os = wt at *
            clear hbq
            have g1 : (u.dq != 0) = true := by simpa using HDO.out
            have g1d : decide (u.dq = 0) = false := by simpa using HDO.out
            subst hyx
            have HYB := Lib.hid (show rightP y.cs y.rs y.clk y.ver = true from HYR.out)
            have t0 : IntKind.i64.wrap (y.ver + 1) = y.ver + 1 := by rw [IntWalk.i64_in _ (by have := (Pl.right_spec.1 HYR.out).v0; have := (Pl.right_spec.1 HYR.out).v1; omega)]
            have x0 : wt.cell? ⟨w.heap.size, 0, none⟩ = some (.slice A5 (n7 + n9) c5) := hX.cell 0
            have x1 : wt.cell? ⟨w.heap.size, 1, none⟩ = some (.slice A6 n6 c6) := hX.cell 1
            have x2 : wt.cell? ⟨w.heap.size, 2, none⟩ = some (.int .i64 y.clk) := hX.cell 2
            have x3 : wt.cell? ⟨w.heap.size, 3, none⟩ = some (.int .i64 y.ver) := hX.cell 3
            have y0 : wt.cell? ⟨wr.heap.size, 0, none⟩ = some (.slice A7 n7 c7) := hY.cell 0
            have y1 : wt.cell? ⟨wr.heap.size, 1, none⟩ = some (.slice A8 n8 c8) := hY.cell 1
            have y2 : wt.cell? ⟨wr.heap.size, 2, none⟩ = some (.int .i64 y.clk) := hY.cell 2
            have y3 : wt.cell? ⟨wr.heap.size, 3, none⟩ = some (.int .i64 y.ver) := hY.cell 3
            have lt_x := hX.lt
            have lt_y := hY.lt
            go_upto_region 18 with fail
            generalize hnv : min (y.ver + 1) 1099511627776 = nv at *
            clear t0
            have HNV := Lib.hid hnv
            clear hnv
            go_upto_region 20 with fail
            clear e0'
            have g2 : decide (y.clk < y.clk) = false := decide_eq_false (Int.lt_irrefl _)
            have HQY := Lib.hid (fun d os => hyl.up (below_regrown wt d os))
            have HQX := Lib.hid (fun d os => hxl.up (below_regrown wt d os))
            have hXK := Lib.hid hX
            have hYK := Lib.hid hY
            have hyK := Lib.hid hyl
            clear hX hY hyl hxl
            have q_x0 := fun d os => cell_regrown x0 d os
            have q_x1 := fun d os => cell_regrown x1 d os
            have q_x2 := fun d os => cell_regrown x2 d os
            have q_x3 := fun d os => cell_regrown x3 d os
            have q_y0 := fun d os => cell_regrown y0 d os
            have q_y1 := fun d os => cell_regrown y1 d os
            have q_y2 := fun d os => cell_regrown y2 d os
            have q_y3 := fun d os => cell_regrown y3 d os
            try simp only [List.append]
            first | refine wp_region_text_below ?_ | refine wp_region_quiet_below (by kernel_rfl) (by kernel_rfl) ?_
            repeat (go_big_quiet_step (((first | (go_at_call 12; with_reducible exact Calls.regrown_of (pright_any A7 n7 c7 y.cs A8 n8 c8 y.rs y.clk y.ver _ (HQY.out 0 #[]).l1 (by have := (HQY.out 0 #[]).b1; omega) (HQY.out 0 #[]).l (by have := (HQY.out 0 #[]).b; omega) (HQY.out _ _).s1 (HQY.out _ _).s true HYB.out)) | (go_at_call 14; with_reducible exact Calls.regrown_of (psame_any A7 n7 c7 A8 n8 c8 y A5 (n7 + n9) c5 A6 n6 c6 y _ (HQY.out _ _) (HQX.out _ _) true (samePB_refl y)))))))
            refine wpQuiet_nil ?_
            intro _ hqw
            obtain ⟨pq, hqw⟩ := hqw
            subst hqw
            have hX := hXK.out
            have hY := hYK.out
            have hyl := hyK.out
            have hbq := below_regrown wt pq.d pq.os
            clear q_x0 q_x1 q_x2 q_x3 q_y0 q_y1 q_y2 q_y3 x0 x1 x2 x3 y0 y1 y2 y3 HQY HQX g2 hXK hYK hyK
            replace hX := hX.below hbq hX.lt
            replace hY := hY.below hbq hY.lt
            replace hyl := hyl.up hbq
            replace hB := hB.trans (hbq.mono hB.size)
            generalize grow (redrawn wt pq.d) pq.os = wu at *
            clear hbq
            have y0 : wu.cell? ⟨wr.heap.size, 0, none⟩ = some (.slice A7 n7 c7) := hY.cell 0
            have y1 : wu.cell? ⟨wr.heap.size, 1, none⟩ = some (.slice A8 n8 c8) := hY.cell 1
            have y2 : wu.cell? ⟨wr.heap.size, 2, none⟩ = some (.int .i64 y.clk) := hY.cell 2
            have y3 : wu.cell? ⟨wr.heap.size, 3, none⟩ = some (.int .i64 y.ver) := hY.cell 3
            have x0 : wu.cell? ⟨w.heap.size, 0, none⟩ = some (.slice A5 (n7 + n9) c5) := hX.cell 0
            have x1 : wu.cell? ⟨w.heap.size, 1, none⟩ = some (.slice A6 n6 c6) := hX.cell 1
            have x2 : wu.cell? ⟨w.heap.size, 2, none⟩ = some (.int .i64 y.clk) := hX.cell 2
            have x3 : wu.cell? ⟨w.heap.size, 3, none⟩ = some (.int .i64 y.ver) := hX.cell 3
            have f_0 := hX.free 0
            have f_1 := hX.free 1
            have f_2 := hX.free 2
            have f_3 := hX.free 3
            have lt_x := hX.lt
            have lt_y := hY.lt
            have hF := pl_set4 hX (.slice A7 n7 c7) (.slice A8 n8 c8) (.int .i64 y.clk) (.int .i64 y.ver)
            have hG := hyl.kept1 (pl_grown4 wu w.heap.size (.slice A7 n7 c7) (.slice A8 n8 c8) (.int .i64 y.clk) (.int .i64 y.ver)) hap
            have hE := pl_below4 hB w.heap.size (Nat.le_refl _) (.slice A7 n7 c7) (.slice A8 n8 c8) (.int .i64 y.clk) (.int .i64 y.ver)
            clear hX hY hyl hB
            go_wp2
            go_roundw
            case rel => exact ⟨i + 1, A7, n7, c7, A8, n8, c8, y, by omega, by go_num, HYR, hF, hG, hE⟩
            case measure => simp [intOf]; omega
    · go_wp2
      go_ret
      exact ⟨rfl, hB0⟩
theorem planRight_walk (A1 : Option Addr) (n1 c1 : Nat) (ns1 : List Int) (A : Option Addr) (n c : Nat) (ns : List Int) (clk ver : Int) (Al : Option Addr) (nl cl : Nat) (ns2 : List Int) (hnl1 : ns1.length = n1 * 6) (_ : ∀ m ∈ ns1, (Lit.int .i64 m).wf = true) (hnl : ns.length = n * 5) (_ : ∀ m ∈ ns, (Lit.int .i64 m).wf = true) (_ : (Lit.int .i64 clk).wf = true) (_ : (Lit.int .i64 ver).wf = true) (hnl2 : ns2.length = nl * 15) (hw2 : ∀ m ∈ ns2, (Lit.int .i64 m).wf = true) (w : World)
    (h1 : Sl w w.heap.size 6 A1 n1 c1 (ns1.map (Value.int .i64))) (h : Sl w w.heap.size 5 A n c (ns.map (Value.int .i64))) (hl : Sl w w.heap.size 15 Al nl cl (ns2.map (Value.int .i64))) :
    Calls Tryz.prog 4 #[.agg #[.slice A1 n1 c1, .slice A n c, .int .i64 clk, .int .i64 ver], .slice Al nl cl] w fun e w' => e = .returned (.bool true) ∧ Below w.heap.size w w' := by
  obtain ⟨cs, hd1, hf1⟩ := rowsCo_of n1 ns1 hnl1
  obtain ⟨rs, hd, hf⟩ := rowsRg_of n ns hnl
  obtain ⟨l, hdl, hf2⟩ := rowsAp_of nl ns2 hnl2
  rw [hf2] at hl
  rw [hf1] at h1
  rw [hf] at h
  exact planRight_w A1 n1 c1 A n c ⟨cs, rs, clk, ver⟩ Al nl cl l (fun j hj => wf_flatAp hw2 hf2 (by rw [hdl]; exact hj)) hdl hd1 hd w h1 h hl
theorem planRight_own : ownKnob Tryz.prog.godebug = none := by kernel_rfl
theorem planRight_laidOut : laidOutB Tryz.prog = true := by kernel_rfl

set_option maxHeartbeats 1000000 in
set_option maxRecDepth 100000 in
theorem planRight_lifted (os : Os) (started : os.Started) (H : Type) (enc : TypeId × Value → H) :
    ReturnsInHanded {} Tryz.checked os 4 .any (Rows.planRightSpec.pre6 enc Tryz.prog Tryz.f4 Rows.planRightRow.domain false) (Rows.planRightSpec.post enc Tryz.prog Tryz.f4 false true false false) := by
  refine returnsInHanded_of_change (C := Tryz.checked) planRight_own started (by kernel_rfl) Tryz.func4
    (ChangeSpec.witness6 (enc := enc) (C := Tryz.checked) false ⟨#[], #[.agg #[.slice none 0 0, .slice none 0 0, .int .i64 0, .int .i64 0], .slice none 0 0], []⟩ 8 (by kernel_rfl) (by kernel_rfl) (by kernel_rfl) (by kernel_rfl)) ?_
  intro W base args ds gs before hval0 hW hcnd _
  have hval : ∀ (j : Nat) t v, Tryz.f4.params[j]? = some t → args[j]? = some v → Value.okWide Tryz.prog W .any base t v := hval0
  have hW' := hW
  obtain ⟨p, q, hA0, hV, rfl, hfz, hnd⟩ := hW
  have hA : DataW.TrodAll enc Tryz.prog W 0 (fun _ => true) true Tryz.f4.params.toList args.toList ds p := hA0
  rw [Tryz.params4] at hA hval
  obtain ⟨v0, vs0, d0, ds0, p0, q0, hargs, rfl, rfl, h0, r0⟩ := trodAll_cons hA
  obtain ⟨v1, vs1, d1, ds1, p1, q1, rfl, rfl, rfl, h1, r1⟩ := trodAll_cons r0
  obtain ⟨rfl, rfl, rfl⟩ := trodAll_nil r1
  obtain rfl : args = #[v0, v1] := by cases args; simp_all
  obtain ⟨rfl, rfl⟩ := trodVars_none hV
  obtain ⟨A0, n0, c0, ns0, B0, m0, k0, ms0, x0, y0, rfl, hl0, nl0, w0, hm0, ml0, wm0, wx0, wy0⟩ := open_plan 4 (e0 := 33) (e1 := 35) (K0 := 6) (K1 := 5) Tryz.underlying25 (by kernel_rfl) (by kernel_rfl) (by kernel_rfl) (by kernel_rfl) (by kernel_rfl) (by kernel_rfl) (by kernel_rfl) (by kernel_rfl) (by omega) (by kernel_rfl) (by omega) (hval 0 25 v0 rfl rfl) h0
  obtain ⟨A1, n1, c1, ns1, rfl, hl1, nl1, w1⟩ := open_rowsS 4 (K := 15) Tryz.underlying26 (by kernel_rfl) (by kernel_rfl) (by omega) (hval 1 26 v1 rfl rfl) h1
  clear hA0 hval0
  refine (planRight_walk A0 n0 c0 ns0 B0 m0 k0 ms0 x0 y0 A1 n1 c1 ns1 nl0 w0 ml0 wm0 wx0 wy0 nl1 w1 W hl0 hm0 hl1).mono fun e W' ⟨he, bel⟩ => ?_
  subst he
  exact ⟨_, rfl, law_post planRight_laidOut (by kernel_rfl) rfl Tryz.underlying4 rfl rfl hW' bel⟩

theorem planRight_proved : Rows.PlanRightSaid :=
  OpenClaim.holds_of_wide 4 Tryz.f4 rfl rfl rfl rfl rfl rfl rfl ⟨rfl, rfl, rfl, rfl, rfl⟩ rfl rfl rfl rfl rfl (by kernel_rfl) Tryz.func4 (by kernel_rfl)
    (of_decide_eq_true (by kernel_rfl)) (by unfold Func.isWrapper; first | (rw [if_pos (by decide +kernel)]; kernel_rfl) | (rw [if_neg (by decide +kernel)]; exact ⟨rfl, rfl⟩))
    (fun os started H enc _ => planRight_lifted os started H enc)
#print axioms planRight_proved
end Go.Proofs.YtolaabllhibkdaaGreat
