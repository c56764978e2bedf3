/- All directives are done as one by one, or none is: PlanWhole returns true. No condition. -/
import Derived.Test.YtolaabllhibkdaaGreatW9
import Derived.Test.YtolaabllhibkdaaGreatRows
namespace Go.Proofs.YtolaabllhibkdaaGreat
open Go.ChangeShapes Go.WideShapes Go.ChangeAt Go.RowKit Go.Sort
set_option linter.unusedSimpArgs false
set_option linter.unusedVariables false
theorem wf_flatDr {ns : List Int} {d : List Dr} (hw : ∀ m ∈ ns, (Lit.int .i64 m).wf = true) (hf : ns.map (Value.int .i64) = flatDr d) {j : Nat} (hj : j < d.length) : (Lit.int .i64 (gDr d j).op).wf = true ∧ (Lit.int .i64 (gDr d j).kd).wf = true := by
  have key : ∀ (k : Nat) (x : Int), (flatDr d)[k]? = some (.int .i64 x) → (Lit.int .i64 x).wf = true := by
    intro k x hx
    rw [← hf, List.getElem?_map] at hx
    cases hn : ns[k]? with
    | none => rw [hn] at hx; simp at hx
    | some y =>
      rw [hn] at hx
      simp at hx
      subst hx
      exact hw _ (List.mem_of_getElem? hn)
  exact ⟨key _ _ (flatDr_at0 d j hj), key _ _ (flatDr_at1 d j hj)⟩
theorem set4 {W : World} {b : Nat} {T : TypeId} {u0 u1 u2 u3 : Value} (h : Blok W b T #[u0, u1, u2, u3]) (v0 v1 v2 v3 : Value) : Blok ((((W.setCell ⟨b, 0, none⟩ v0).setCell ⟨b, 1, none⟩ v1).setCell ⟨b, 2, none⟩ v2).setCell ⟨b, 3, none⟩ v3) b T #[v0, v1, v2, v3] := by
  have h2 := (((h.set_ 0 v0).set_ 1 v1).set_ 2 v2).set_ 3 v3
  simpa using h2
theorem grown4 (W : World) (b : Nat) (v0 v1 v2 v3 : Value) : W.grownBy ((((W.setCell ⟨b, 0, none⟩ v0).setCell ⟨b, 1, none⟩ v1).setCell ⟨b, 2, none⟩ v2).setCell ⟨b, 3, none⟩ v3) (some b) := grown_sets [v0, v1, v2, v3] 0 W
theorem below4 {B : Nat} {W0 W : World} (hB : Below B W0 W) (b : Nat) (hb : B ≤ b) (v0 v1 v2 v3 : Value) : Below B W0 ((((W.setCell ⟨b, 0, none⟩ v0).setCell ⟨b, 1, none⟩ v1).setCell ⟨b, 2, none⟩ v2).setCell ⟨b, 3, none⟩ v3) :=
  (((hB.setCell (p := ⟨b, 0, none⟩) hb v0).setCell (p := ⟨b, 1, none⟩) hb v1).setCell (p := ⟨b, 2, none⟩) hb v2).setCell (p := ⟨b, 3, none⟩) hb v3
structure WholeStop (p a : Pl) (l : List Dr) (q : Int) (k i : Nat) (f : Int) : Prop where
  a : a = p
  q : q = f
  k : k = i
theorem whole_stop {p a : Pl} {l : List Dr} {q f : Int} {k i : Nat} (hq : allQ p l = (q, k)) (ha : allP p l = a) (hi : i < l.length) (h0 : ∀ j, j < i → stepQ (runP p (l.take j)) (gDr l j) = 0) (hf : stepQ (runP p (l.take i)) (gDr l i) = f) (hn : f ≠ 0) : WholeStop p a l q k i f := by
  have h := allQ_stop hi h0 hf hn
  rw [hq] at h
  injection h with e1 e2
  subst e1 e2
  refine ⟨?_, rfl, rfl⟩
  rw [← ha]
  unfold allP
  rw [hq, if_neg hn]
theorem whole_all {p a : Pl} {l : List Dr} {q : Int} {k : Nat} (hq : allQ p l = (q, k)) (ha : allP p l = a) (h0 : ∀ j, j < l.length → stepQ (runP p (l.take j)) (gDr l j) = 0) : a = runP p (l.take l.length) ∧ q = 0 ∧ k = l.length := by
  have h := allQ_all h0
  rw [hq] at h
  injection h with e1 e2
  subst e1 e2
  refine ⟨?_, rfl, rfl⟩
  rw [← ha, List.take_length]
  unfold allP
  rw [hq, if_pos rfl]
theorem all_next {p : Pl} {l : List Dr} {i : Nat} (h0 : ∀ j, j < i → stepQ (runP p (l.take j)) (gDr l j) = 0) (h : stepQ (runP p (l.take i)) (gDr l i) = 0) : ∀ j, j < i + 1 → stepQ (runP p (l.take j)) (gDr l j) = 0 := fun j hj => by
  rcases Nat.lt_or_ge j i with h1 | h1
  · exact h0 j h1
  · have : j = i := by omega
    subst this
    exact h
set_option maxHeartbeats 16000000 in
set_option maxRecDepth 100000 in
theorem planWhole_w (A1 : Option Addr) (n1 c1 : Nat) (A : Option Addr) (n c : Nat) (p : Pl) (Al : Option Addr) (nl cl : Nat) (l : List Dr) (hwf : ∀ j, j < nl → (Lit.int .i64 (gDr l j).op).wf = true ∧ (Lit.int .i64 (gDr l j).kd).wf = true) (hdl : l.length = nl) (hd1 : p.cs.length = n1) (hd : p.rs.length = n) (w : World) (h1 : Sl w w.heap.size 6 A1 n1 c1 (flatCo p.cs)) (h : Sl w w.heap.size 5 A n c (flatRg p.rs)) (hl : Sl w w.heap.size 13 Al nl cl (flatDr l)) :
    Calls Tryz.prog 6 #[.agg #[.slice A1 n1 c1, .slice A n c, .int .i64 p.clk, .int .i64 p.ver], .slice Al nl cl] w fun e w' => e = .returned (.bool true) ∧ Below w.heap.size w w' := by
  have hB : Below w.heap.size w (w.alloc (.cells #[.slice A1 n1 c1, .slice A n c, .int .i64 p.clk, .int .i64 p.ver] 25)) := by (repeat (first | exact Below.refl _ _ | refine Below.alloc ?_ (by first | omega | (simp; done) | (simp; omega)) _ | refine Below.setCell ?_ (by first | omega | (simp; done) | (simp; omega)) _ | refine Below.drew ?_))
  have hP := Blok.new w 25 #[.slice A1 n1 c1, .slice A n c, .int .i64 p.clk, .int .i64 p.ver]
  replace h1 := h1.up hB
  replace h := h.up hB
  replace hl := hl.up hB
  have hs := hB.size
  have HDL := Lib.hid hdl
  have HWF := Lib.hid hwf
  clear hdl hwf
  have HD1 := Lib.hid hd1
  have HD := Lib.hid hd
  clear hd hd1
  go_enter Tryz.func6, Tryz.ntmps6
  go_wp2_with fail
  generalize w.alloc (.cells #[.slice A1 n1 c1, .slice A n c, .int .i64 p.clk, .int .i64 p.ver] 25) = w0 at *
  refine (small08_any w0).mono ?_
  rintro e w1 ⟨rfl, hb⟩
  replace h1 := h1.up hb
  replace h := h.up hb
  replace hl := hl.up hb
  replace hP := hP.below hb hP.lt
  replace hB := hB.trans (hb.mono hs)
  replace hs := hB.size
  clear hb
  have p0 : w1.cell? ⟨w.heap.size, 0, none⟩ = some (.slice A1 n1 c1) := hP.cell 0
  have p1 : w1.cell? ⟨w.heap.size, 1, none⟩ = some (.slice A n c) := hP.cell 1
  have p2 : w1.cell? ⟨w.heap.size, 2, none⟩ = some (.int .i64 p.clk) := hP.cell 2
  have p3 : w1.cell? ⟨w.heap.size, 3, none⟩ = some (.int .i64 p.ver) := hP.cell 3
  have lt_p := hP.lt
  go_wp2_with fail
  clear p0 p1 p2 p3 lt_p
  refine (few_any A1 n1 c1 A n c p.clk p.ver w1 _ rfl).mono ?_
  rintro e w2 ⟨rfl, hb⟩
  replace h1 := h1.up hb
  replace h := h.up hb
  replace hl := hl.up hb
  replace hP := hP.below hb hP.lt
  replace hB := hB.trans (hb.mono hs)
  replace hs := hB.size
  clear hb
  by_cases hf : ¬ (n1 ≤ 50 ∧ n ≤ 50)
  · rw [decide_eq_false hf]
    go_wp2_with fail
    go_ret
    exact ⟨rfl, hB⟩
  replace hf := Decidable.not_not.1 hf
  rw [decide_eq_true hf]
  obtain ⟨hf1, hf2⟩ := hf
  by_cases hf3 : 50 < nl
  · have g0 : decide ((nl : Int) > 50) = true := decide_eq_true (by omega)
    go_wp2_with fail
    go_ret
    exact ⟨rfl, hB⟩
  have g9 : decide ((nl : Int) > 50) = false := decide_eq_false (by omega)
  have p0 : w2.cell? ⟨w.heap.size, 0, none⟩ = some (.slice A1 n1 c1) := hP.cell 0
  have p1 : w2.cell? ⟨w.heap.size, 1, none⟩ = some (.slice A n c) := hP.cell 1
  have p2 : w2.cell? ⟨w.heap.size, 2, none⟩ = some (.int .i64 p.clk) := hP.cell 2
  have p3 : w2.cell? ⟨w.heap.size, 3, none⟩ = some (.int .i64 p.ver) := hP.cell 3
  have lt_p := hP.lt
  go_wp2_with fail
  clear p0 p1 p2 p3 lt_p g9
  obtain ⟨rb, hrb⟩ : ∃ rb, rightP p.cs p.rs p.clk p.ver = rb := ⟨_, rfl⟩
  refine (pright_any A1 n1 c1 p.cs A n c p.rs p.clk p.ver w2 HD1.out (by omega) HD.out (by omega) h1 h rb hrb).mono ?_
  rintro e w3 ⟨rfl, hb⟩
  replace h1 := h1.up hb
  replace h := h.up hb
  replace hl := hl.up hb
  replace hP := hP.below hb hP.lt
  replace hB := hB.trans (hb.mono hs)
  replace hs := hB.size
  clear hb
  cases rb
  · clear hrb
    go_wp2_with fail
    go_ret
    exact ⟨rfl, hB⟩
  have HRP := Lib.hid (rightP_spec.1 hrb)
  clear hrb
  have hp : PlAt w3 A1 n1 c1 A n c p := ⟨HD1.out, HD.out, by omega, by omega, h1, h⟩
  clear h1 h
  have HPR := Lib.hid (Pl.right_spec.2 HRP.out)
  obtain ⟨a, ha⟩ : ∃ a, allP p l = a := ⟨_, rfl⟩
  obtain ⟨q, k, hqk⟩ : ∃ q k, allQ p l = (q, k) := ⟨_, _, rfl⟩
  have HA := Lib.hid ha
  have HQ := Lib.hid hqk
  clear ha hqk
  have p0 : w3.cell? ⟨w.heap.size, 0, none⟩ = some (.slice A1 n1 c1) := hP.cell 0
  have p1 : w3.cell? ⟨w.heap.size, 1, none⟩ = some (.slice A n c) := hP.cell 1
  have p2 : w3.cell? ⟨w.heap.size, 2, none⟩ = some (.int .i64 p.clk) := hP.cell 2
  have p3 : w3.cell? ⟨w.heap.size, 3, none⟩ = some (.int .i64 p.ver) := hP.cell 3
  have lt_p := hP.lt
  go_wp2_with fail
  clear p0 p1 p2 p3 lt_p
  refine (pall_any A1 n1 c1 A n c p Al nl cl l w3 HDL.out (by omega) HWF.out hp hl HPR.out).mono ?_
  rintro e w4 ⟨A2, n2, c2, A3, n3, c3, rfl, ho, hb⟩
  rw [HA.out] at ho
  rw [HA.out, HQ.out]
  have hq := ho.at_
  clear ho
  replace hp := hp.up hb
  replace hl := hl.up hb
  replace hP := hP.below hb hP.lt
  replace hB := hB.trans (hb.mono hs)
  replace hs := hB.size
  clear hb
  go_upto_region 6 with fail
  have ba := Blok.new w4 25 #[.slice A2 n2 c2, .slice A3 n3 c3, .int .i64 a.clk, .int .i64 a.ver]
  have hb : Below w4.heap.size w4 (w4.alloc (.cells #[.slice A2 n2 c2, .slice A3 n3 c3, .int .i64 a.clk, .int .i64 a.ver] 25)) := by (repeat (first | exact Below.refl _ _ | refine Below.alloc ?_ (by first | omega | (simp; done) | (simp; omega)) _ | refine Below.setCell ?_ (by first | omega | (simp; done) | (simp; omega)) _ | refine Below.drew ?_))
  replace hp := hp.up hb
  replace hq := hq.up hb
  replace hl := hl.up hb
  replace hP := hP.below hb hP.lt
  replace hB := hB.trans (hb.mono hs)
  replace hs := hB.size
  clear hb
  generalize w4.alloc (.cells #[.slice A2 n2 c2, .slice A3 n3 c3, .int .i64 a.clk, .int .i64 a.ver] 25) = w5 at *
  generalize hzz : w4.heap.size = Ba at *
  clear hzz
  have p0 : w5.cell? ⟨w.heap.size, 0, none⟩ = some (.slice A1 n1 c1) := hP.cell 0
  have p1 : w5.cell? ⟨w.heap.size, 1, none⟩ = some (.slice A n c) := hP.cell 1
  have p2 : w5.cell? ⟨w.heap.size, 2, none⟩ = some (.int .i64 p.clk) := hP.cell 2
  have p3 : w5.cell? ⟨w.heap.size, 3, none⟩ = some (.int .i64 p.ver) := hP.cell 3
  have lt_p := hP.lt
  go_upto_region 7 with fail
  clear p0 p1 p2 p3 lt_p
  have hX := Blok.new w5 25 #[.slice A1 n1 c1, .slice A n c, .int .i64 p.clk, .int .i64 p.ver]
  have hb5 : Below w5.heap.size w5 (w5.alloc (.cells #[.slice A1 n1 c1, .slice A n c, .int .i64 p.clk, .int .i64 p.ver] 25)) := by (repeat (first | exact Below.refl _ _ | refine Below.alloc ?_ (by first | omega | (simp; done) | (simp; omega)) _ | refine Below.setCell ?_ (by first | omega | (simp; done) | (simp; omega)) _ | refine Below.drew ?_))
  have hxl := hp.up hb5
  generalize w5.alloc (.cells #[.slice A1 n1 c1, .slice A n c, .int .i64 p.clk, .int .i64 p.ver] 25) = w6 at *
  have hBxl := hX.lt
  generalize hbxe : w5.heap.size = Bx at *
  go_wp2_with fail
  have HB0 := Lib.hid hB
  have HPX := Lib.hid (fun w' (hb : Below w5.heap.size w5 w') => hP.below hb hP.lt)
  have HQX := Lib.hid (fun w' (hb : Below w5.heap.size w5 w') => ba.below hb ba.lt)
  have HPL := Lib.hid (fun w' (hb : Below w5.heap.size w5 w') => hp.up hb)
  have HQL := Lib.hid (fun w' (hb : Below w5.heap.size w5 w') => hq.up hb)
  have HLL := Lib.hid (fun w' (hb : Below w5.heap.size w5 w') => (show Sl w' w'.heap.size 13 Al nl cl (flatDr l) from by have h := hl; rw [← hbxe] at h; exact h.up hb))
  have HBE := Lib.hid hbxe
  have hb5' : Below w5.heap.size w5 w6 := by rw [hbxe]; exact hb5
  clear hP ba hp hq hl hB hb5 hbxe hs
  go_loopw [11] (fun iv wr => ∃ (i : Nat) (A5 : Option Addr) (n5 c5 : Nat) (A6 : Option Addr) (n6 c6 : Nat) (x : Pl), i ≤ nl ∧ iv = .int .i64 i ∧ Hid (runP p (l.take i) = x) ∧ Hid (∀ j, j < i → stepQ (runP p (l.take j)) (gDr l j) = 0) ∧ Blok wr Bx 25 #[.slice A5 n5 c5, .slice A6 n6 c6, .int .i64 x.clk, .int .i64 x.ver] ∧ PlAt wr A5 n5 c5 A6 n6 c6 x ∧ Below w5.heap.size w5 wr) (fun iv _ => nl - (intOf iv).toNat)
  case atStart => exact ⟨0, A1, n1, c1, A, n, c, p, by omega, rfl, rfl, fun j hj => by omega, hX, hxl, hb5'⟩
  case round =>
    obtain ⟨i, A5, n5, c5, A6, n6, c6, x, hi, rfl, HX, H0, hX', hx, hB⟩ := hrel
    clear hX hxl hb5' hBxl
    have hs := hB.size
    have HXR : Hid (x.right = true) := by
      show x.right = true
      rw [← HX.out]
      exact runP_right HPR.out _
    by_cases hin : i < nl
    · obtain ⟨d, hd⟩ : ∃ d, gDr l i = d := ⟨_, rfl⟩
      have HW := Lib.hid (HWF.out i hin)
      rw [hd] at HW
      obtain ⟨y, hy⟩ : ∃ y, stepP x d = y := ⟨_, rfl⟩
      obtain ⟨f, hf⟩ : ∃ f, stepQ x d = f := ⟨_, rfl⟩
      have HD := Lib.hid hd
      have HY := Lib.hid hy
      have HF := Lib.hid hf
      have HBX := Lib.hid hX'.lt
      clear hy hf
      have hin2 : (i : Int) < (nl : Int) := by omega
      obtain ⟨al, hA1, hab, hcs⟩ := (HLL.out _ hB).lst.atDr HDL.out hin
      rw [hd] at hcs
      subst hA1
      clear hd
      go_upto_region 10 with fail
      go_cut [12, 13] (fun pv fv wx => ∃ b A7 n7 c7 A8 n8 c8, pv = .pointer (some ⟨b, 0, none⟩) ∧ fv = .int .i64 f ∧ wr.heap.size ≤ b ∧ Below wr.heap.size wr wx ∧ Blok wx b 25 #[.slice A7 n7 c7, .slice A8 n8 c8, .int .i64 y.clk, .int .i64 y.ver] ∧ PlAt wx A7 n7 c7 A8 n8 c8 y ∧ Apart Bx A7 n7 A8 n8)
      case first =>
        obtain ⟨d0, d1, d2, d3, d4, d5, d6, d7, d8, d9, da, db, dc⟩ := hcs
        have x0 : wr.cell? ⟨Bx, 0, none⟩ = some (.slice A5 n5 c5) := hX'.cell 0
        have x1 : wr.cell? ⟨Bx, 1, none⟩ = some (.slice A6 n6 c6) := hX'.cell 1
        have x2 : wr.cell? ⟨Bx, 2, none⟩ = some (.int .i64 x.clk) := hX'.cell 2
        have x3 : wr.cell? ⟨Bx, 3, none⟩ = some (.int .i64 x.ver) := hX'.cell 3
        have lt_x := hX'.lt
        have HFOOT := Lib.hid (fun (w' : World) (hb : Below wr.heap.size wr w') => (show (w'.cell? ⟨Bx, 0, none⟩ = some (.slice A5 n5 c5) ∧ w'.cell? ⟨Bx, 1, none⟩ = some (.slice A6 n6 c6) ∧ w'.cell? ⟨Bx, 2, none⟩ = some (.int .i64 x.clk) ∧ w'.cell? ⟨Bx, 3, none⟩ = some (.int .i64 x.ver) ∧ w'.cell? (al.add (i * 13)) = some (.int .i64 d.op) ∧ w'.cell? ⟨(al.add (i * 13)).block, (al.add (i * 13)).off + 1, none⟩ = some (.int .i64 d.kd) ∧ w'.cell? ⟨(al.add (i * 13)).block, (al.add (i * 13)).off + 2, none⟩ = some (.int .i64 d.id) ∧ w'.cell? ⟨(al.add (i * 13)).block, (al.add (i * 13)).off + 3, none⟩ = some (.int .i64 d.fr) ∧ w'.cell? ⟨(al.add (i * 13)).block, (al.add (i * 13)).off + 4, none⟩ = some (.int .i64 d.tn) ∧ w'.cell? ⟨(al.add (i * 13)).block, (al.add (i * 13)).off + 5, none⟩ = some (.int .i64 d.st) ∧ w'.cell? ⟨(al.add (i * 13)).block, (al.add (i * 13)).off + 6, none⟩ = some (.int .i64 d.en) ∧ w'.cell? ⟨(al.add (i * 13)).block, (al.add (i * 13)).off + 7, none⟩ = some (.int .i64 d.rt) ∧ w'.cell? ⟨(al.add (i * 13)).block, (al.add (i * 13)).off + 8, none⟩ = some (.int .i64 d.rf) ∧ w'.cell? ⟨(al.add (i * 13)).block, (al.add (i * 13)).off + 9, none⟩ = some (.int .i64 d.rn) ∧ w'.cell? ⟨(al.add (i * 13)).block, (al.add (i * 13)).off + 10, none⟩ = some (.int .i64 d.rs) ∧ w'.cell? ⟨(al.add (i * 13)).block, (al.add (i * 13)).off + 11, none⟩ = some (.int .i64 d.re) ∧ w'.cell? ⟨(al.add (i * 13)).block, (al.add (i * 13)).off + 12, none⟩ = some (.int .i64 d.ro)) from ⟨(hX'.below hb hX'.lt).cell 0, (hX'.below hb hX'.lt).cell 1, (hX'.below hb hX'.lt).cell 2, (hX'.below hb hX'.lt).cell 3, (hb.cell (block_lt_of_cell d0)).trans d0, (hb.cell (block_lt_of_cell d1)).trans d1, (hb.cell (block_lt_of_cell d2)).trans d2, (hb.cell (block_lt_of_cell d3)).trans d3, (hb.cell (block_lt_of_cell d4)).trans d4, (hb.cell (block_lt_of_cell d5)).trans d5, (hb.cell (block_lt_of_cell d6)).trans d6, (hb.cell (block_lt_of_cell d7)).trans d7, (hb.cell (block_lt_of_cell d8)).trans d8, (hb.cell (block_lt_of_cell d9)).trans d9, (hb.cell (block_lt_of_cell da)).trans da, (hb.cell (block_lt_of_cell db)).trans db, (hb.cell (block_lt_of_cell dc)).trans dc⟩))
        have HXL := Lib.hid (fun w' (hb : Below wr.heap.size wr w') => hx.up hb)
        have hC : Below wr.heap.size wr wr := Below.refl _ _
        clear hX' hx hB hs
        try simp only [List.append]
        go_region_held3 (fun w' => w'.cell? ⟨Bx, 0, none⟩ = some (.slice A5 n5 c5) ∧ w'.cell? ⟨Bx, 1, none⟩ = some (.slice A6 n6 c6) ∧ w'.cell? ⟨Bx, 2, none⟩ = some (.int .i64 x.clk) ∧ w'.cell? ⟨Bx, 3, none⟩ = some (.int .i64 x.ver) ∧ w'.cell? (al.add (i * 13)) = some (.int .i64 d.op) ∧ w'.cell? ⟨(al.add (i * 13)).block, (al.add (i * 13)).off + 1, none⟩ = some (.int .i64 d.kd) ∧ w'.cell? ⟨(al.add (i * 13)).block, (al.add (i * 13)).off + 2, none⟩ = some (.int .i64 d.id) ∧ w'.cell? ⟨(al.add (i * 13)).block, (al.add (i * 13)).off + 3, none⟩ = some (.int .i64 d.fr) ∧ w'.cell? ⟨(al.add (i * 13)).block, (al.add (i * 13)).off + 4, none⟩ = some (.int .i64 d.tn) ∧ w'.cell? ⟨(al.add (i * 13)).block, (al.add (i * 13)).off + 5, none⟩ = some (.int .i64 d.st) ∧ w'.cell? ⟨(al.add (i * 13)).block, (al.add (i * 13)).off + 6, none⟩ = some (.int .i64 d.en) ∧ w'.cell? ⟨(al.add (i * 13)).block, (al.add (i * 13)).off + 7, none⟩ = some (.int .i64 d.rt) ∧ w'.cell? ⟨(al.add (i * 13)).block, (al.add (i * 13)).off + 8, none⟩ = some (.int .i64 d.rf) ∧ w'.cell? ⟨(al.add (i * 13)).block, (al.add (i * 13)).off + 9, none⟩ = some (.int .i64 d.rn) ∧ w'.cell? ⟨(al.add (i * 13)).block, (al.add (i * 13)).off + 10, none⟩ = some (.int .i64 d.rs) ∧ w'.cell? ⟨(al.add (i * 13)).block, (al.add (i * 13)).off + 11, none⟩ = some (.int .i64 d.re) ∧ w'.cell? ⟨(al.add (i * 13)).block, (al.add (i * 13)).off + 12, none⟩ = some (.int .i64 d.ro))
          (first | exact HFOOT.out _ hC | exact HFOOT.out _ (by (repeat (first | exact Below.refl _ _ | exact hC | refine Below.alloc ?_ (by first | omega | (simp; done) | (simp; omega)) _ | refine Below.setCell ?_ (by first | omega | (simp; done) | (simp; omega)) _ | refine Below.drew ?_ | refine Below.trans ?_ (hC.mono (by first | omega | (simp; done) | (simp; omega)))))) | go_keep)
          (first
            | (go_at_call 23; (with_reducible refine Calls.mono (papp_to A5 n5 c5 A6 n6 c6 x d _ HW.out.1 HW.out.2 (by first | exact HXL.out _ hC | exact HXL.out _ (by (repeat (first | exact Below.refl _ _ | exact hC | refine Below.alloc ?_ (by first | omega | (simp; done) | (simp; omega)) _ | refine Below.setCell ?_ (by first | omega | (simp; done) | (simp; omega)) _ | refine Below.drew ?_ | refine Below.trans ?_ (hC.mono (by first | omega | (simp; done) | (simp; omega))))))) HXR.out y f HY.out HF.out) ?_); rintro e x2 ⟨A7, n7, c7, A8, n8, c8, rfl, ho, hbx⟩; (first | (have hap : Apart Bx A7 n7 A8 n8 := (by with_reducible exact ⟨apart_own ho.o1 HBX.out, apart_own ho.o HBX.out⟩)) | (have hap : Apart Bx A7 n7 A8 n8 := ⟨apart_own ho.o1 (by have h := HBX.out; simp; omega), apart_own ho.o (by have h := HBX.out; simp; omega)⟩)); have hyl := ho.at_; (try (have hzz : Blok x2 wr.heap.size 25 #[.slice none 0 0, .slice none 0 0, .int .i64 0, .int .i64 0] := (by with_reducible exact Blok.below (Blok.new wr.drew 25 #[.slice none 0 0, .slice none 0 0, .int .i64 0, .int .i64 0]) hbx (by simp)); have hap2 : Apart wr.heap.size A7 n7 A8 n8 := ⟨apart_own ho.o1 (by simp), apart_own ho.o (by simp)⟩; have z0 := hzz.cell 0; have y0 := hzz.free 0; have z1 := hzz.cell 1; have y1 := hzz.free 1; have z2 := hzz.cell 2; have y2 := hzz.free 2; have z3 := hzz.cell 3; have y3 := hzz.free 3; have ltz := hzz.lt)); replace hC : Below wr.heap.size wr x2 := Below.trans (by (repeat (first | exact Below.refl _ _ | exact hC | refine Below.alloc ?_ (by first | omega | (simp; done) | (simp; omega)) _ | refine Below.setCell ?_ (by first | omega | (simp; done) | (simp; omega)) _ | refine Below.drew ?_ | refine Below.trans ?_ (hC.mono (by first | omega | (simp; done) | (simp; omega)))))) (hbx.mono (by first | exact Nat.le_refl _ | (simp; done) | (simp; omega))); have hsC := hC.size; clear hbx ho))
        all_goals
          go_wp2
          go_meet
          first
            | exact ⟨_, A7, n7, c7, A8, n8, c8, rfl, rfl, hsC, hC.alloc hsC _, Blok.new _ _ _, hyl.up (by (repeat (first | exact Below.refl _ _ | refine Below.alloc ?_ (by first | omega | (simp; done) | (simp; omega)) _ | refine Below.setCell ?_ (by first | omega | (simp; done) | (simp; omega)) _ | refine Below.drew ?_))), hap⟩
            | exact ⟨_, A7, n7, c7, A8, n8, c8, rfl, rfl, Nat.le_refl _, by (repeat (first | exact Below.refl _ _ | exact hC | refine Below.alloc ?_ (by first | omega | (simp; done) | (simp; omega)) _ | refine Below.setCell ?_ (by first | omega | (simp; done) | (simp; omega)) _ | refine Below.drew ?_ | refine Below.trans ?_ (hC.mono (by first | omega | (simp; done) | (simp; omega))))), set4 hzz _ _ _ _, hyl.kept1 (grown4 _ _ _ _ _ _) hap2, hap⟩
      case rest =>
        revert wc
        intro w8 hcut
        obtain ⟨By, A7, n7, c7, A8, n8, c8, rfl, rfl, hle, hb, hY, hyl, hap⟩ := hcut
        clear hcs
        have hX := hX'.below hb hX'.lt
        have hxl := hx.up hb
        replace hB := hB.trans (hb.mono hs)
        have hltB := hb.size
        clear hb hX' hx
        by_cases hz : f = 0
        · subst hz
          have y0 : w8.cell? ⟨By, 0, none⟩ = some (.slice A7 n7 c7) := hY.cell 0
          have y1 : w8.cell? ⟨By, 1, none⟩ = some (.slice A8 n8 c8) := hY.cell 1
          have y2 : w8.cell? ⟨By, 2, none⟩ = some (.int .i64 y.clk) := hY.cell 2
          have y3 : w8.cell? ⟨By, 3, none⟩ = some (.int .i64 y.ver) := hY.cell 3
          have lt_y := hY.lt
          have x0 : w8.cell? ⟨Bx, 0, none⟩ = some (.slice A5 n5 c5) := hX.cell 0
          have x1 : w8.cell? ⟨Bx, 1, none⟩ = some (.slice A6 n6 c6) := hX.cell 1
          have x2 : w8.cell? ⟨Bx, 2, none⟩ = some (.int .i64 x.clk) := hX.cell 2
          have x3 : w8.cell? ⟨Bx, 3, none⟩ = some (.int .i64 x.ver) := hX.cell 3
          have f_0 := hX.free 0
          have f_1 := hX.free 1
          have f_2 := hX.free 2
          have f_3 := hX.free 3
          have lt_x := hX.lt
          have hF := set4 hX (.slice A7 n7 c7) (.slice A8 n8 c8) (.int .i64 y.clk) (.int .i64 y.ver)
          have hG := hyl.kept1 (grown4 w8 Bx (.slice A7 n7 c7) (.slice A8 n8 c8) (.int .i64 y.clk) (.int .i64 y.ver)) hap
          have hE := below4 hB Bx (by rw [← HBE.out]; exact Nat.le_refl _) (.slice A7 n7 c7) (.slice A8 n8 c8) (.int .i64 y.clk) (.int .i64 y.ver)
          have H1 : Hid (runP p (l.take (i + 1)) = y) := by
            show runP p (l.take (i + 1)) = y
            rw [runP_next (by rw [HDL.out]; exact hin), HX.out, HD.out]
            exact HY.out
          have H2 : Hid (∀ j, j < i + 1 → stepQ (runP p (l.take j)) (gDr l j) = 0) := all_next H0.out (by rw [HX.out, HD.out]; exact HF.out)
          clear hX hxl hY hyl hap hB
          go_wp2
          go_roundw
          case rel => exact ⟨i + 1, A7, n7, c7, A8, n8, c8, y, by omega, by go_num, H1, H2, hF, hG, hE⟩
          case measure => simp [intOf]; omega
        · obtain ⟨e1, e2, e3⟩ := whole_stop HQ.out HA.out (by rw [HDL.out]; exact hin) H0.out (by rw [HX.out, HD.out]; exact HF.out) hz
          subst e1 e2 e3
          have hne : (q != 0) = true := by simpa using hz
          have hne2 : (q == 0) = false := by simpa using hz
          clear hz
          go_upto_region 12 with fail
          have hp := HPL.out _ hB
          have hq := HQL.out _ hB
          have hP := HPX.out _ hB
          have ba := HQX.out _ hB
          have p0 : w8.cell? ⟨w.heap.size, 0, none⟩ = some (.slice A1 n1 c1) := hP.cell 0
          have p1 : w8.cell? ⟨w.heap.size, 1, none⟩ = some (.slice A n c) := hP.cell 1
          have p2 : w8.cell? ⟨w.heap.size, 2, none⟩ = some (.int .i64 a.clk) := hP.cell 2
          have p3 : w8.cell? ⟨w.heap.size, 3, none⟩ = some (.int .i64 a.ver) := hP.cell 3
          have lt_p := hP.lt
          have a0 : w8.cell? ⟨Ba, 0, none⟩ = some (.slice A2 n2 c2) := ba.cell 0
          have a1 : w8.cell? ⟨Ba, 1, none⟩ = some (.slice A3 n3 c3) := ba.cell 1
          have a2 : w8.cell? ⟨Ba, 2, none⟩ = some (.int .i64 a.clk) := ba.cell 2
          have a3 : w8.cell? ⟨Ba, 3, none⟩ = some (.int .i64 a.ver) := ba.cell 3
          have lt_a := ba.lt
          have HR := Lib.hid (fun d os => hq.up (below_regrown w8 d os))
          have HPP := Lib.hid (fun d os => hp.up (below_regrown w8 d os))
          have hfin0 := HB0.out.trans (hB.mono HB0.out.size)
          clear hq hp ba hP hB hX hxl hY hyl hap
          have q_p0 := fun d os => cell_regrown p0 d os
          have q_p1 := fun d os => cell_regrown p1 d os
          have q_p2 := fun d os => cell_regrown p2 d os
          have q_p3 := fun d os => cell_regrown p3 d os
          have q_a0 := fun d os => cell_regrown a0 d os
          have q_a1 := fun d os => cell_regrown a1 d os
          have q_a2 := fun d os => cell_regrown a2 d os
          have q_a3 := fun d os => cell_regrown a3 d os
          try simp only [List.append]
          first | refine wp_region_text_below ?_ | refine wp_region_quiet_below (by kernel_rfl) (by kernel_rfl) ?_
          repeat (go_big_quiet_step (((go_at_call 14; with_reducible exact Calls.regrown_of (psame_any A2 n2 c2 A3 n3 c3 a A1 n1 c1 A n c a _ (HR.out _ _) (HPP.out _ _) true (samePB_refl a))))))
          refine wpQuiet_nil ?_
          intro _ hqw
          obtain ⟨pq, hqw⟩ := hqw
          subst hqw
          have hfin := hfin0.trans ((below_regrown w8 pq.d pq.os).mono hfin0.size)
          clear q_p0 q_p1 q_p2 q_p3 q_a0 q_a1 q_a2 q_a3 p0 p1 p2 p3 a0 a1 a2 a3
          generalize grow (redrawn w8 pq.d) pq.os = wq at *
          go_wp2
          go_ret
          exact ⟨rfl, hfin⟩
    · obtain rfl : i = nl := by omega
      obtain ⟨e1, e2, e3⟩ := whole_all HQ.out HA.out (by rw [HDL.out]; exact H0.out)
      rw [HDL.out, HX.out] at e1
      rw [HDL.out] at e3
      subst e1 e2 e3
      go_upto_region 14 with fail
      have hq := HQL.out _ hB
      have ba := HQX.out _ hB
      have x0 : wr.cell? ⟨Bx, 0, none⟩ = some (.slice A5 n5 c5) := hX'.cell 0
      have x1 : wr.cell? ⟨Bx, 1, none⟩ = some (.slice A6 n6 c6) := hX'.cell 1
      have x2 : wr.cell? ⟨Bx, 2, none⟩ = some (.int .i64 a.clk) := hX'.cell 2
      have x3 : wr.cell? ⟨Bx, 3, none⟩ = some (.int .i64 a.ver) := hX'.cell 3
      have lt_x := hX'.lt
      have a0 : wr.cell? ⟨Ba, 0, none⟩ = some (.slice A2 n2 c2) := ba.cell 0
      have a1 : wr.cell? ⟨Ba, 1, none⟩ = some (.slice A3 n3 c3) := ba.cell 1
      have a2 : wr.cell? ⟨Ba, 2, none⟩ = some (.int .i64 a.clk) := ba.cell 2
      have a3 : wr.cell? ⟨Ba, 3, none⟩ = some (.int .i64 a.ver) := ba.cell 3
      have lt_a := ba.lt
      have HR := Lib.hid (fun d os => hq.up (below_regrown wr d os))
      have HPP := Lib.hid (fun d os => hx.up (below_regrown wr d os))
      have hfin0 := HB0.out.trans (hB.mono HB0.out.size)
      clear hq hx ba hX' hB
      have q_x0 := fun d os => cell_regrown x0 d os
      have q_x1 := fun d os => cell_regrown x1 d os
      have q_x2 := fun d os => cell_regrown x2 d os
      have q_x3 := fun d os => cell_regrown x3 d os
      have q_a0 := fun d os => cell_regrown a0 d os
      have q_a1 := fun d os => cell_regrown a1 d os
      have q_a2 := fun d os => cell_regrown a2 d os
      have q_a3 := fun d os => cell_regrown a3 d os
      try simp only [List.append]
      first | refine wp_region_text_below ?_ | refine wp_region_quiet_below (by kernel_rfl) (by kernel_rfl) ?_
      repeat (go_big_quiet_step (((go_at_call 14; with_reducible exact Calls.regrown_of (psame_any A2 n2 c2 A3 n3 c3 a A5 n5 c5 A6 n6 c6 a _ (HR.out _ _) (HPP.out _ _) true (samePB_refl a))))))
      refine wpQuiet_nil ?_
      intro _ hqw
      obtain ⟨pq, hqw⟩ := hqw
      subst hqw
      have hfin := hfin0.trans ((below_regrown wr pq.d pq.os).mono hfin0.size)
      clear q_x0 q_x1 q_x2 q_x3 q_a0 q_a1 q_a2 q_a3 x0 x1 x2 x3 a0 a1 a2 a3
      generalize grow (redrawn wr pq.d) pq.os = wq at *
      go_wp2
      go_ret
      exact ⟨rfl, hfin⟩
theorem planWhole_walk (A1 : Option Addr) (n1 c1 : Nat) (ns1 : List Int) (A : Option Addr) (n c : Nat) (ns : List Int) (clk ver : Int) (Al : Option Addr) (nl cl : Nat) (ns2 : List Int) (hnl1 : ns1.length = n1 * 6) (_ : ∀ m ∈ ns1, (Lit.int .i64 m).wf = true) (hnl : ns.length = n * 5) (_ : ∀ m ∈ ns, (Lit.int .i64 m).wf = true) (_ : (Lit.int .i64 clk).wf = true) (_ : (Lit.int .i64 ver).wf = true) (hnl2 : ns2.length = nl * 13) (hw2 : ∀ m ∈ ns2, (Lit.int .i64 m).wf = true) (w : World)
    (h1 : Sl w w.heap.size 6 A1 n1 c1 (ns1.map (Value.int .i64))) (h : Sl w w.heap.size 5 A n c (ns.map (Value.int .i64))) (hl : Sl w w.heap.size 13 Al nl cl (ns2.map (Value.int .i64))) :
    Calls Tryz.prog 6 #[.agg #[.slice A1 n1 c1, .slice A n c, .int .i64 clk, .int .i64 ver], .slice Al nl cl] w fun e w' => e = .returned (.bool true) ∧ Below w.heap.size w w' := by
  obtain ⟨cs, hd1, hf1⟩ := rowsCo_of n1 ns1 hnl1
  obtain ⟨rs, hd, hf⟩ := rowsRg_of n ns hnl
  obtain ⟨l, hdl, hf2⟩ := rowsDr_of nl ns2 hnl2
  rw [hf2] at hl
  rw [hf1] at h1
  rw [hf] at h
  exact planWhole_w A1 n1 c1 A n c ⟨cs, rs, clk, ver⟩ Al nl cl l (fun j hj => wf_flatDr hw2 hf2 (by rw [hdl]; exact hj)) hdl hd1 hd w h1 h hl
theorem planWhole_own : ownKnob Tryz.prog.godebug = none := by kernel_rfl
theorem planWhole_laidOut : laidOutB Tryz.prog = true := by kernel_rfl

set_option maxHeartbeats 1000000 in
set_option maxRecDepth 100000 in
theorem planWhole_lifted (os : Os) (started : os.Started) (H : Type) (enc : TypeId × Value → H) :
    ReturnsInHanded {} Tryz.checked os 6 .any (Rows.planWholeSpec.pre6 enc Tryz.prog Tryz.f6 Rows.planWholeRow.domain false) (Rows.planWholeSpec.post enc Tryz.prog Tryz.f6 false true false false) := by
  refine returnsInHanded_of_change (C := Tryz.checked) planWhole_own started (by kernel_rfl) Tryz.func6
    (ChangeSpec.witness6 (enc := enc) (C := Tryz.checked) false ⟨#[], #[.agg #[.slice none 0 0, .slice none 0 0, .int .i64 0, .int .i64 0], .slice none 0 0], []⟩ 8 (by kernel_rfl) (by kernel_rfl) (by kernel_rfl) (by kernel_rfl)) ?_
  intro W base args ds gs before hval0 hW hcnd _
  have hval : ∀ (j : Nat) t v, Tryz.f6.params[j]? = some t → args[j]? = some v → Value.okWide Tryz.prog W .any base t v := hval0
  have hW' := hW
  obtain ⟨p, q, hA0, hV, rfl, hfz, hnd⟩ := hW
  have hA : DataW.TrodAll enc Tryz.prog W 0 (fun _ => true) true Tryz.f6.params.toList args.toList ds p := hA0
  rw [Tryz.params6] at hA hval
  obtain ⟨v0, vs0, d0, ds0, p0, q0, hargs, rfl, rfl, h0, r0⟩ := trodAll_cons hA
  obtain ⟨v1, vs1, d1, ds1, p1, q1, rfl, rfl, rfl, h1, r1⟩ := trodAll_cons r0
  obtain ⟨rfl, rfl, rfl⟩ := trodAll_nil r1
  obtain rfl : args = #[v0, v1] := by cases args; simp_all
  obtain ⟨rfl, rfl⟩ := trodVars_none hV
  obtain ⟨A0, n0, c0, ns0, B0, m0, k0, ms0, x0, y0, rfl, hl0, nl0, w0, hm0, ml0, wm0, wx0, wy0⟩ := open_plan 4 (e0 := 33) (e1 := 35) (K0 := 6) (K1 := 5) Tryz.underlying25 (by kernel_rfl) (by kernel_rfl) (by kernel_rfl) (by kernel_rfl) (by kernel_rfl) (by kernel_rfl) (by kernel_rfl) (by kernel_rfl) (by omega) (by kernel_rfl) (by omega) (hval 0 25 v0 rfl rfl) h0
  obtain ⟨A1, n1, c1, ns1, rfl, hl1, nl1, w1⟩ := open_rowsS 4 (K := 13) Tryz.underlying31 (by kernel_rfl) (by kernel_rfl) (by omega) (hval 1 31 v1 rfl rfl) h1
  clear hA0 hval0
  refine (planWhole_walk A0 n0 c0 ns0 B0 m0 k0 ms0 x0 y0 A1 n1 c1 ns1 nl0 w0 ml0 wm0 wx0 wy0 nl1 w1 W hl0 hm0 hl1).mono fun e W' ⟨he, bel⟩ => ?_
  subst he
  exact ⟨_, rfl, law_post planWhole_laidOut (by kernel_rfl) rfl Tryz.underlying4 rfl rfl hW' bel⟩

theorem planWhole_proved : Rows.PlanWholeSaid :=
  OpenClaim.holds_of_wide 6 Tryz.f6 rfl rfl rfl rfl rfl rfl rfl ⟨rfl, rfl, rfl, rfl, rfl⟩ rfl rfl rfl rfl rfl (by kernel_rfl) Tryz.func6 (by kernel_rfl)
    (of_decide_eq_true (by kernel_rfl)) (by unfold Func.isWrapper; first | (rw [if_pos (by decide +kernel)]; kernel_rfl) | (rw [if_neg (by decide +kernel)]; exact ⟨rfl, rfl⟩))
    (fun os started H enc _ => planWhole_lifted os started H enc)
#print axioms planWhole_proved
end Go.Proofs.YtolaabllhibkdaaGreat
