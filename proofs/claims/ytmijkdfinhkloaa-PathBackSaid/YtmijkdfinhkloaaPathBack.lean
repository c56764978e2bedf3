/- A route is the route of its IDs, and no other end, and no shorter beginning, is that: PathBack returns true. No condition. -/
import Derived.Test.YtmijkdfinhkloaaRows
import Derived.Test.YtmijkdfinhkloaaSmall12
import Derived.Test.YtmijkdfinhkloaaOpenS
namespace Go.Proofs.Ytmijkdfinhkloaa
open Go.ChangeShapes Go.WideShapes Go.ChangeAt Go.RowKit Go.Sort
set_option linter.unusedSimpArgs false
set_option linter.unusedVariables false
theorem wf_ints12 {ns : List Int} (hw : ∀ m ∈ ns, (Lit.int .i64 m).wf = true) : ∀ q, q < ns.length → (Lit.int .i64 (ns.getD q 0)).wf = true := fun q hq => by
  rw [List.getD_eq_getElem?_getD, List.getElem?_eq_getElem hq]
  exact hw _ (List.getElem_mem hq)
theorem followE_take {l : List Ed} : ∀ {ids : List Int} {q : Int} {es : List Ed} (k : Nat), followE l ids q = some es → followE l (ids.take k) q = some (es.take k)
  | [], q, es, k, h => by rw [followE_nil] at h; cases h; simp [followE_nil]
  | id :: r, q, es, 0, h => by simp [followE_nil]
  | id :: r, q, es, k + 1, h => by
    obtain ⟨e0, es', h1, h2, h3, rfl⟩ := followE_cons h
    rw [List.take_succ_cons, List.take_succ_cons, followE_on h1 h2, followE_take k h3]; rfl
theorem route_other {d : List Ed} {ids : List Int} {q tt oth now size : Int} {p : List Hp × Int} (h : routeE d ids q tt now size = some p) : (routeE d ids q oth now size).isSome = (oth == tt) := by
  obtain ⟨es, hs, ha, hn, hf, hl, hp, rfl⟩ := routeE_some h
  by_cases e : oth = tt
  · subst e; rw [h]; simp
  · have hno : leadE (nodesE q es) oth = false := by
      rw [Bool.eq_false_iff]; intro h2
      exact e ((leadE_spec.1 h2).2.symm.trans (leadE_spec.1 hl).2)
    have : routeE d ids q oth now size = none := by
      unfold routeE
      split
      · rw [hf]; simp [hno]
      · rfl
    rw [this]; simp [e]
theorem route_short {d : List Ed} {ids : List Int} {q tt now size : Int} {p : List Hp × Int} {m : Nat} (hm : ids.length = m + 1) (h : routeE d ids q tt now size = some p) : routeE d (ids.take m) q tt now size = none := by
  obtain ⟨es, hs, ha, hn, hf, hl, hp, rfl⟩ := routeE_some h
  have hle := followE_len hf
  have hno : leadE (nodesE q (es.take m)) tt = false := by
    rw [Bool.eq_false_iff]; intro h2
    have h3 := (leadE_spec.1 h2).2
    have h4 := leadE_spec.1 hl
    rw [nodesE_len, List.length_take, show min m es.length + 1 - 1 = m by omega] at h3
    have h5 := h4.2
    rw [nodesE_len, Nat.add_sub_cancel, hle, hm] at h5
    have h6 : (nodesE q (es.take m)).getD m 0 = (nodesE q es).getD m 0 := by
      have : nodesE q es = nodesE q (es.take m) ++ (es.drop m).map Ed.tn := by
        unfold nodesE
        rw [List.cons_append, ← List.map_append, List.take_append_drop]
      rw [this, List.getD_eq_getElem?_getD, List.getD_eq_getElem?_getD, List.getElem?_append_left (by rw [nodesE_len, List.length_take]; omega)]
    rw [h6] at h3
    exact nodup_ne h4.1 (show m < m + 1 by omega) (by rw [nodesE_len]; omega) (h3.trans h5.symm)
  unfold routeE
  rw [if_pos ⟨ha, hn⟩, followE_take m hf]
  simp [hno]
theorem route_ids {d : List Ed} {ids : List Int} {q tt now size : Int} {hs : List Hp} {ar : Int} (h : routeE d ids q tt now size = some (hs, ar)) : hs.map Hp.id = ids ∧ hs.length = ids.length := by
  obtain ⟨es, hs', ha, hn, hf, hl, hp, he⟩ := routeE_some h
  injection he with e1 e2
  subst e1
  exact ⟨by rw [passE_ids hp, followE_ids hf], by rw [passE_len hp, followE_len hf]⟩
theorem proute_is (A : Option Addr) (n c : Nat) (d : List Ed) (A' : Option Addr) (m c' : Nat) (ids : List Int) (q tt now size : Int) (w : World) (hd : d.length = n) (hn : n ≤ 1000000) (hi : ids.length = m) (hm : m ≤ 1000000 - 1) (hwf : ∀ q, q < m → (Lit.int .i64 (ids.getD q 0)).wf = true) (h : Sl w w.heap.size 8 A n c (flatEd d)) (h' : Sl w w.heap.size 1 A' m c' (ids.map (Value.int .i64))) (b : Bool) (ho : (routeE d ids q tt now size).isSome = b) :
    Calls Try.prog 14 #[.slice A n c, .slice A' m c', .int .i64 q, .int .i64 tt, .int .i64 now, .int .i64 size] w fun e w' => ∃ v ar, e = .returned (.tuple #[.agg #[v, .int .i64 ar], .bool b]) ∧ (∃ A2 n2 c2, v = .slice A2 n2 c2) ∧ Below w.heap.size w w' := by
  subst ho
  refine (proute_any A n c d A' m c' ids q tt now size w hd hn hi hm hwf h h' _ rfl _ rfl _ rfl).mono ?_
  rintro e w' ⟨v, rfl, hv, hb⟩
  obtain ⟨A2, c2, rfl⟩ := slice_of_own hv
  exact ⟨_, _, rfl, ⟨A2, _, c2, rfl⟩, hb⟩
set_option maxHeartbeats 8000000 in
set_option maxRecDepth 100000 in
theorem pathBack_w (A : Option Addr) (n c : Nat) (d : List Ed) (A' : Option Addr) (m c' : Nat) (ids : List Int) (q tt oth now size : Int) (hd : d.length = n) (hi : ids.length = m) (hwf : ∀ q, q < m → (Lit.int .i64 (ids.getD q 0)).wf = true) (w : World) (hl : Sl w w.heap.size 8 A n c (flatEd d)) (hl' : Sl w w.heap.size 1 A' m c' (ids.map (Value.int .i64))) :
    Calls Try.prog 8 #[.slice A n c, .slice A' m c', .int .i64 q, .int .i64 tt, .int .i64 oth, .int .i64 now, .int .i64 size] w fun e w' => e = .returned (.bool true) ∧ Below w.heap.size w w' := by
  by_cases hn : 50 < n ∨ 50 < m
  · have hn' : 50 < n ∨ (n ≤ 50 ∧ 50 < m) := by omega
    clear hn
    rcases hn' with hn | ⟨hn, hn2⟩
    all_goals
      go_enter Try.func8, Try.ntmps8
      go_wp2_with fail
      refine (small12 _).mono ?_
      rintro e w1 ⟨rfl, hB⟩
      go_wp2
      go_ret
      exact ⟨rfl, hB⟩
  · have hn1 : n ≤ 50 := by omega
    have hn2 : m ≤ 50 := by omega
    clear hn
    have g1 : decide ((n : Int) > 50) = false := decide_eq_false (by omega)
    have g2 : decide ((m : Int) > 50) = false := decide_eq_false (by omega)
    obtain ⟨o, ho⟩ : ∃ o, routeE d ids q tt now size = o := ⟨_, rfl⟩
    have HD := Lib.hid hd
    have HI := Lib.hid hi
    have HWF := Lib.hid hwf
    have HO := Lib.hid ho
    clear hd hi hwf ho
    go_enter Try.func8, Try.ntmps8
    go_wp2_with fail
    refine (small12 _).mono ?_
    rintro e w1 ⟨rfl, hB⟩
    replace hl := hl.up hB
    replace hl' := hl'.up hB
    have hs := hB.size
    go_wp2_with fail
    clear g1 g2
    cases o with
    | none =>
      refine (proute_no A n c d A' m c' ids q tt now size w1 HD.out (by omega) HI.out (by omega) HWF.out hl hl' HO.out).mono ?_
      rintro e w2 ⟨v, rfl, hv, hb⟩
      obtain ⟨Av, cv, rfl⟩ := slice_of_own hv
      replace hB := hB.trans (hb.mono hs)
      replace hs := hB.size
      have hb2 : Below w2.heap.size w2 (w2.alloc (.cells #[.slice Av 0 cv, .int .i64 0] 26)) := by (repeat (first | exact Below.refl _ _ | refine Below.alloc ?_ (by first | omega | (simp; done) | (simp; omega)) _ | refine Below.setCell ?_ (by first | omega | (simp; done) | (simp; omega)) _ | refine Below.drew ?_))
      have hvs : Sl w2 w2.heap.size 3 Av 0 cv (flatHp []) := Sl.of_own hv
      replace hvs := hvs.up hb2
      replace hB := hB.trans (hb2.mono hs)
      replace hs := hB.size
      clear hb hv hl hl' hb2
      go_wp2_with fail
      generalize w2.alloc (.cells #[.slice Av 0 cv, .int .i64 0] 26) = w3 at *
      refine (pids_any Av 0 cv [] 0 w3 rfl (by omega) hvs).mono ?_
      rintro e w4 ⟨vi, rfl, hvi, hb⟩
      obtain ⟨Ai, ci, rfl⟩ := slice_of_own hvi
      clear hvi
      go_wp2
      go_ret
      exact ⟨rfl, hB.trans (hb.mono hs)⟩
    | some p =>
      obtain ⟨hs5, ar⟩ := p
      obtain ⟨hri, hrl⟩ := route_ids HO.out
      rw [HI.out] at hrl
      have HRI := Lib.hid hri
      have HRL := Lib.hid hrl
      refine (proute_yes A n c d A' m c' ids q tt now size w1 HD.out (by omega) HI.out (by omega) HWF.out hl hl' hs5 ar HO.out).mono ?_
      rintro e w2 ⟨v, rfl, hv, hb⟩
      rw [hrl] at hv
      obtain ⟨Av, cv, rfl⟩ := slice_of_own hv
      replace hl := hl.up hb
      replace hl' := hl'.up hb
      replace hB := hB.trans (hb.mono hs)
      replace hs := hB.size
      have hb2 : Below w2.heap.size w2 (w2.alloc (.cells #[.slice Av m cv, .int .i64 ar] 26)) := by (repeat (first | exact Below.refl _ _ | refine Below.alloc ?_ (by first | omega | (simp; done) | (simp; omega)) _ | refine Below.setCell ?_ (by first | omega | (simp; done) | (simp; omega)) _ | refine Below.drew ?_))
      have hX := Blok.new w2 26 #[.slice Av m cv, .int .i64 ar]
      have hvs := (Sl.of_own hv).up hb2
      replace hl := hl.up hb2
      replace hl' := hl'.up hb2
      replace hB := hB.trans (hb2.mono hs)
      replace hs := hB.size
      clear hb hv hb2 hri hrl
      go_wp2_with fail
      generalize w2.alloc (.cells #[.slice Av m cv, .int .i64 ar] 26) = w3 at *
      refine (pids_any Av m cv hs5 ar w3 HRL.out (by omega) hvs).mono ?_
      rw [HRI.out]
      rintro e w4 ⟨vi, rfl, hvi, hb⟩
      obtain ⟨Ai, ci, rfl⟩ := slice_of_own hvi
      have hli := Sl.of_own hvi
      replace hl := hl.up hb
      replace hl' := hl'.up hb
      replace hvs := hvs.up hb
      replace hX := hX.below hb hX.lt
      replace hB := hB.trans (hb.mono hs)
      replace hs := hB.size
      clear hb hvi
      go_wp2_with fail
      refine (proute_yes A n c d Ai m ci ids q tt now size w4 HD.out (by omega) HI.out (by omega) HWF.out hl hli hs5 ar HO.out).mono ?_
      rintro e w5 ⟨v5, rfl, hv5, hb⟩
      rw [HRL.out] at hv5
      obtain ⟨A5, c5, rfl⟩ := slice_of_own hv5
      replace hl := hl.up hb
      replace hl' := hl'.up hb
      replace hvs := hvs.up hb
      replace hX := hX.below hb hX.lt
      replace hB := hB.trans (hb.mono hs)
      replace hs := hB.size
      have hb2 : Below w5.heap.size w5 (w5.alloc (.cells #[.slice A5 m c5, .int .i64 ar] 26)) := by (repeat (first | exact Below.refl _ _ | refine Below.alloc ?_ (by first | omega | (simp; done) | (simp; omega)) _ | refine Below.setCell ?_ (by first | omega | (simp; done) | (simp; omega)) _ | refine Below.drew ?_))
      have hY := Blok.new w5 26 #[.slice A5 m c5, .int .i64 ar]
      have hv5s := (Sl.of_own hv5).up hb2
      replace hl := hl.up hb2
      replace hl' := hl'.up hb2
      replace hvs := hvs.up hb2
      replace hX := hX.below hb2 hX.lt
      replace hB := hB.trans (hb2.mono hs)
      replace hs := hB.size
      clear hb hb2 hli hv5
      go_wp2_with fail
      generalize w5.alloc (.cells #[.slice A5 m c5, .int .i64 ar] 26) = w6 at *
      obtain ⟨bo, hbo⟩ : ∃ b, (oth == tt) = b := ⟨_, rfl⟩
      have HBO := Lib.hid hbo
      clear hbo
      refine (proute_is A n c d A' m c' ids q oth now size w6 HD.out (by omega) HI.out (by omega) HWF.out hl hl' bo (by rw [route_other HO.out]; exact HBO.out)).mono ?_
      rintro e w7 ⟨v7, ar7, rfl, ⟨A7, n7, c7, rfl⟩, hb⟩
      replace hl := hl.up hb
      replace hl' := hl'.up hb
      replace hvs := hvs.up hb
      replace hv5s := hv5s.up hb
      replace hX := hX.below hb hX.lt
      replace hY := hY.below hb hY.lt
      replace hB := hB.trans (hb.mono hs)
      replace hs := hB.size
      have hb2 : Below w7.heap.size w7 (w7.alloc (.cells #[.slice A7 n7 c7, .int .i64 ar7] 26)) := by (repeat (first | exact Below.refl _ _ | refine Below.alloc ?_ (by first | omega | (simp; done) | (simp; omega)) _ | refine Below.setCell ?_ (by first | omega | (simp; done) | (simp; omega)) _ | refine Below.drew ?_))
      replace hl := hl.up hb2
      replace hl' := hl'.up hb2
      replace hvs := hvs.up hb2
      replace hv5s := hv5s.up hb2
      replace hX := hX.below hb2 hX.lt
      replace hY := hY.below hb2 hY.lt
      replace hB := hB.trans (hb2.mono hs)
      replace hs := hB.size
      clear hb hb2
      have xb : (bo == bo) = true := by cases bo <;> rfl
      have hot : (oth == tt) = bo := HBO.out
      by_cases hm0 : m = 0
      · subst hm0
        go_upto_region 12 with fail
        generalize w7.alloc (.cells #[.slice A7 n7 c7, .int .i64 ar7] 26) = w8 at *
        have x0 : w8.cell? ⟨w2.heap.size, 0, none⟩ = some (.slice Av 0 cv) := hX.cell 0
        have x1 : w8.cell? ⟨w2.heap.size, 1, none⟩ = some (.int .i64 ar) := hX.cell 1
        have y0 : w8.cell? ⟨w5.heap.size, 0, none⟩ = some (.slice A5 0 c5) := hY.cell 0
        have y1 : w8.cell? ⟨w5.heap.size, 1, none⟩ = some (.int .i64 ar) := hY.cell 1
        have lt_x := hX.lt
        have lt_y := hY.lt
        go_wp2_with fail
        refine (psame_refl A5 Av 0 c5 cv hs5 ar w8 HRL.out (by omega) hv5s hvs).mono ?_
        rintro e w9 ⟨rfl, hb⟩
        replace hB := hB.trans (hb.mono hs)
        clear hb x0 x1 y0 y1 lt_x lt_y
        go_wp2
        go_ret
        exact ⟨rfl, hB⟩
      · obtain ⟨p, rfl⟩ : ∃ p, m = p + 1 := ⟨m - 1, by omega⟩
        have hcap := hl'.cap
        have hmax := hl'.max
        unfold maxLen at hmax
        have t0 : IntKind.i64.wrap (((p + 1 : Nat) : Int) - 1) = (p : Int) := by rw [IntWalk.i64_in _ (by omega)]; omega
        have t1 : ((p + 1 : Nat) : Int) - 1 = (p : Int) := by omega
        have g3 : decide (((p + 1 : Nat) : Int) > 0) = true := decide_eq_true (by omega)
        have hk0 : (0 : Int) ≤ (p : Int) := by omega
        have hkc : p ≤ c' := by omega
        have hkcI : (p : Int) ≤ (c' : Int) := by omega
        have hlp := hl'.upto (show p ≤ p + 1 by omega)
        rw [Nat.mul_one, ← List.map_take] at hlp
        have HSH := Lib.hid (route_short HI.out HO.out)
        have HIP := Lib.hid (show (ids.take p).length = p by rw [List.length_take, HI.out]; omega)
        have HWP : Hid (∀ k, k < p → (Lit.int .i64 ((ids.take p).getD k 0)).wf = true) := fun k hk => by
          have h := HWF.out k (by omega)
          rw [List.getD_eq_getElem?_getD] at h ⊢
          rw [List.getElem?_take_of_lt hk]
          exact h
        clear hm0
        go_wp2_with fail
        generalize w7.alloc (.cells #[.slice A7 n7 c7, .int .i64 ar7] 26) = w8 at *
        clear t0 t1 g3 hk0 hkc hkcI hcap hmax
        refine (proute_no A n c d A' p c' (ids.take p) q tt now size w8 HD.out (by omega) HIP.out (by omega) HWP.out hl hlp HSH.out).mono ?_
        rintro e w9 ⟨v9, rfl, hv9, hb⟩
        obtain ⟨A9, c9, rfl⟩ := slice_of_own hv9
        replace hvs := hvs.up hb
        replace hv5s := hv5s.up hb
        replace hX := hX.below hb hX.lt
        replace hY := hY.below hb hY.lt
        replace hB := hB.trans (hb.mono hs)
        replace hs := hB.size
        clear hb hl hl' hlp hv9
        have x0 : w9.cell? ⟨w2.heap.size, 0, none⟩ = some (.slice Av (p + 1) cv) := hX.cell 0
        have x1 : w9.cell? ⟨w2.heap.size, 1, none⟩ = some (.int .i64 ar) := hX.cell 1
        have y0 : w9.cell? ⟨w5.heap.size, 0, none⟩ = some (.slice A5 (p + 1) c5) := hY.cell 0
        have y1 : w9.cell? ⟨w5.heap.size, 1, none⟩ = some (.int .i64 ar) := hY.cell 1
        have lt_x := hX.lt
        have lt_y := hY.lt
        go_wp2_with fail
        refine (psame_refl A5 Av (p + 1) c5 cv hs5 ar w9 HRL.out (by omega) hv5s hvs).mono ?_
        rintro e wz ⟨rfl, hb⟩
        replace hB := hB.trans (hb.mono hs)
        clear hb x0 x1 y0 y1 lt_x lt_y
        go_wp2
        go_ret
        exact ⟨rfl, hB⟩
theorem pathBack_walk (A : Option Addr) (n k : Nat) (ns : List Int) (A' : Option Addr) (n' k' : Nat) (ns' : List Int) (q tt oth now size : Int) (hnl : ns.length = n * 8) (_ : ∀ m ∈ ns, (Lit.int .i64 m).wf = true) (hnl' : ns'.length = n' * 1) (hw' : ∀ m ∈ ns', (Lit.int .i64 m).wf = true) (_ : (Lit.int .i64 q).wf = true) (_ : (Lit.int .i64 tt).wf = true) (_ : (Lit.int .i64 oth).wf = true) (_ : (Lit.int .i64 now).wf = true) (_ : (Lit.int .i64 size).wf = true) (w : World) (hl : Sl w w.heap.size 8 A n k (ns.map (Value.int .i64))) (hl' : Sl w w.heap.size 1 A' n' k' (ns'.map (Value.int .i64))) :
    Calls Try.prog 8 #[.slice A n k, .slice A' n' k', .int .i64 q, .int .i64 tt, .int .i64 oth, .int .i64 now, .int .i64 size] w fun e w' => e = .returned (.bool true) ∧ Below w.heap.size w w' := by
  obtain ⟨d, hd, hlf⟩ := rowsEd_of n ns hnl
  have hi : ns'.length = n' := by omega
  rw [hlf] at hl
  exact pathBack_w A n k d A' n' k' ns' q tt oth now size hd hi (fun q hq => wf_ints12 hw' q (by omega)) w hl hl'
theorem pathBack_own : ownKnob Try.prog.godebug = none := by kernel_rfl
theorem pathBack_laidOut : laidOutB Try.prog = true := by kernel_rfl

set_option maxHeartbeats 1000000 in
set_option maxRecDepth 100000 in
theorem pathBack_lifted (os : Os) (started : os.Started) (H : Type) (enc : TypeId × Value → H) :
    ReturnsInHanded {} Try.checked os 8 .any (Rows.pathBackSpec.pre6 enc Try.prog Try.f8 Rows.pathBackRow.domain false) (Rows.pathBackSpec.post enc Try.prog Try.f8 false true false false) := by
  refine returnsInHanded_of_change (C := Try.checked) pathBack_own started (by kernel_rfl) Try.func8
    (ChangeSpec.witness6 (enc := enc) (C := Try.checked) false ⟨#[], #[.slice none 0 0, .slice none 0 0, .int .i64 0, .int .i64 0, .int .i64 0, .int .i64 0, .int .i64 0], []⟩ 8 (by kernel_rfl) (by kernel_rfl) (by kernel_rfl) (by kernel_rfl)) ?_
  intro W base args ds gs before hval0 hW hcnd _
  have hval : ∀ (j : Nat) t v, Try.f8.params[j]? = some t → args[j]? = some v → Value.okWide Try.prog W .any base t v := hval0
  have hW' := hW
  obtain ⟨p, q, hA0, hV, rfl, hfz, hnd⟩ := hW
  have hA : DataW.TrodAll enc Try.prog W 0 (fun _ => true) true Try.f8.params.toList args.toList ds p := hA0
  rw [Try.params8] at hA hval
  obtain ⟨v0, vs0, d0, ds0, p0, q0, hargs, rfl, rfl, h0, r0⟩ := trodAll_cons hA
  obtain ⟨v1, vs1, d1, ds1, p1, q1, rfl, rfl, rfl, h1, r1⟩ := trodAll_cons r0
  obtain ⟨v2, vs2, d2, ds2, p2, q2, rfl, rfl, rfl, h2, r2⟩ := trodAll_cons r1
  obtain ⟨v3, vs3, d3, ds3, p3, q3, rfl, rfl, rfl, h3, r3⟩ := trodAll_cons r2
  obtain ⟨v4, vs4, d4, ds4, p4, q4, rfl, rfl, rfl, h4, r4⟩ := trodAll_cons r3
  obtain ⟨v5, vs5, d5, ds5, p5, q5, rfl, rfl, rfl, h5, r5⟩ := trodAll_cons r4
  obtain ⟨v6, vs6, d6, ds6, p6, q6, rfl, rfl, rfl, h6, r6⟩ := trodAll_cons r5
  obtain ⟨rfl, rfl, rfl⟩ := trodAll_nil r6
  obtain rfl : args = #[v0, v1, v2, v3, v4, v5, v6] := by cases args; simp_all
  obtain ⟨rfl, rfl⟩ := trodVars_none hV
  obtain ⟨A0, n0, c0, ns0, rfl, hl0, nl0, w0⟩ := open_rowsS 4 (K := 8) Try.underlying22 (by kernel_rfl) (by kernel_rfl) (by omega) (hval 0 22 v0 rfl rfl) h0
  obtain ⟨A1, n1, c1, ns1, rfl, hl1, nl1, w1⟩ := open_rowsS 4 (K := 1) Try.underlying23 (by kernel_rfl) (by kernel_rfl) (by omega) (hval 1 23 v1 rfl rfl) h1
  obtain ⟨a2, rfl, rfl, rfl, w2⟩ := open_int Try.underlying3 (hval 2 3 v2 rfl rfl) h2
  obtain ⟨a3, rfl, rfl, rfl, w3⟩ := open_int Try.underlying3 (hval 3 3 v3 rfl rfl) h3
  obtain ⟨a4, rfl, rfl, rfl, w4⟩ := open_int Try.underlying3 (hval 4 3 v4 rfl rfl) h4
  obtain ⟨a5, rfl, rfl, rfl, w5⟩ := open_int Try.underlying3 (hval 5 3 v5 rfl rfl) h5
  obtain ⟨a6, rfl, rfl, rfl, w6⟩ := open_int Try.underlying3 (hval 6 3 v6 rfl rfl) h6
  clear hA0 hval0
  refine (pathBack_walk A0 n0 c0 ns0 A1 n1 c1 ns1 a2 a3 a4 a5 a6 nl0 w0 nl1 w1 w2 w3 w4 w5 w6 W hl0 hl1).mono fun e W' ⟨he, bel⟩ => ?_
  subst he
  exact ⟨_, rfl, law_post pathBack_laidOut (by kernel_rfl) rfl Try.underlying4 rfl rfl hW' bel⟩

theorem pathBack_proved : Rows.PathBackSaid :=
  OpenClaim.holds_of_wide 8 Try.f8 rfl rfl rfl rfl rfl rfl rfl ⟨rfl, rfl, rfl, rfl, rfl⟩ rfl rfl rfl rfl rfl (by kernel_rfl) Try.func8 (by kernel_rfl)
    (of_decide_eq_true (by kernel_rfl)) (by unfold Func.isWrapper; first | (rw [if_pos (by decide +kernel)]; kernel_rfl) | (rw [if_neg (by decide +kernel)]; exact ⟨rfl, rfl⟩))
    (fun os started H enc _ => pathBack_lifted os started H enc)
#print axioms pathBack_proved
end Go.Proofs.Ytmijkdfinhkloaa
