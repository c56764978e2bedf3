/- Contracts of package path: follow, pass, ends, leads, arrive. They make new memory alone. -/
import Derived.Test.YtmibgfenobekjaaGQ6
import Derived.Test.YtmibgfenobekjaaGQ19
namespace Go.Proofs.Ytmibgfenobekjaa
open Go.ChangeShapes Go.WideShapes Go.ChangeAt Go.RowKit Go.Sort
set_option linter.unusedSimpArgs false
set_option linter.unusedVariables false
theorem own_below {w w' : World} {base : Nat} {e : TypeId} {size n : Nat} {v : Value} {xs : List Value} (h : w.ownsRow base e size v n xs) (hb : Below w.heap.size w w') : w'.ownsRow base e size v n xs :=
  h.kept (grown_of_below (row := some w.heap.size) hb) (.inr (fun e => by have := (h.lt _ e).2; omega))
theorem flatEd_one_ (y : Ed) : flatEd [y] = [.int .i64 y.id, .int .i64 y.fr, .int .i64 y.tn, .int .i64 y.op, .int .i64 y.en, .int .i64 y.ra, .int .i64 y.ow, .int .i64 y.ro] := rfl
theorem flatHp_one_ (y : Hp) : flatHp [y] = [.int .i64 y.id, .int .i64 y.se, .int .i64 y.ar] := rfl
theorem drop_at {l : List Int} {i : Nat} (h : i < l.length) : l.drop i = l.getD i 0 :: l.drop (i + 1) := by
  rw [List.drop_eq_getElem_cons h, List.getD_eq_getElem?_getD, List.getElem?_eq_getElem h]; rfl
theorem drop_atEd' {l : List Ed} {i : Nat} (h : i < l.length) : l.drop i = gEd l i :: l.drop (i + 1) := by
  rw [List.drop_eq_getElem_cons h, gEd_eq h]
theorem map_app {α : Type} (a : List α) (x : α) (o : Option (List α)) : (o.map (x :: ·)).map (a ++ ·) = o.map ((a ++ [x]) ++ ·) := by
  cases o <;> simp
set_option maxHeartbeats 4000000 in
set_option maxRecDepth 100000 in
theorem pfollow_any (A : Option Addr) (n c : Nat) (d : List Ed) (A' : Option Addr) (m c' : Nat) (ids : List Int) (q : Int) (w : World) (hd : d.length = n) (hn : n ≤ 1000000) (hi : ids.length = m) (hm : m ≤ 1000000) (hwf : ∀ q, q < m → (Lit.int .i64 (ids.getD q 0)).wf = true) (h : Sl w w.heap.size 8 A n c (flatEd d)) (h' : Sl w w.heap.size 1 A' m c' (ids.map (Value.int .i64))) (hr : rightE d = true) (hq : 1 ≤ q) (o : Option (List Ed)) (ho : followE d ids q = o) :
    Calls Try.prog 35 #[.slice A n c, .slice A' m c', .int .i64 q] w fun e w' => ∃ v, e = .returned (.tuple #[v, .bool o.isSome]) ∧ w'.ownsRow w.heap.size 82 8 v (o.getD []).length (flatEd (o.getD [])) ∧ Below w.heap.size w w' := by
  obtain ⟨i0, hi0, hz0, hz1, hz2⟩ := info_parts infoEd
  have HF0 := Lib.hid (pfind_any A n c d A' m c' ids w hd hn hi hm hwf h h' hr)
  have HD := Lib.hid hd
  have HI := Lib.hid hi
  have HWF := Lib.hid hwf
  have HR := Lib.hid hr
  have HO := Lib.hid ho
  have HL' := Lib.hid h'
  clear hd hi hwf hr h h' ho
  go_enter Try.func35, Try.ntmps35
  go_wp2_with fail
  refine HF0.out.mono ?_
  rintro e w1 ⟨g, K, rfl, hg, hS, hb1⟩
  have hl1' := HL'.out.below hb1
  have hgl := hS.lt
  obtain ⟨b1, hb1e⟩ : ∃ q, w1.heap.size = q := ⟨_, rfl⟩
  have hwb := hb1.size
  rw [hb1e] at hgl hwb
  have HS := Lib.hid hS
  have HL1 := Lib.hid hl1'
  have HB := Lib.hid hb1
  have HBE := Lib.hid hb1e
  clear hS hl1' hg hb1 HF0 HL' hb1e
  go_wp2
  go_loopw [9, 10, 20] (fun ev qv iv wr => ∃ (es : List Ed) (k : Nat) (q' : Int) (i : Nat), iv = .int .i64 i ∧ qv = .int .i64 q' ∧ i ≤ m ∧ 1 ≤ q' ∧ k ≤ i ∧ Hid (es.length = k) ∧ wr.ownsRow b1 82 8 ev k (flatEd es) ∧ Hid ((followE d (ids.drop i) q').map (es ++ ·) = o) ∧ Below w.heap.size w wr ∧ b1 ≤ wr.heap.size ∧ Hid (MapV wr 3 g K (foundS d ids)) ∧ Hid (Sl wr w.heap.size 1 A' m c' (ids.map (Value.int .i64)))) (fun _ _ iv _ => m - (intOf iv).toNat)
  case atStart => exact ⟨[], 0, q, 0, rfl, rfl, by omega, hq, by omega, rfl, World.ownsRow_nil _ _ _ _, (by show (followE d (ids.drop 0) q).map ([] ++ ·) = o; rw [List.drop_zero, HO.out]; cases o <;> simp), HB.out, by rw [HBE.out]; omega, HS.out, HL1.out⟩
  case round =>
    clear HS HL1 HB HO HBE
    obtain ⟨es, k, q', i, rfl, rfl, hi, hq', hk, HE, hown, HF, hB, hs1, HS, HL⟩ := hrel
    have hs := hB.size
    obtain ⟨Ae, ce, rfl⟩ := slice_of_own hown
    by_cases him : i < m
    · obtain ⟨ad, rfl, hab, c0⟩ := HL.out.lst.atI HI.out him
      have hdr := drop_at (l := ids) (i := i) (by rw [HI.out]; exact him)
      have hw := HWF.out i him
      have hmem : ids.getD i 0 ∈ ids := by
        rw [List.getD_eq_getElem?_getD, List.getElem?_eq_getElem (by rw [HI.out]; exact him)]
        exact List.getElem_mem _
      obtain ⟨id, hid⟩ : ∃ q, ids.getD i 0 = q := ⟨_, rfl⟩
      rw [hid] at c0 hw hdr hmem
      obtain ⟨x, hx⟩ : ∃ x, gotE d id = x := ⟨_, rfl⟩
      have hxv : (foundS d ids (.int .i64 id)).getD (edV zeroE) = .agg #[.int .i64 x.id, .int .i64 x.fr, .int .i64 x.tn, .int .i64 x.op, .int .i64 x.en, .int .i64 x.ra, .int .i64 x.ow, .int .i64 x.ro] := by
        rw [foundS_int, if_pos hmem, hx]; rfl
      have hstep : (x.fr = q' → findE d id = some x) ∧ (x.fr ≠ q' → followE d (ids.drop i) q' = none) := by
        rw [hdr]
        unfold gotE at hx
        cases hf : findE d id with
        | none =>
          rw [hf] at hx
          have : x.fr = 0 := by rw [← hx]; rfl
          exact ⟨fun h => by omega, fun _ => followE_none hf⟩
        | some y =>
          rw [hf] at hx
          have hyx : y = x := hx
          subst hyx
          exact ⟨fun _ => rfl, fun h => followE_off hf h⟩
      have HW := Lib.hid hw
      have HDR := Lib.hid hdr
      have HXV := Lib.hid hxv
      have HST := Lib.hid hstep
      have hS := HS.out
      have hX := Blok.new wr 82 #[.int .i64 x.id, .int .i64 x.fr, .int .i64 x.tn, .int .i64 x.op, .int .i64 x.en, .int .i64 x.ra, .int .i64 x.ow, .int .i64 x.ro]
      have hBa : Below wr.heap.size wr (wr.alloc (.cells #[.int .i64 x.id, .int .i64 x.fr, .int .i64 x.tn, .int .i64 x.op, .int .i64 x.en, .int .i64 x.ra, .int .i64 x.ow, .int .i64 x.ro] 82)) := by (repeat (first | exact Below.refl _ _ | refine Below.alloc ?_ (by first | omega | (simp; done) | (simp; omega)) _ | refine Below.setCell ?_ (by first | omega | (simp; done) | (simp; omega)) _ | refine Below.drew ?_))
      have hS2 := Lib.hid (hS.below hBa)
      have hB2 := hB.trans (hBa.mono hs)
      have hL2 := Lib.hid (HL.out.below (hBa.mono hs))
      have hown2 := own_below hown hBa
      have hqb : ∀ q, (Value.slice Ae k ce).ownBlock = some q → q < wr.heap.size := fun q hq => (hown.lt q hq).2
      clear hid hx hxv hstep hw hdr hmem
      go_upto_region 8 with (at_lookup; refine wpList_look_map rfl _ _ 107 rfl 3 82 g K _ rfl hS keyedV Try.underlying107 (zeroEd_run _) (.int .i64 id) (.int .i64 id) rfl (keyI id HW.out) (isKeyI _) _ HXV.out ?_)
      have HQB := Lib.hid hqb
      have hsa := hBa.size
      clear c0 hS hBa hB hown HS HL hqb
      generalize wr.alloc (.cells #[.int .i64 x.id, .int .i64 x.fr, .int .i64 x.tn, .int .i64 x.op, .int .i64 x.en, .int .i64 x.ra, .int .i64 x.ow, .int .i64 x.ro] 82) = wx at *
      generalize wr.heap.size = bb at *
      have x0 : wx.cell? ⟨bb, 0, none⟩ = some (.int .i64 x.id) := hX.cell 0
      have x1 : wx.cell? ⟨bb, 1, none⟩ = some (.int .i64 x.fr) := hX.cell 1
      have x2 : wx.cell? ⟨bb, 2, none⟩ = some (.int .i64 x.tn) := hX.cell 2
      have x3 : wx.cell? ⟨bb, 3, none⟩ = some (.int .i64 x.op) := hX.cell 3
      have x4 : wx.cell? ⟨bb, 4, none⟩ = some (.int .i64 x.en) := hX.cell 4
      have x5 : wx.cell? ⟨bb, 5, none⟩ = some (.int .i64 x.ra) := hX.cell 5
      have x6 : wx.cell? ⟨bb, 6, none⟩ = some (.int .i64 x.ow) := hX.cell 6
      have x7 : wx.cell? ⟨bb, 7, none⟩ = some (.int .i64 x.ro) := hX.cell 7
      have lt_x := hX.lt
      have hsx := hB2.size
      by_cases hfr : x.fr = q'
      · have hfe := HST.out.1 hfr
        have hon := followE_on (r := ids.drop (i + 1)) hfe hfr
        have hnx : (followE d (ids.drop (i + 1)) x.tn).map ((es ++ [x]) ++ ·) = o := by
          rw [← HF.out, HDR.out, hon, map_app]
        have htn : 1 ≤ x.tn := by
          have := Ed.ok_spec.1 (rightE_ok HR.out (findE_some hfe).1)
          omega
        have HNX := Lib.hid hnx
        have g1 : (x.fr != q') = false := by simp [hfr]
        clear hfe hon hnx hfr
        go_upto_region 11 with (first | (at_builtin; refine wpList_append_own _ rfl _ _ 22 rfl b1 82 i0 _ 8 64 Try.underlying22 hi0 hz0 hz1 hz2 rfl (by decide) _ _ _ rfl (hown2.alloc _) ⟨wx.heap.size, 0, none⟩ 1 1 [.int .i64 x.id, .int .i64 x.fr, .int .i64 x.tn, .int .i64 x.op, .int .i64 x.en, .int .i64 x.ra, .int .i64 x.ow, .int .i64 x.ro] rfl rfl (by exact lit_cells wx #[.int .i64 x.id, .int .i64 x.fr, .int .i64 x.tn, .int .i64 x.op, .int .i64 x.en, .int .i64 x.ra, .int .i64 x.ow, .int .i64 x.ro] _ _ rfl) (by simp [Value.oneCell']) (by unfold maxLen; omega) (by omega) (by simp; omega) ?_; intro v' w3 hown' hgrow3 hnil3))
        have hbN : Below w.heap.size w w3 := (hB2.alloc hsx _).grown hgrow3 (by simp; omega) (fun q hq => by have := (hown2.lt q hq).1; omega)
        have hSN := Lib.hid ((hS2.out.alloc (.cells #[.int .i64 x.id, .int .i64 x.fr, .int .i64 x.tn, .int .i64 x.op, .int .i64 x.en, .int .i64 x.ra, .int .i64 x.ow, .int .i64 x.ro] 82)).kept hgrow3 (fun e => by have := (hown2.lt g e.symm).1; omega))
        have hLN := Lib.hid (hL2.out.below (((Below.refl _ _).alloc hsx (.cells #[.int .i64 x.id, .int .i64 x.fr, .int .i64 x.tn, .int .i64 x.op, .int .i64 x.en, .int .i64 x.ra, .int .i64 x.ow, .int .i64 x.ro] 82)).grown hgrow3 (by simp; omega) (fun q hq => by have := (hown2.lt q hq).1; omega)))
        have hXN := (hX.alloc (.cells #[.int .i64 x.id, .int .i64 x.fr, .int .i64 x.tn, .int .i64 x.op, .int .i64 x.en, .int .i64 x.ra, .int .i64 x.ow, .int .i64 x.ro] 82)).grown hgrow3 (fun e => by have := HQB.out bb e.symm; omega)
        have hs3 : b1 ≤ w3.heap.size := by have h1 := hgrow3.size; rw [World.size_alloc] at h1; omega
        clear hgrow3 hnil3 x0 x1 x2 x3 x4 x5 x6 x7 lt_x
        have x0 : w3.cell? ⟨bb, 0, none⟩ = some (.int .i64 x.id) := hXN.cell 0
        have x1 : w3.cell? ⟨bb, 1, none⟩ = some (.int .i64 x.fr) := hXN.cell 1
        have x2 : w3.cell? ⟨bb, 2, none⟩ = some (.int .i64 x.tn) := hXN.cell 2
        have x3 : w3.cell? ⟨bb, 3, none⟩ = some (.int .i64 x.op) := hXN.cell 3
        have x4 : w3.cell? ⟨bb, 4, none⟩ = some (.int .i64 x.en) := hXN.cell 4
        have x5 : w3.cell? ⟨bb, 5, none⟩ = some (.int .i64 x.ra) := hXN.cell 5
        have x6 : w3.cell? ⟨bb, 6, none⟩ = some (.int .i64 x.ow) := hXN.cell 6
        have x7 : w3.cell? ⟨bb, 7, none⟩ = some (.int .i64 x.ro) := hXN.cell 7
        have lt_x := hXN.lt
        go_wp2_with fail
        go_roundw
        case rel => exact ⟨es ++ [x], k + 1, x.tn, i + 1, by go_num, rfl, by omega, htn, by omega, by simp [Hid, HE.out], (by rw [flatEd_append, flatEd_one_]; exact hown'), HNX, hbN, hs3, hSN, hLN⟩
        case measure => simp [intOf]; omega
      · have hno := HST.out.2 hfr
        have hov : o = none := by rw [← HF.out, hno]; rfl
        have g1 : (x.fr != q') = true := by simp [hfr]
        have HOV := Lib.hid hov
        clear hno hov hfr
        go_wp2_with fail
        go_ret2
        rw [HOV.out]
        exact ⟨_, rfl, World.ownsRow_nil _ _ _ _, hB2⟩
    · obtain rfl : i = m := by omega
      have hov : o = some es := by
        rw [← HF.out, List.drop_of_length_le (by rw [HI.out]; omega), followE_nil]; simp
      have HOV := Lib.hid hov
      clear hov
      go_wp2_with fail
      go_ret2
      rw [HOV.out]
      refine ⟨_, rfl, ?_, hB⟩
      rw [show ((some es).getD []).length = k from HE.out]
      exact own_down hown hwb
end Go.Proofs.Ytmibgfenobekjaa
