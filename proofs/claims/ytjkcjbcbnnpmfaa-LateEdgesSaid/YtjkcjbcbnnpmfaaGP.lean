/- Several texts of mine in one: Path3, Path4, SlHp, Path5. No condition. -/
import Derived.Test.YtjkcjbcbnnpmfaaPath2
import Derived.Test.YtjkcjbcbnnpmfaaAppl
import Derived.Test.YtjkcjbcbnnpmfaaGN

/- Contracts of package path: follow, pass, ends, leads, arrive. They make new memory alone. -/
namespace Go.Proofs.Ytjkcjbcbnnpmfaa
open Go.ChangeShapes Go.WideShapes Go.ChangeAt Go.RowKit Go.Sort
set_option linter.unusedSimpArgs false
set_option linter.unusedVariables false
theorem own_below {w w' : World} {base : Nat} {e : TypeId} {size n : Nat} {v : Value} {xs : List Value} (h : w.ownsRow base e size v n xs) (hb : Below w.heap.size w w') : w'.ownsRow base e size v n xs :=
  h.kept (grown_of_below (row := some w.heap.size) hb) (.inr (fun e => by have := (h.lt _ e).2; omega))
theorem flatEd_one_ (y : Ed) : flatEd [y] = [.int .i64 y.id, .int .i64 y.fr, .int .i64 y.tn, .int .i64 y.op, .int .i64 y.en, .int .i64 y.ra, .int .i64 y.ow, .int .i64 y.ro] := rfl
theorem flatHp_one_ (y : Hp) : flatHp [y] = [.int .i64 y.id, .int .i64 y.se, .int .i64 y.ar] := rfl
theorem drop_at {l : List Int} {i : Nat} (h : i < l.length) : l.drop i = l.getD i 0 :: l.drop (i + 1) := by
  rw [List.drop_eq_getElem_cons h, List.getD_eq_getElem?_getD, List.getElem?_eq_getElem h]; rfl
theorem drop_atEd' {l : List Ed} {i : Nat} (h : i < l.length) : l.drop i = gEd l i :: l.drop (i + 1) := by
  rw [List.drop_eq_getElem_cons h, gEd_eq h]
theorem map_app {α : Type} (a : List α) (x : α) (o : Option (List α)) : (o.map (x :: ·)).map (a ++ ·) = o.map ((a ++ [x]) ++ ·) := by
  cases o <;> simp
set_option maxHeartbeats 4000000 in
set_option maxRecDepth 100000 in
theorem pfollow_any (A : Option Addr) (n c : Nat) (d : List Ed) (A' : Option Addr) (m c' : Nat) (ids : List Int) (q : Int) (w : World) (hd : d.length = n) (hn : n ≤ 1000000) (hi : ids.length = m) (hm : m ≤ 1000000) (hwf : ∀ q, q < m → (Lit.int .i64 (ids.getD q 0)).wf = true) (h : Sl w w.heap.size 8 A n c (flatEd d)) (h' : Sl w w.heap.size 1 A' m c' (ids.map (Value.int .i64))) (hr : rightE d = true) (hq : 1 ≤ q) (o : Option (List Ed)) (ho : followE d ids q = o) :
    Calls Try.prog 35 #[.slice A n c, .slice A' m c', .int .i64 q] w fun e w' => ∃ v, e = .returned (.tuple #[v, .bool o.isSome]) ∧ w'.ownsRow w.heap.size 39 8 v (o.getD []).length (flatEd (o.getD [])) ∧ Below w.heap.size w w' := by
  obtain ⟨i0, hi0, hz0, hz1, hz2⟩ := info_parts infoEd
  have HF0 := Lib.hid (pfind_any A n c d A' m c' ids w hd hn hi hm hwf h h' hr)
  have HD := Lib.hid hd
  have HI := Lib.hid hi
  have HWF := Lib.hid hwf
  have HR := Lib.hid hr
  have HO := Lib.hid ho
  have HL' := Lib.hid h'
  clear hd hi hwf hr h h' ho
  go_enter Try.func35, Try.ntmps35
  go_wp2_with fail
  refine HF0.out.mono ?_
  rintro e w1 ⟨g, K, rfl, hg, hS, hb1⟩
  have hl1' := HL'.out.below hb1
  have hgl := hS.lt
  obtain ⟨b1, hb1e⟩ : ∃ q, w1.heap.size = q := ⟨_, rfl⟩
  have hwb := hb1.size
  rw [hb1e] at hgl hwb
  have HS := Lib.hid hS
  have HL1 := Lib.hid hl1'
  have HB := Lib.hid hb1
  have HBE := Lib.hid hb1e
  clear hS hl1' hg hb1 HF0 HL' hb1e
  go_wp2
  go_loopw [9, 10, 20] (fun ev qv iv wr => ∃ (es : List Ed) (k : Nat) (q' : Int) (i : Nat), iv = .int .i64 i ∧ qv = .int .i64 q' ∧ i ≤ m ∧ 1 ≤ q' ∧ k ≤ i ∧ Hid (es.length = k) ∧ wr.ownsRow b1 39 8 ev k (flatEd es) ∧ Hid ((followE d (ids.drop i) q').map (es ++ ·) = o) ∧ Below w.heap.size w wr ∧ b1 ≤ wr.heap.size ∧ Hid (MapV wr 3 g K (foundS d ids)) ∧ Hid (Sl wr w.heap.size 1 A' m c' (ids.map (Value.int .i64)))) (fun _ _ iv _ => m - (intOf iv).toNat)
  case atStart => exact ⟨[], 0, q, 0, rfl, rfl, by omega, hq, by omega, rfl, World.ownsRow_nil _ _ _ _, (by show (followE d (ids.drop 0) q).map ([] ++ ·) = o; rw [List.drop_zero, HO.out]; cases o <;> simp), HB.out, by rw [HBE.out]; omega, HS.out, HL1.out⟩
  case round =>
    clear HS HL1 HB HO HBE
    obtain ⟨es, k, q', i, rfl, rfl, hi, hq', hk, HE, hown, HF, hB, hs1, HS, HL⟩ := hrel
    have hs := hB.size
    obtain ⟨Ae, ce, rfl⟩ := slice_of_own hown
    by_cases him : i < m
    · obtain ⟨ad, rfl, hab, c0⟩ := HL.out.lst.atI HI.out him
      have hdr := drop_at (l := ids) (i := i) (by rw [HI.out]; exact him)
      have hw := HWF.out i him
      have hmem : ids.getD i 0 ∈ ids := by
        rw [List.getD_eq_getElem?_getD, List.getElem?_eq_getElem (by rw [HI.out]; exact him)]
        exact List.getElem_mem _
      obtain ⟨id, hid⟩ : ∃ q, ids.getD i 0 = q := ⟨_, rfl⟩
      rw [hid] at c0 hw hdr hmem
      obtain ⟨x, hx⟩ : ∃ x, gotE d id = x := ⟨_, rfl⟩
      have hxv : (foundS d ids (.int .i64 id)).getD (edV zeroE) = .agg #[.int .i64 x.id, .int .i64 x.fr, .int .i64 x.tn, .int .i64 x.op, .int .i64 x.en, .int .i64 x.ra, .int .i64 x.ow, .int .i64 x.ro] := by
        rw [foundS_int, if_pos hmem, hx]; rfl
      have hstep : (x.fr = q' → findE d id = some x) ∧ (x.fr ≠ q' → followE d (ids.drop i) q' = none) := by
        rw [hdr]
        unfold gotE at hx
        cases hf : findE d id with
        | none =>
          rw [hf] at hx
          have : x.fr = 0 := by rw [← hx]; rfl
          exact ⟨fun h => by omega, fun _ => followE_none hf⟩
        | some y =>
          rw [hf] at hx
          have hyx : y = x := hx
          subst hyx
          exact ⟨fun _ => rfl, fun h => followE_off hf h⟩
      have HW := Lib.hid hw
      have HDR := Lib.hid hdr
      have HXV := Lib.hid hxv
      have HST := Lib.hid hstep
      have hS := HS.out
      have hX := Blok.new wr 39 #[.int .i64 x.id, .int .i64 x.fr, .int .i64 x.tn, .int .i64 x.op, .int .i64 x.en, .int .i64 x.ra, .int .i64 x.ow, .int .i64 x.ro]
      have hBa : Below wr.heap.size wr (wr.alloc (.cells #[.int .i64 x.id, .int .i64 x.fr, .int .i64 x.tn, .int .i64 x.op, .int .i64 x.en, .int .i64 x.ra, .int .i64 x.ow, .int .i64 x.ro] 39)) := by (repeat (first | exact Below.refl _ _ | refine Below.alloc ?_ (by first | omega | (simp; done) | (simp; omega)) _ | refine Below.setCell ?_ (by first | omega | (simp; done) | (simp; omega)) _ | refine Below.drew ?_))
      have hS2 := Lib.hid (hS.below hBa)
      have hB2 := hB.trans (hBa.mono hs)
      have hL2 := Lib.hid (HL.out.below (hBa.mono hs))
      have hown2 := own_below hown hBa
      have hqb : ∀ q, (Value.slice Ae k ce).ownBlock = some q → q < wr.heap.size := fun q hq => (hown.lt q hq).2
      clear hid hx hxv hstep hw hdr hmem
      go_upto_region 8 with (at_lookup; refine wpList_look_map rfl _ _ 80 rfl 3 39 g K _ rfl hS keyedV Try.underlying80 (zeroEd_run _) (.int .i64 id) (.int .i64 id) rfl (keyI id HW.out) (isKeyI _) _ HXV.out ?_)
      have HQB := Lib.hid hqb
      have hsa := hBa.size
      clear c0 hS hBa hB hown HS HL hqb
      generalize wr.alloc (.cells #[.int .i64 x.id, .int .i64 x.fr, .int .i64 x.tn, .int .i64 x.op, .int .i64 x.en, .int .i64 x.ra, .int .i64 x.ow, .int .i64 x.ro] 39) = wx at *
      generalize wr.heap.size = bb at *
      have x0 : wx.cell? ⟨bb, 0, none⟩ = some (.int .i64 x.id) := hX.cell 0
      have x1 : wx.cell? ⟨bb, 1, none⟩ = some (.int .i64 x.fr) := hX.cell 1
      have x2 : wx.cell? ⟨bb, 2, none⟩ = some (.int .i64 x.tn) := hX.cell 2
      have x3 : wx.cell? ⟨bb, 3, none⟩ = some (.int .i64 x.op) := hX.cell 3
      have x4 : wx.cell? ⟨bb, 4, none⟩ = some (.int .i64 x.en) := hX.cell 4
      have x5 : wx.cell? ⟨bb, 5, none⟩ = some (.int .i64 x.ra) := hX.cell 5
      have x6 : wx.cell? ⟨bb, 6, none⟩ = some (.int .i64 x.ow) := hX.cell 6
      have x7 : wx.cell? ⟨bb, 7, none⟩ = some (.int .i64 x.ro) := hX.cell 7
      have lt_x := hX.lt
      have hsx := hB2.size
      by_cases hfr : x.fr = q'
      · have hfe := HST.out.1 hfr
        have hon := followE_on (r := ids.drop (i + 1)) hfe hfr
        have hnx : (followE d (ids.drop (i + 1)) x.tn).map ((es ++ [x]) ++ ·) = o := by
          rw [← HF.out, HDR.out, hon, map_app]
        have htn : 1 ≤ x.tn := by
          have := Ed.ok_spec.1 (rightE_ok HR.out (findE_some hfe).1)
          omega
        have HNX := Lib.hid hnx
        have g1 : (x.fr != q') = false := by simp [hfr]
        clear hfe hon hnx hfr
        go_upto_region 11 with (first | (at_builtin; refine wpList_append_own _ rfl _ _ 22 rfl b1 39 i0 _ 8 64 Try.underlying22 hi0 hz0 hz1 hz2 rfl (by decide) _ _ _ rfl (hown2.alloc _) ⟨wx.heap.size, 0, none⟩ 1 1 [.int .i64 x.id, .int .i64 x.fr, .int .i64 x.tn, .int .i64 x.op, .int .i64 x.en, .int .i64 x.ra, .int .i64 x.ow, .int .i64 x.ro] rfl rfl (by exact lit_cells wx #[.int .i64 x.id, .int .i64 x.fr, .int .i64 x.tn, .int .i64 x.op, .int .i64 x.en, .int .i64 x.ra, .int .i64 x.ow, .int .i64 x.ro] _ _ rfl) (by simp [Value.oneCell']) (by unfold maxLen; omega) (by omega) (by simp; omega) ?_; intro v' w3 hown' hgrow3 hnil3))
        have hbN : Below w.heap.size w w3 := (hB2.alloc hsx _).grown hgrow3 (by simp; omega) (fun q hq => by have := (hown2.lt q hq).1; omega)
        have hSN := Lib.hid ((hS2.out.alloc (.cells #[.int .i64 x.id, .int .i64 x.fr, .int .i64 x.tn, .int .i64 x.op, .int .i64 x.en, .int .i64 x.ra, .int .i64 x.ow, .int .i64 x.ro] 39)).kept hgrow3 (fun e => by have := (hown2.lt g e.symm).1; omega))
        have hLN := Lib.hid (hL2.out.below (((Below.refl _ _).alloc hsx (.cells #[.int .i64 x.id, .int .i64 x.fr, .int .i64 x.tn, .int .i64 x.op, .int .i64 x.en, .int .i64 x.ra, .int .i64 x.ow, .int .i64 x.ro] 39)).grown hgrow3 (by simp; omega) (fun q hq => by have := (hown2.lt q hq).1; omega)))
        have hXN := (hX.alloc (.cells #[.int .i64 x.id, .int .i64 x.fr, .int .i64 x.tn, .int .i64 x.op, .int .i64 x.en, .int .i64 x.ra, .int .i64 x.ow, .int .i64 x.ro] 39)).grown hgrow3 (fun e => by have := HQB.out bb e.symm; omega)
        have hs3 : b1 ≤ w3.heap.size := by have h1 := hgrow3.size; rw [World.size_alloc] at h1; omega
        clear hgrow3 hnil3 x0 x1 x2 x3 x4 x5 x6 x7 lt_x
        have x0 : w3.cell? ⟨bb, 0, none⟩ = some (.int .i64 x.id) := hXN.cell 0
        have x1 : w3.cell? ⟨bb, 1, none⟩ = some (.int .i64 x.fr) := hXN.cell 1
        have x2 : w3.cell? ⟨bb, 2, none⟩ = some (.int .i64 x.tn) := hXN.cell 2
        have x3 : w3.cell? ⟨bb, 3, none⟩ = some (.int .i64 x.op) := hXN.cell 3
        have x4 : w3.cell? ⟨bb, 4, none⟩ = some (.int .i64 x.en) := hXN.cell 4
        have x5 : w3.cell? ⟨bb, 5, none⟩ = some (.int .i64 x.ra) := hXN.cell 5
        have x6 : w3.cell? ⟨bb, 6, none⟩ = some (.int .i64 x.ow) := hXN.cell 6
        have x7 : w3.cell? ⟨bb, 7, none⟩ = some (.int .i64 x.ro) := hXN.cell 7
        have lt_x := hXN.lt
        go_wp2_with fail
        go_roundw
        case rel => exact ⟨es ++ [x], k + 1, x.tn, i + 1, by go_num, rfl, by omega, htn, by omega, by simp [Hid, HE.out], (by rw [flatEd_append, flatEd_one_]; exact hown'), HNX, hbN, hs3, hSN, hLN⟩
        case measure => simp [intOf]; omega
      · have hno := HST.out.2 hfr
        have hov : o = none := by rw [← HF.out, hno]; rfl
        have g1 : (x.fr != q') = true := by simp [hfr]
        have HOV := Lib.hid hov
        clear hno hov hfr
        go_wp2_with fail
        go_ret2
        rw [HOV.out]
        exact ⟨_, rfl, World.ownsRow_nil _ _ _ _, hB2⟩
    · obtain rfl : i = m := by omega
      have hov : o = some es := by
        rw [← HF.out, List.drop_of_length_le (by rw [HI.out]; omega), followE_nil]; simp
      have HOV := Lib.hid hov
      clear hov
      go_wp2_with fail
      go_ret2
      rw [HOV.out]
      refine ⟨_, rfl, ?_, hB⟩
      rw [show ((some es).getD []).length = k from HE.out]
      exact own_down hown hwb
end Go.Proofs.Ytjkcjbcbnnpmfaa

/- Contracts of package path: pass, ends, leads, arrive. They make new memory alone. -/
namespace Go.Proofs.Ytjkcjbcbnnpmfaa
open Go.ChangeShapes Go.WideShapes Go.ChangeAt Go.RowKit Go.Sort
set_option linter.unusedSimpArgs false
set_option linter.unusedVariables false
theorem infoI12 : (Try.prog.info? 3).map (fun i => (i.zero, i.size, i.bytes)) = some (some (.int .i64 0), 1, 8) := by kernel_rfl
theorem hpass_yes {x : Ed} {t size a b : Int} (h : x.pass t size = some (a, b)) (w : World) :
    Calls Try.prog 54 #[.agg #[.int .i64 x.id, .int .i64 x.fr, .int .i64 x.tn, .int .i64 x.op, .int .i64 x.en, .int .i64 x.ra, .int .i64 x.ow, .int .i64 x.ro], .int .i64 t, .int .i64 size] w fun e w' => e = .returned (.tuple #[.int .i64 a, .int .i64 b, .bool true]) ∧ Below w.heap.size w w' := pass_yes h w
theorem hpass_no {x : Ed} {t size : Int} (h : x.pass t size = none) (w : World) :
    Calls Try.prog 54 #[.agg #[.int .i64 x.id, .int .i64 x.fr, .int .i64 x.tn, .int .i64 x.op, .int .i64 x.en, .int .i64 x.ra, .int .i64 x.ow, .int .i64 x.ro], .int .i64 t, .int .i64 size] w fun e w' => e = .returned (.tuple #[.int .i64 0, .int .i64 0, .bool false]) ∧ Below w.heap.size w w' := pass_no h w
set_option maxHeartbeats 4000000 in
set_option maxRecDepth 100000 in
theorem ppass_any (A : Option Addr) (n c : Nat) (d : List Ed) (t size : Int) (w : World) (hd : d.length = n) (hn : n ≤ 1000000) (h : Sl w w.heap.size 8 A n c (flatEd d)) (o : Option (List Hp)) (ho : passE size d t = o) :
    Calls Try.prog 36 #[.slice A n c, .int .i64 t, .int .i64 size] w fun e w' => ∃ v, e = .returned (.tuple #[v, .bool o.isSome]) ∧ w'.ownsRow w.heap.size 83 3 v (o.getD []).length (flatHp (o.getD [])) ∧ Below w.heap.size w w' := by
  obtain ⟨i0, hi0, hz0, hz1, hz2⟩ := info_parts infoHp
  have HD := Lib.hid hd
  have HL := Lib.hid h
  have HO := Lib.hid ho
  clear hd h ho
  go_enter Try.func36, Try.ntmps36
  go_wp2
  go_loopw [8, 9, 18] (fun ev qv iv wr => ∃ (hs : List Hp) (k : Nat) (t' : Int) (i : Nat), iv = .int .i64 i ∧ qv = .int .i64 t' ∧ i ≤ n ∧ k ≤ i ∧ Hid (hs.length = k) ∧ wr.ownsRow w.heap.size 83 3 ev k (flatHp hs) ∧ Hid ((passE size (d.drop i) t').map (hs ++ ·) = o) ∧ Below w.heap.size w wr) (fun _ _ iv _ => n - (intOf iv).toNat)
  case atStart => exact ⟨[], 0, t, 0, rfl, rfl, by omega, by omega, rfl, World.ownsRow_nil _ _ _ _, (by show (passE size (d.drop 0) t).map ([] ++ ·) = o; rw [List.drop_zero, HO.out]; cases o <;> simp), Below.refl _ _⟩
  case round =>
    clear HO
    obtain ⟨hs, k, t', i, rfl, rfl, hi, hk, HE, hown, HF, hB⟩ := hrel
    have hsz := hB.size
    obtain ⟨Ae, ce, rfl⟩ := slice_of_own hown
    by_cases hin : i < n
    · obtain ⟨ad, rfl, hab, c0, c1, c2, c3, c4, c5, c6, c7⟩ := (HL.out.below hB).lst.atEd HD.out hin
      have hdr := drop_atEd' (l := d) (i := i) (by rw [HD.out]; exact hin)
      obtain ⟨x, hx⟩ : ∃ x, gEd d i = x := ⟨_, rfl⟩
      rw [hx] at c0 c1 c2 c3 c4 c5 c6 c7 hdr
      have HDR := Lib.hid hdr
      have hX := Blok.new wr 39 #[.int .i64 x.id, .int .i64 x.fr, .int .i64 x.tn, .int .i64 x.op, .int .i64 x.en, .int .i64 x.ra, .int .i64 x.ow, .int .i64 x.ro]
      have hBa : Below wr.heap.size wr (wr.alloc (.cells #[.int .i64 x.id, .int .i64 x.fr, .int .i64 x.tn, .int .i64 x.op, .int .i64 x.en, .int .i64 x.ra, .int .i64 x.ow, .int .i64 x.ro] 39)) := by (repeat (first | exact Below.refl _ _ | refine Below.alloc ?_ (by first | omega | (simp; done) | (simp; omega)) _ | refine Below.setCell ?_ (by first | omega | (simp; done) | (simp; omega)) _ | refine Below.drew ?_))
      have hB2 := hB.trans (hBa.mono hsz)
      have hown2 := own_below hown hBa
      have HQB := Lib.hid (show ∀ q, (Value.slice Ae k ce).ownBlock = some q → q < wr.heap.size from fun q hq => (hown.lt q hq).2)
      clear hx hdr
      go_upto_region 6 with fail
      clear c0 c1 c2 c3 c4 c5 c6 c7 hBa hB hown
      generalize wr.alloc (.cells #[.int .i64 x.id, .int .i64 x.fr, .int .i64 x.tn, .int .i64 x.op, .int .i64 x.en, .int .i64 x.ra, .int .i64 x.ow, .int .i64 x.ro] 39) = wx at *
      generalize wr.heap.size = bb at *
      have x0 : wx.cell? ⟨bb, 0, none⟩ = some (.int .i64 x.id) := hX.cell 0
      have x1 : wx.cell? ⟨bb, 1, none⟩ = some (.int .i64 x.fr) := hX.cell 1
      have x2 : wx.cell? ⟨bb, 2, none⟩ = some (.int .i64 x.tn) := hX.cell 2
      have x3 : wx.cell? ⟨bb, 3, none⟩ = some (.int .i64 x.op) := hX.cell 3
      have x4 : wx.cell? ⟨bb, 4, none⟩ = some (.int .i64 x.en) := hX.cell 4
      have x5 : wx.cell? ⟨bb, 5, none⟩ = some (.int .i64 x.ra) := hX.cell 5
      have x6 : wx.cell? ⟨bb, 6, none⟩ = some (.int .i64 x.ow) := hX.cell 6
      have x7 : wx.cell? ⟨bb, 7, none⟩ = some (.int .i64 x.ro) := hX.cell 7
      have lt_x := hX.lt
      have hsx := hB2.size
      cases hp : x.pass t' size with
      | none =>
        have hov : o = none := by rw [← HF.out, HDR.out, passE_no hp]; rfl
        have HOV := Lib.hid hov
        have HP := Lib.hid hp
        clear hp hov
        go_wp2_with fail
        refine (hpass_no HP.out _).mono ?_
        rintro e w4 ⟨rfl, hb⟩
        go_wp2_with fail
        go_ret2
        rw [HOV.out]
        exact ⟨_, rfl, World.ownsRow_nil _ _ _ _, hB2.trans (hb.mono hsx)⟩
      | some p =>
        obtain ⟨a, b⟩ := p
        have hnx : (passE size (d.drop (i + 1)) b).map ((hs ++ [⟨x.id, a, b⟩]) ++ ·) = o := by
          rw [← HF.out, HDR.out, passE_yes hp, map_app]
        have HNX := Lib.hid hnx
        have HP := Lib.hid hp
        clear hp hnx
        go_wp2_with fail
        refine (hpass_yes HP.out _).mono ?_
        rintro e w4 ⟨rfl, hb⟩
        clear x0 x1 x2 x3 x4 x5 x6 x7 lt_x
        have hX4 := hX.below hb hX.lt
        have hB4 := hB2.trans (hb.mono hsx)
        have hown4 := own_below hown2 hb
        have hs4 := hB4.size
        have x0 : w4.cell? ⟨bb, 0, none⟩ = some (.int .i64 x.id) := hX4.cell 0
        have lt_x := hX4.lt
        clear hb hX hB2 hown2 hsx
        go_wp2_with (first | (at_builtin; refine wpList_append_own _ rfl _ _ 43 rfl w.heap.size 83 i0 _ 3 24 Try.underlying43 hi0 hz0 hz1 hz2 rfl (by decide) _ _ _ rfl (hown4.alloc _) ⟨w4.heap.size, 0, none⟩ 1 1 [.int .i64 x.id, .int .i64 a, .int .i64 b] rfl rfl (by exact lit_cells w4 #[.int .i64 x.id, .int .i64 a, .int .i64 b] _ _ rfl) (by simp [Value.oneCell']) (by unfold maxLen; omega) (by omega) (by simp; omega) ?_; intro v' w3 hown' hgrow3 hnil3))
        have hbN : Below w.heap.size w w3 := (hB4.alloc hs4 _).grown hgrow3 (by simp; omega) (fun q hq => (hown4.lt q hq).1)
        clear hgrow3 hnil3
        go_wp2_with fail
        go_roundw
        case rel => exact ⟨hs ++ [⟨x.id, a, b⟩], k + 1, b, i + 1, by go_num, rfl, by omega, by omega, by simp [Hid, HE.out], (by rw [flatHp_append, flatHp_one_]; exact hown'), HNX, hbN⟩
        case measure => simp [intOf]; omega
    · obtain rfl : i = n := by omega
      have hov : o = some hs := by
        rw [← HF.out, List.drop_of_length_le (by rw [HD.out]; omega), passE_nil]; simp
      have HOV := Lib.hid hov
      clear hov
      go_wp2_with fail
      go_ret2
      rw [HOV.out]
      refine ⟨_, rfl, ?_, hB⟩
      rw [show ((some hs).getD []).length = k from HE.out]
      exact hown
theorem ints_app (a b : List Int) : (a ++ b).map (Value.int .i64) = a.map (Value.int .i64) ++ b.map (Value.int .i64) := List.map_append
theorem nodes_next {q : Int} {d : List Ed} {i : Nat} (h : i < d.length) : nodesE q (d.take (i + 1)) = nodesE q (d.take i) ++ [(gEd d i).tn] := by
  unfold nodesE; rw [take_nextEd h, List.map_append]; rfl
/-- The nodes that were seen. -/
def seenN (l : List Int) (k : Int) : Bool := decide (k ∈ l)
end Go.Proofs.Ytjkcjbcbnnpmfaa

/- The generic library's functions at 83-rows: Clone, Equal, Grow, Concat, IndexFunc, ContainsFunc, DeleteFunc. -/
namespace Go.Proofs.Ytjkcjbcbnnpmfaa
open Go.ChangeShapes Go.WideShapes Go.ChangeAt Go.RowKit Go.Sort
set_option linter.unusedSimpArgs false
set_option linter.unusedVariables false
theorem noHitHp {d : List Hp} {p : Hp → Bool} (h : d.any p = false) {j : Nat} (hj : j < d.length) : p (gHp d j) = false := by
  have := List.any_eq_false.1 h _ (gHp_mem hj)
  simpa using this
theorem firstHitHp {d : List Hp} {p : Hp → Bool} (h : d.any p = true) : ∃ q, q < d.length ∧ (∀ j, j < q → p (gHp d j) = false) ∧ p (gHp d q) = true := by
  have hl : d.findIdx p < d.length := List.findIdx_lt_length.2 (by simpa using h)
  refine ⟨d.findIdx p, hl, fun j hj => ?_, ?_⟩
  · rw [gHp_eq (by omega)]
    have := List.not_of_lt_findIdx hj
    simpa using this
  · rw [gHp_eq hl]
    exact List.findIdx_getElem
/-- A function value that tells p, in whatever world that has grown from W but for this block. -/
structure PredHp (g : FuncId) (lb : Array Value) (row : Option Nat) (W : World) (p : Hp → Bool) : Prop where
  run : ∀ vals w, (callFunc g vals).run Try.prog w = .ok (.enter g vals) w
  tells : ∀ w', W.grownBy w' row → ∀ x : Hp, Calls Try.prog g (#[.agg #[.int .i64 x.id, .int .i64 x.se, .int .i64 x.ar]] ++ lb) w' fun e w'' => e = .returned (.bool (p x)) ∧ Below w'.heap.size w' w''
theorem PredHp.next {g : FuncId} {lb : Array Value} {row : Option Nat} {W W' : World} {p : Hp → Bool} (h : PredHp g lb row W p) (hg : W.grownBy W' row) : PredHp g lb row W' p := ⟨h.run, fun w' h' x => h.tells w' (grown_trans hg h') x⟩
theorem PredHp.below {g : FuncId} {lb : Array Value} {row : Option Nat} {W W' : World} {p : Hp → Bool} (h : PredHp g lb row W p) (hb : Below W.heap.size W W') : PredHp g lb row W' p := h.next (grown_of_below hb)
theorem filt_nextHp {d : List Hp} {p : Hp → Bool} {j : Nat} (hj : j < d.length) : (d.take (j + 1)).filter (fun x => !p x) = (d.take j).filter (fun x => !p x) ++ if p (gHp d j) = true then [] else [gHp d j] := by
  rw [take_nextHp hj, List.filter_append]
  congr 1
  cases h : p (gHp d j) <;> simp [List.filter_cons, h]
theorem filt_allHp {d : List Hp} {p : Hp → Bool} : ∀ q, q ≤ d.length → (∀ j, j < q → p (gHp d j) = false) → (d.take q).filter (fun x => !p x) = d.take q
  | 0, _, _ => by simp
  | q + 1, h, hl => by
    rw [filt_nextHp (by omega), filt_allHp q (by omega) (fun j hj => hl j (by omega)), if_neg (by rw [hl q (by omega)]; simp), ← take_nextHp (by omega)]
theorem filt_lenHp {d : List Hp} {p : Hp → Bool} (j : Nat) : ((d.take j).filter (fun x => !p x)).length ≤ j := by
  have h1 := List.length_filter_le (fun x => !p x) (d.take j)
  rw [List.length_take] at h1
  omega
theorem set_stepHp {e d : List Hp} {p : Hp → Bool} {i j n : Nat} (he : e.length = n) (hd : d.length = n) (hij : i < j) (hj : j < n) (h1 : e.take i = (d.take j).filter (fun x => !p x)) (h2 : e.drop j = d.drop j) (hp : p (gHp d j) = false) :
    (e.set i (gHp d j)).take (i + 1) = (d.take (j + 1)).filter (fun x => !p x) ∧ (e.set i (gHp d j)).drop (j + 1) = d.drop (j + 1) := by
  refine ⟨?_, ?_⟩
  · rw [filt_nextHp (by omega), if_neg (by rw [hp]; simp), ← h1]
    rw [List.take_succ_eq_append_getElem (by simp; omega), List.getElem_set_self, List.take_set_of_le (Nat.le_refl _)]
  · rw [List.drop_set_of_lt (by omega), ← List.drop_drop, ← List.drop_drop, h2]
theorem drop_atHp {e d : List Hp} {j : Nat} (he : e.length = d.length) (h : e.drop j = d.drop j) (hj : j < d.length) : gHp e j = gHp d j := by
  rw [gHp_eq (by omega), gHp_eq hj]
  have h1 : (e.drop j)[0]'(by simp; omega) = (d.drop j)[0]'(by simp; omega) := by simp [h]
  simpa using h1
/-- Lists, one behind the other. -/
def catHp (d : Nat → List Hp) : Nat → List Hp
  | 0 => []
  | k + 1 => catHp d k ++ d k
theorem catHp_le (d : Nat → List Hp) : ∀ {k m : Nat}, k ≤ m → (catHp d k).length ≤ (catHp d m).length
  | k, 0, h => by
    obtain rfl : k = 0 := by omega
    exact Nat.le_refl _
  | k, m + 1, h => by
    by_cases e : k = m + 1
    · subst e; exact Nat.le_refl _
    · have := catHp_le d (k := k) (m := m) (by omega)
      simp only [catHp, List.length_append]
      omega
/-- A function value that compares with t, as cf says, in whatever world that has grown from W. -/
structure CmpHp (g : FuncId) (lb : Array Value) (t : Hp) (W : World) (cf : Hp → Int) : Prop where
  run : ∀ vals w, (callFunc g vals).run Try.prog w = .ok (.enter g vals) w
  tells : ∀ w', Below W.heap.size W w' → ∀ x : Hp, Calls Try.prog g (#[.agg #[.int .i64 x.id, .int .i64 x.se, .int .i64 x.ar], .agg #[.int .i64 t.id, .int .i64 t.se, .int .i64 t.ar]] ++ lb) w' fun e w'' => e = .returned (.int .i64 (cf x)) ∧ Below w'.heap.size w' w''
end Go.Proofs.Ytjkcjbcbnnpmfaa

/- Contracts of package path: Walk, Ends, Route, IDs, Same; of view.Find. They make new memory alone. -/
namespace Go.Proofs.Ytjkcjbcbnnpmfaa
open Go.ChangeShapes Go.WideShapes Go.ChangeAt Go.RowKit Go.Sort
set_option linter.unusedSimpArgs false
set_option linter.unusedVariables false
theorem nodes_wf {q : Int} {d : List Ed} (hq : 1 ≤ q) (hq2 : q ≤ 255) (hd : ∀ e ∈ d, e.ok = true) : ∀ k, k < d.length + 1 → (Lit.int .i64 ((nodesE q d).getD k 0)).wf = true := by
  intro k hk
  have hm : (nodesE q d).getD k 0 ∈ nodesE q d := by
    rw [List.getD_eq_getElem?_getD, List.getElem?_eq_getElem (by rw [nodesE_len]; exact hk)]
    exact List.getElem_mem _
  generalize (nodesE q d).getD k 0 = z at *
  unfold nodesE at hm
  rcases List.mem_cons.1 hm with rfl | hm
  · exact wfI (by omega)
  · obtain ⟨e, he, rfl⟩ := List.mem_map.1 hm
    have := Ed.ok_spec.1 (hd e he)
    exact wfI (by omega)
set_option maxHeartbeats 4000000 in
set_option maxRecDepth 100000 in
theorem pwalk_any (A : Option Addr) (n c : Nat) (d : List Ed) (A' : Option Addr) (m c' : Nat) (ids : List Int) (q now size : Int) (w : World) (hd : d.length = n) (hn : n ≤ 1000000) (hi : ids.length = m) (hm : m ≤ 1000000) (hwf : ∀ q, q < m → (Lit.int .i64 (ids.getD q 0)).wf = true) (h : Sl w w.heap.size 8 A n c (flatEd d)) (h' : Sl w w.heap.size 1 A' m c' (ids.map (Value.int .i64))) (o : Option (List Hp)) (ho : walkE d ids q now size = o) :
    Calls Try.prog 18 #[.slice A n c, .slice A' m c', .int .i64 q, .int .i64 now, .int .i64 size] w fun e w' => ∃ v, e = .returned (.tuple #[v, .bool o.isSome]) ∧ w'.ownsRow w.heap.size 83 3 v (o.getD []).length (flatHp (o.getD [])) ∧ Below w.heap.size w w' := by
  obtain ⟨ak, hak⟩ : ∃ b, askE d q now size = b := ⟨_, rfl⟩
  have HAK := Lib.hid hak
  have HD := Lib.hid hd
  have HI := Lib.hid hi
  have HWF := Lib.hid hwf
  have HO := Lib.hid ho
  clear hak hd hi hwf ho
  go_enter Try.func18, Try.ntmps18
  go_wp2_with fail
  refine (pasked_any A n c d q now size w HD.out hn h ak HAK.out).mono ?_
  rintro e w1 ⟨rfl, hb1⟩
  have hl := h.up hb1
  have hl' := h'.up hb1
  cases ak
  · have hov : o = none := by rw [← HO.out]; unfold walkE; rw [if_neg (by rw [HAK.out]; decide)]
    have HOV := Lib.hid hov
    clear hov
    go_wp2_with fail
    go_ret2
    rw [HOV.out]
    exact ⟨_, rfl, World.ownsRow_nil _ _ _ _, hb1⟩
  · have ha := askE_spec.1 HAK.out
    obtain ⟨of, hof⟩ : ∃ x, followE d ids q = x := ⟨_, rfl⟩
    have HOF := Lib.hid hof
    have HFO := Lib.hid (pfollow_any A n c d A' m c' ids q w1 HD.out hn HI.out hm HWF.out hl hl' ha.2.2.2 ha.1.1 of hof)
    clear hof ha hl hl' h h'
    go_wp2_with fail
    refine HFO.out.mono ?_
    rintro e w2 ⟨v, rfl, hv, hb2⟩
    have hB := hb1.trans (hb2.mono hb1.size)
    have hs := hB.size
    clear hb1 hb2 HFO
    cases of with
    | none =>
      have hov : o = none := by rw [← HO.out]; unfold walkE; rw [if_pos HAK.out, HOF.out]; rfl
      have HOV := Lib.hid hov
      clear hov
      go_wp2_with fail
      go_ret2
      rw [HOV.out]
      exact ⟨_, rfl, World.ownsRow_nil _ _ _ _, hB⟩
    | some es =>
      have hle : es.length = m := by rw [followE_len HOF.out]; exact HI.out
      have hp : passE size es now = o := by rw [← HO.out, walkE_of HAK.out HOF.out]
      change w2.ownsRow _ _ _ v es.length (flatEd es) at hv
      rw [hle] at hv
      obtain ⟨Av, cv, rfl⟩ := slice_of_own hv
      have HP := Lib.hid (ppass_any Av m cv es now size w2 hle hm (Sl.of_own hv) o hp)
      clear hv hle hp
      go_wp2_with fail
      refine HP.out.mono ?_
      rintro e w3 ⟨v3, rfl, hv3, hb3⟩
      go_wp2_with fail
      go_ret2
      exact ⟨_, rfl, own_down hv3 hs, hB.trans (hb3.mono hs)⟩
def hopsO (o : Option (List Hp × Int)) : List Hp := (o.map Prod.fst).getD []
def arrO (o : Option (List Hp × Int)) : Int := (o.map Prod.snd).getD 0
end Go.Proofs.Ytjkcjbcbnnpmfaa
