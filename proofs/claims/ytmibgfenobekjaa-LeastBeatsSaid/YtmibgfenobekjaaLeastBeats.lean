/- No route of any IDs is ahead of the best one: LeastBeats returns true. No condition. -/
import Derived.Test.YtmibgfenobekjaaRows
import Derived.Test.YtmibgfenobekjaaSmall17
import Derived.Test.YtmibgfenobekjaaLeastLaw
import Derived.Test.YtmibgfenobekjaaGQ22
import Derived.Test.YtmibgfenobekjaaGQ18
namespace Go.Proofs.Ytmibgfenobekjaa
open Go.ChangeShapes Go.WideShapes Go.ChangeAt Go.RowKit Go.Sort Hp
set_option linter.unusedSimpArgs false
set_option linter.unusedVariables false
set_option maxHeartbeats 8000000 in
set_option maxRecDepth 100000 in
theorem leastBeats_w (A : Option Addr) (n c : Nat) (l : List Ed) (Ai : Option Addr) (m ci : Nat) (ids : List Int) (f q now size by_ : Int) (w : World) (hd : l.length = n) (hi : ids.length = m) (hwf : ∀ q, q < m → (Lit.int .i64 (ids.getD q 0)).wf = true) (hl : Sl w w.heap.size 8 A n c (flatEd l)) (hli : Sl w w.heap.size 1 Ai m ci (ids.map (Value.int .i64))) :
    Calls Try.prog 5 #[.slice A n c, .slice Ai m ci, .int .i64 f, .int .i64 q, .int .i64 now, .int .i64 size, .int .i64 by_] w fun e w' => e = .returned (.bool true) ∧ Below w.heap.size w w' := by
  have HD := Lib.hid hd
  have HI := Lib.hid hi
  have HWF := Lib.hid hwf
  have HL := Lib.hid (fun w' (hb : Below w.heap.size w w') => hl.up hb)
  have HLI := Lib.hid (fun w' (hb : Below w.heap.size w w') => hli.up hb)
  clear hd hi hwf hl hli
  go_enter Try.func5, Try.ntmps5
  go_wp2_with fail
  refine (small17_any w).mono ?_
  rintro e w1 ⟨rfl, hB⟩
  by_cases hG : 30 < n ∨ 20 < m
  · have hG' : (30 < n) ∨ (n ≤ 30 ∧ 20 < m) := by omega
    clear hG
    rcases hG' with g0 | ⟨g0, g1⟩
    all_goals
      go_wp2_with fail
      go_ret
      exact ⟨rfl, hB⟩
  have hn1 : n ≤ 30 := by omega
  have hn2 : m ≤ 20 := by omega
  clear hG
  obtain ⟨or, hor⟩ : ∃ o, bestX l f q now size by_ [] = o := ⟨_, rfl⟩
  obtain ⟨tr, htr⟩ : ∃ t, bestV or = t := ⟨_, rfl⟩
  obtain ⟨Hr, hHr⟩ : ∃ H, bestH or = H := ⟨_, rfl⟩
  obtain ⟨kr, hkr⟩ : ∃ b, or.isSome = b := ⟨_, rfl⟩
  have HOr := Lib.hid hor
  have HTr := Lib.hid htr
  have HHr := Lib.hid hHr
  have HKr := Lib.hid hkr
  clear hor htr hHr hkr
  obtain ⟨p, hp⟩ : ∃ p, routeE l ids f q now size = p := ⟨_, rfl⟩
  obtain ⟨ar, har⟩ : ∃ z, arrO p = z := ⟨_, rfl⟩
  obtain ⟨hs, hhs⟩ : ∃ z, hopsO p = z := ⟨_, rfl⟩
  obtain ⟨is, his⟩ : ∃ b, p.isSome = b := ⟨_, rfl⟩
  have HP := Lib.hid hp
  have HAR := Lib.hid har
  have HHS := Lib.hid hhs
  have HIS := Lib.hid his
  clear hp har hhs his
  go_wp2_with fail
  refine (lroute_v A n c l f q now size by_ none 0 0 [] w1 HD.out (by omega) rfl (by omega) (fun k hk => by omega) (HL.out _ hB) (Sl.nil0 _ _ _) or HOr.out tr HTr.out Hr HHr.out kr HKr.out).mono ?_
  rintro e wk1 ⟨Ar, nr, cr, rfl, hnr, hmr, sr, hb⟩
  replace hB := hB.trans (hb.mono hB.size)
  clear hb
  have HNr := Lib.hid hnr
  clear hnr
  go_wp2_with fail
  have hb : Below wk1.heap.size wk1 (wk1.alloc (.cells #[.slice Ar nr cr, .int .i64 tr] 27)) := (Below.refl _ _).alloc (Nat.le_refl _) _
  have xr := Blok.new wk1 27 #[.slice Ar nr cr, .int .i64 tr]
  obtain ⟨bxr, hbxr⟩ : ∃ q, wk1.heap.size = q := ⟨_, rfl⟩
  have hsxr : (wk1.alloc (.cells #[.slice Ar nr cr, .int .i64 tr] 27)).heap.size = bxr + 1 := by rw [← hbxr]; simp
  replace sr := sr.up hb
  replace hB := hB.trans (hb.mono hB.size)
  clear hb
  generalize wk1.alloc (.cells #[.slice Ar nr cr, .int .i64 tr] 27) = wk2 at *
  rw [hbxr] at xr
  try rw [hbxr]
  clear hbxr
  refine (proute_v A n c l Ai m ci ids f q now size wk2 HD.out (by omega) HI.out (by omega) HWF.out (HL.out _ hB) (HLI.out _ hB) p HP.out hs HHS.out ar HAR.out is HIS.out).mono ?_
  rintro e wk3 ⟨As, ns, cs, rfl, hns, hms, ss, hb⟩
  replace sr := sr.up hb
  replace xr := xr.below hb xr.lt
  replace hB := hB.trans (hb.mono hB.size)
  clear hb
  have HNS := Lib.hid hns
  clear hns
  have hc : is = false ∨ (is = true ∧ by_ < ar) ∨ (is = true ∧ ar ≤ by_) := by cases is with | false => exact .inl rfl | true => by_cases h : by_ < ar <;> simp [h] <;> omega
  rcases hc with rfl | ⟨rfl, hlt⟩ | ⟨rfl, hle⟩
  · go_wp2_with fail
    have hb : Below wk3.heap.size wk3 (wk3.alloc (.cells #[.slice As ns cs, .int .i64 ar] 27)) := (Below.refl _ _).alloc (Nat.le_refl _) _
    have xs := Blok.new wk3 27 #[.slice As ns cs, .int .i64 ar]
    obtain ⟨bxs, hbxs⟩ : ∃ q, wk3.heap.size = q := ⟨_, rfl⟩
    have hsxs : (wk3.alloc (.cells #[.slice As ns cs, .int .i64 ar] 27)).heap.size = bxs + 1 := by rw [← hbxs]; simp
    replace sr := sr.up hb
    replace ss := ss.up hb
    replace xr := xr.below hb xr.lt
    replace hB := hB.trans (hb.mono hB.size)
    clear hb
    generalize wk3.alloc (.cells #[.slice As ns cs, .int .i64 ar] 27) = wk4 at *
    rw [hbxs] at xs
    try rw [hbxs]
    clear hbxs
    go_ret
    exact ⟨rfl, hB⟩
  · go_wp2_with fail
    have hb : Below wk3.heap.size wk3 (wk3.alloc (.cells #[.slice As ns cs, .int .i64 ar] 27)) := (Below.refl _ _).alloc (Nat.le_refl _) _
    have xs := Blok.new wk3 27 #[.slice As ns cs, .int .i64 ar]
    obtain ⟨bxs, hbxs⟩ : ∃ q, wk3.heap.size = q := ⟨_, rfl⟩
    have hsxs : (wk3.alloc (.cells #[.slice As ns cs, .int .i64 ar] 27)).heap.size = bxs + 1 := by rw [← hbxs]; simp
    replace sr := sr.up hb
    replace ss := ss.up hb
    replace xr := xr.below hb xr.lt
    replace hB := hB.trans (hb.mono hB.size)
    clear hb
    generalize wk3.alloc (.cells #[.slice As ns cs, .int .i64 ar] 27) = wk4 at *
    rw [hbxs] at xs
    try rw [hbxs]
    clear hbxs
    go_ret
    exact ⟨rfl, hB⟩
  · obtain ⟨p0, rfl⟩ : ∃ p0, p = some p0 := Option.isSome_iff_exists.1 HIS.out
    obtain ⟨es', hr, hids, hp1, hask, hq⟩ := rte_of_route HP.out
    have hle2 : p0.2 ≤ by_ := by have := HAR.out; have h2 : p0.2 = ar := this; omega
    obtain ⟨H, a, hoe, hz, hz0⟩ := beats_math HOr.out hask hr hle2
    subst hoe
    obtain rfl : tr = a := HTr.out.symm
    obtain rfl : Hr = H := HHr.out.symm
    obtain rfl : kr = true := HKr.out.symm
    have h2 : p0.2 = ar := HAR.out
    have h3 : p0.1 = hs := HHS.out
    rw [← hp1, h2, h3] at hz hz0
    obtain ⟨z, hzz⟩ : ∃ z, cmpR tr Hr ar hs = z := ⟨_, rfl⟩
    rw [hzz] at hz hz0
    have HZ := Lib.hid hzz
    clear hzz h2 h3 hp1 hids hr hask hq hle2
    have hzc : z < 0 ∨ z = 0 := by omega
    rcases hzc with hlt | rfl
    · have hzn : (z != 0) = true := by simp; omega
      clear hz0
      have xr_c0 := (xr.cell 0 : wk3.cell? ⟨bxr, 0, none⟩ = some (.slice Ar nr cr))
      have xr_c1 := (xr.cell 1 : wk3.cell? ⟨bxr, 1, none⟩ = some (.int .i64 tr))
      have xr_lt := xr.lt
      go_wp2_with fail
      try clear xr_c0 xr_c1 xr_lt
      have hb : Below wk3.heap.size wk3 (wk3.alloc (.cells #[.slice As ns cs, .int .i64 ar] 27)) := (Below.refl _ _).alloc (Nat.le_refl _) _
      have xs := Blok.new wk3 27 #[.slice As ns cs, .int .i64 ar]
      obtain ⟨bxs, hbxs⟩ : ∃ q, wk3.heap.size = q := ⟨_, rfl⟩
      have hsxs : (wk3.alloc (.cells #[.slice As ns cs, .int .i64 ar] 27)).heap.size = bxs + 1 := by rw [← hbxs]; simp
      replace sr := sr.up hb
      replace ss := ss.up hb
      replace xr := xr.below hb xr.lt
      replace hB := hB.trans (hb.mono hB.size)
      clear hb
      generalize wk3.alloc (.cells #[.slice As ns cs, .int .i64 ar] 27) = wk4 at *
      rw [hbxs] at xs
      try rw [hbxs]
      clear hbxs
      refine (ocmp_any Ar As nr cr ns cs Hr hs tr ar wk4 HNr.out HNS.out (by omega) (by omega) sr ss z HZ.out).mono ?_
      rintro e wk5 ⟨rfl, hb⟩
      replace sr := sr.up hb
      replace ss := ss.up hb
      replace xr := xr.below hb xr.lt
      replace xs := xs.below hb xs.lt
      replace hB := hB.trans (hb.mono hB.size)
      clear hb
      have xr_c0 := (xr.cell 0 : wk5.cell? ⟨bxr, 0, none⟩ = some (.slice Ar nr cr))
      have xr_c1 := (xr.cell 1 : wk5.cell? ⟨bxr, 1, none⟩ = some (.int .i64 tr))
      have xr_lt := xr.lt
      have xs_c0 := (xs.cell 0 : wk5.cell? ⟨bxs, 0, none⟩ = some (.slice As ns cs))
      have xs_c1 := (xs.cell 1 : wk5.cell? ⟨bxs, 1, none⟩ = some (.int .i64 ar))
      have xs_lt := xs.lt
      go_wp2_with fail
      try clear xr_c0 xr_c1 xr_lt xs_c0 xs_c1 xs_lt
      refine (ocmp_any Ar As nr cr ns cs Hr hs tr ar wk5 HNr.out HNS.out (by omega) (by omega) sr ss z HZ.out).mono ?_
      rintro e wk6 ⟨rfl, hb⟩
      replace sr := sr.up hb
      replace ss := ss.up hb
      replace xr := xr.below hb xr.lt
      replace xs := xs.below hb xs.lt
      replace hB := hB.trans (hb.mono hB.size)
      clear hb
      go_wp2_with fail
      go_ret
      exact ⟨rfl, hB⟩
    · obtain ⟨e1, e2⟩ := hz0 rfl
      have HE1 := Lib.hid e1
      have HE2 := Lib.hid e2
      clear e1 e2 hz0
      have xr_c0 := (xr.cell 0 : wk3.cell? ⟨bxr, 0, none⟩ = some (.slice Ar nr cr))
      have xr_c1 := (xr.cell 1 : wk3.cell? ⟨bxr, 1, none⟩ = some (.int .i64 tr))
      have xr_lt := xr.lt
      go_wp2_with fail
      try clear xr_c0 xr_c1 xr_lt
      have hb : Below wk3.heap.size wk3 (wk3.alloc (.cells #[.slice As ns cs, .int .i64 ar] 27)) := (Below.refl _ _).alloc (Nat.le_refl _) _
      have xs := Blok.new wk3 27 #[.slice As ns cs, .int .i64 ar]
      obtain ⟨bxs, hbxs⟩ : ∃ q, wk3.heap.size = q := ⟨_, rfl⟩
      have hsxs : (wk3.alloc (.cells #[.slice As ns cs, .int .i64 ar] 27)).heap.size = bxs + 1 := by rw [← hbxs]; simp
      replace sr := sr.up hb
      replace ss := ss.up hb
      replace xr := xr.below hb xr.lt
      replace hB := hB.trans (hb.mono hB.size)
      clear hb
      generalize wk3.alloc (.cells #[.slice As ns cs, .int .i64 ar] 27) = wk4 at *
      rw [hbxs] at xs
      try rw [hbxs]
      clear hbxs
      refine (ocmp_any Ar As nr cr ns cs Hr hs tr ar wk4 HNr.out HNS.out (by omega) (by omega) sr ss 0 HZ.out).mono ?_
      rintro e wk5 ⟨rfl, hb⟩
      replace sr := sr.up hb
      replace ss := ss.up hb
      replace xr := xr.below hb xr.lt
      replace xs := xs.below hb xs.lt
      replace hB := hB.trans (hb.mono hB.size)
      clear hb
      have xr_c0 := (xr.cell 0 : wk5.cell? ⟨bxr, 0, none⟩ = some (.slice Ar nr cr))
      have xr_c1 := (xr.cell 1 : wk5.cell? ⟨bxr, 1, none⟩ = some (.int .i64 tr))
      have xr_lt := xr.lt
      have xs_c0 := (xs.cell 0 : wk5.cell? ⟨bxs, 0, none⟩ = some (.slice As ns cs))
      have xs_c1 := (xs.cell 1 : wk5.cell? ⟨bxs, 1, none⟩ = some (.int .i64 ar))
      have xs_lt := xs.lt
      go_wp2_with fail
      try clear xr_c0 xr_c1 xr_lt xs_c0 xs_c1 xs_lt
      refine (ocmp_any Ar As nr cr ns cs Hr hs tr ar wk5 HNr.out HNS.out (by omega) (by omega) sr ss 0 HZ.out).mono ?_
      rintro e wk6 ⟨rfl, hb⟩
      replace sr := sr.up hb
      replace ss := ss.up hb
      replace xr := xr.below hb xr.lt
      replace xs := xs.below hb xs.lt
      replace hB := hB.trans (hb.mono hB.size)
      clear hb
      have xr_c0 := (xr.cell 0 : wk6.cell? ⟨bxr, 0, none⟩ = some (.slice Ar nr cr))
      have xr_c1 := (xr.cell 1 : wk6.cell? ⟨bxr, 1, none⟩ = some (.int .i64 tr))
      have xr_lt := xr.lt
      have xs_c0 := (xs.cell 0 : wk6.cell? ⟨bxs, 0, none⟩ = some (.slice As ns cs))
      have xs_c1 := (xs.cell 1 : wk6.cell? ⟨bxs, 1, none⟩ = some (.int .i64 ar))
      have xs_lt := xs.lt
      go_wp2_with fail
      try clear xr_c0 xr_c1 xr_lt xs_c0 xs_c1 xs_lt
      refine (psame_any Ar As nr cr ns cs Hr hs tr ar wk6 HNr.out HNS.out (by omega) (by omega) sr ss true (by rw [HE1.out, HE2.out]; simp)).mono ?_
      rintro e wk7 ⟨rfl, hb⟩
      replace sr := sr.up hb
      replace ss := ss.up hb
      replace xr := xr.below hb xr.lt
      replace xs := xs.below hb xs.lt
      replace hB := hB.trans (hb.mono hB.size)
      clear hb
      go_wp2_with fail
      go_ret
      exact ⟨rfl, hB⟩
theorem leastBeats_walk (A : Option Addr) (n k : Nat) (ns : List Int) (A' : Option Addr) (n' k' : Nat) (ns' : List Int) (f q now size by_ : Int) (hnl : ns.length = n * 8) (_ : ∀ m ∈ ns, (Lit.int .i64 m).wf = true) (hnl' : ns'.length = n' * 1) (hw' : ∀ m ∈ ns', (Lit.int .i64 m).wf = true) (_ : (Lit.int .i64 f).wf = true) (_ : (Lit.int .i64 q).wf = true) (_ : (Lit.int .i64 now).wf = true) (_ : (Lit.int .i64 size).wf = true) (_ : (Lit.int .i64 by_).wf = true) (w : World) (hl : Sl w w.heap.size 8 A n k (ns.map (Value.int .i64))) (hl' : Sl w w.heap.size 1 A' n' k' (ns'.map (Value.int .i64))) :
    Calls Try.prog 5 #[.slice A n k, .slice A' n' k', .int .i64 f, .int .i64 q, .int .i64 now, .int .i64 size, .int .i64 by_] w fun e w' => e = .returned (.bool true) ∧ Below w.heap.size w w' := by
  obtain ⟨d, hd, hlf⟩ := rowsEd_of n ns hnl
  have hi : ns'.length = n' := by omega
  rw [hlf] at hl
  exact leastBeats_w A n k d A' n' k' ns' f q now size by_ w hd hi (wf_getD hi hw') hl hl'
theorem leastBeats_own : ownKnob Try.prog.godebug = none := by kernel_rfl
theorem leastBeats_laidOut : laidOutB Try.prog = true := by kernel_rfl

set_option maxHeartbeats 1000000 in
set_option maxRecDepth 100000 in
theorem leastBeats_lifted (os : Os) (started : os.Started) (H : Type) (enc : TypeId × Value → H) :
    ReturnsInHanded {} Try.checked os 5 .any (Rows.leastBeatsSpec.pre6 enc Try.prog Try.f5 Rows.leastBeatsRow.domain false) (Rows.leastBeatsSpec.post enc Try.prog Try.f5 false true false false) := by
  refine returnsInHanded_of_change (C := Try.checked) leastBeats_own started (by kernel_rfl) Try.func5
    (ChangeSpec.witness6 (enc := enc) (C := Try.checked) false ⟨#[], #[.slice none 0 0, .slice none 0 0, .int .i64 0, .int .i64 0, .int .i64 0, .int .i64 0, .int .i64 0], []⟩ 8 (by kernel_rfl) (by kernel_rfl) (by kernel_rfl) (by kernel_rfl)) ?_
  intro W base args ds gs before hval0 hW hcnd _
  have hval : ∀ (j : Nat) t v, Try.f5.params[j]? = some t → args[j]? = some v → Value.okWide Try.prog W .any base t v := hval0
  have hW' := hW
  obtain ⟨p, q, hA0, hV, rfl, hfz, hnd⟩ := hW
  have hA : DataW.TrodAll enc Try.prog W 0 (fun _ => true) true Try.f5.params.toList args.toList ds p := hA0
  rw [Try.params5] at hA hval
  obtain ⟨v0, vs0, d0, ds0, p0, q0, hargs, rfl, rfl, h0, r0⟩ := trodAll_cons hA
  obtain ⟨v1, vs1, d1, ds1, p1, q1, rfl, rfl, rfl, h1, r1⟩ := trodAll_cons r0
  obtain ⟨v2, vs2, d2, ds2, p2, q2, rfl, rfl, rfl, h2, r2⟩ := trodAll_cons r1
  obtain ⟨v3, vs3, d3, ds3, p3, q3, rfl, rfl, rfl, h3, r3⟩ := trodAll_cons r2
  obtain ⟨v4, vs4, d4, ds4, p4, q4, rfl, rfl, rfl, h4, r4⟩ := trodAll_cons r3
  obtain ⟨v5, vs5, d5, ds5, p5, q5, rfl, rfl, rfl, h5, r5⟩ := trodAll_cons r4
  obtain ⟨v6, vs6, d6, ds6, p6, q6, rfl, rfl, rfl, h6, r6⟩ := trodAll_cons r5
  obtain ⟨rfl, rfl, rfl⟩ := trodAll_nil r6
  obtain rfl : args = #[v0, v1, v2, v3, v4, v5, v6] := by cases args; simp_all
  obtain ⟨rfl, rfl⟩ := trodVars_none hV
  obtain ⟨A0, n0, c0, ns0, rfl, hl0, nl0, w0⟩ := open_rowsS 4 (K := 8) Try.underlying22 (by kernel_rfl) (by kernel_rfl) (by omega) (hval 0 22 v0 rfl rfl) h0
  obtain ⟨A1, n1, c1, ns1, rfl, hl1, nl1, w1⟩ := open_rowsS 4 (K := 1) Try.underlying23 (by kernel_rfl) (by kernel_rfl) (by omega) (hval 1 23 v1 rfl rfl) h1
  obtain ⟨a2, rfl, rfl, rfl, w2⟩ := open_int Try.underlying3 (hval 2 3 v2 rfl rfl) h2
  obtain ⟨a3, rfl, rfl, rfl, w3⟩ := open_int Try.underlying3 (hval 3 3 v3 rfl rfl) h3
  obtain ⟨a4, rfl, rfl, rfl, w4⟩ := open_int Try.underlying3 (hval 4 3 v4 rfl rfl) h4
  obtain ⟨a5, rfl, rfl, rfl, w5⟩ := open_int Try.underlying3 (hval 5 3 v5 rfl rfl) h5
  obtain ⟨a6, rfl, rfl, rfl, w6⟩ := open_int Try.underlying3 (hval 6 3 v6 rfl rfl) h6
  clear hA0 hval0
  refine (leastBeats_walk A0 n0 c0 ns0 A1 n1 c1 ns1 a2 a3 a4 a5 a6 nl0 w0 nl1 w1 w2 w3 w4 w5 w6 W hl0 hl1).mono fun e W' ⟨he, bel⟩ => ?_
  subst he
  exact ⟨_, rfl, law_post leastBeats_laidOut (by kernel_rfl) rfl Try.underlying4 rfl rfl hW' bel⟩

theorem leastBeats_proved : Rows.LeastBeatsSaid :=
  OpenClaim.holds_of_wide 5 Try.f5 rfl rfl rfl rfl rfl rfl rfl ⟨rfl, rfl, rfl, rfl, rfl⟩ rfl rfl rfl rfl rfl (by kernel_rfl) Try.func5 (by kernel_rfl)
    (of_decide_eq_true (by kernel_rfl)) (by unfold Func.isWrapper; first | (rw [if_pos (by decide +kernel)]; kernel_rfl) | (rw [if_neg (by decide +kernel)]; exact ⟨rfl, rfl⟩))
    (fun os started H enc _ => leastBeats_lifted os started H enc)
#print axioms leastBeats_proved
end Go.Proofs.Ytmibgfenobekjaa
