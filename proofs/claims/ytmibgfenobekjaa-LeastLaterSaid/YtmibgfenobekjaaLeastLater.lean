/- Who begins later, or is greater, or is to be there earlier, is there no earlier: LeastLater returns true. No condition. -/
import Derived.Test.YtmibgfenobekjaaRows
import Derived.Test.YtmibgfenobekjaaSmall17
import Derived.Test.YtmibgfenobekjaaLeastLaw
import Derived.Test.YtmibgfenobekjaaGQ22
namespace Go.Proofs.Ytmibgfenobekjaa
open Go.ChangeShapes Go.WideShapes Go.ChangeAt Go.RowKit Go.Sort Hp
set_option linter.unusedSimpArgs false
set_option linter.unusedVariables false
set_option maxHeartbeats 8000000 in
set_option maxRecDepth 100000 in
theorem leastLater_w (A : Option Addr) (n c : Nat) (l : List Ed) (f q now later size more by_ sooner : Int) (w : World) (hd : l.length = n) (hl : Sl w w.heap.size 8 A n c (flatEd l)) :
    Calls Try.prog 7 #[.slice A n c, .int .i64 f, .int .i64 q, .int .i64 now, .int .i64 later, .int .i64 size, .int .i64 more, .int .i64 by_, .int .i64 sooner] w fun e w' => e = .returned (.bool true) ∧ Below w.heap.size w w' := by
  have HD := Lib.hid hd
  have HL := Lib.hid (fun w' (hb : Below w.heap.size w w') => hl.up hb)
  clear hd hl
  go_enter Try.func7, Try.ntmps7
  go_wp2_with fail
  refine (small17_any w).mono ?_
  rintro e w1 ⟨rfl, hB⟩
  by_cases hG : 30 < n ∨ now < 0 ∨ later < now ∨ size < 0 ∨ more < size ∨ by_ < sooner
  · have hG' : (30 < n) ∨ (n ≤ 30 ∧ now < 0) ∨ (n ≤ 30 ∧ ¬ now < 0 ∧ later < now) ∨ (n ≤ 30 ∧ ¬ now < 0 ∧ ¬ later < now ∧ size < 0) ∨ (n ≤ 30 ∧ ¬ now < 0 ∧ ¬ later < now ∧ ¬ size < 0 ∧ more < size) ∨ (n ≤ 30 ∧ ¬ now < 0 ∧ ¬ later < now ∧ ¬ size < 0 ∧ ¬ more < size ∧ by_ < sooner) := by omega
    clear hG
    rcases hG' with g0 | ⟨g0, g1⟩ | ⟨g0, g1, g2⟩ | ⟨g0, g1, g2, g3⟩ | ⟨g0, g1, g2, g3, g4⟩ | ⟨g0, g1, g2, g3, g4, g5⟩
    all_goals
      go_wp2_with fail
      go_ret
      exact ⟨rfl, hB⟩
  have hn1 : n ≤ 30 := by omega
  have hn2 : ¬ now < 0 := by omega
  have hn3 : ¬ later < now := by omega
  have hn4 : ¬ size < 0 := by omega
  have hn5 : ¬ more < size := by omega
  have hn6 : ¬ by_ < sooner := by omega
  clear hG
  obtain ⟨or, hor⟩ : ∃ o, bestX l f q now size by_ [] = o := ⟨_, rfl⟩
  obtain ⟨tr, htr⟩ : ∃ t, bestV or = t := ⟨_, rfl⟩
  obtain ⟨Hr, hHr⟩ : ∃ H, bestH or = H := ⟨_, rfl⟩
  obtain ⟨kr, hkr⟩ : ∃ b, or.isSome = b := ⟨_, rfl⟩
  have HOr := Lib.hid hor
  have HTr := Lib.hid htr
  have HHr := Lib.hid hHr
  have HKr := Lib.hid hkr
  clear hor htr hHr hkr
  obtain ⟨os, hos⟩ : ∃ o, bestX l f q later more sooner [] = o := ⟨_, rfl⟩
  obtain ⟨ts, hts⟩ : ∃ t, bestV os = t := ⟨_, rfl⟩
  obtain ⟨Hs, hHs⟩ : ∃ H, bestH os = H := ⟨_, rfl⟩
  obtain ⟨ks, hks⟩ : ∃ b, os.isSome = b := ⟨_, rfl⟩
  have HOs := Lib.hid hos
  have HTs := Lib.hid hts
  have HHs := Lib.hid hHs
  have HKs := Lib.hid hks
  clear hos hts hHs hks
  go_wp2_with fail
  refine (lroute_v A n c l f q now size by_ none 0 0 [] w1 HD.out (by omega) rfl (by omega) (fun k hk => by omega) (HL.out _ hB) (Sl.nil0 _ _ _) or HOr.out tr HTr.out Hr HHr.out kr HKr.out).mono ?_
  rintro e wk1 ⟨Ar, nr, cr, rfl, hnr, hmr, sr, hb⟩
  replace hB := hB.trans (hb.mono hB.size)
  clear hb
  have HNr := Lib.hid hnr
  clear hnr
  go_wp2_with fail
  have hb : Below wk1.heap.size wk1 (wk1.alloc (.cells #[.slice Ar nr cr, .int .i64 tr] 27)) := (Below.refl _ _).alloc (Nat.le_refl _) _
  have xr := Blok.new wk1 27 #[.slice Ar nr cr, .int .i64 tr]
  obtain ⟨bxr, hbxr⟩ : ∃ q, wk1.heap.size = q := ⟨_, rfl⟩
  have hsxr : (wk1.alloc (.cells #[.slice Ar nr cr, .int .i64 tr] 27)).heap.size = bxr + 1 := by rw [← hbxr]; simp
  replace sr := sr.up hb
  replace hB := hB.trans (hb.mono hB.size)
  clear hb
  generalize wk1.alloc (.cells #[.slice Ar nr cr, .int .i64 tr] 27) = wk2 at *
  rw [hbxr] at xr
  try rw [hbxr]
  clear hbxr
  refine (lroute_v A n c l f q later more sooner none 0 0 [] wk2 HD.out (by omega) rfl (by omega) (fun k hk => by omega) (HL.out _ hB) (Sl.nil0 _ _ _) os HOs.out ts HTs.out Hs HHs.out ks HKs.out).mono ?_
  rintro e wk3 ⟨As, ns, cs, rfl, hns, hms, ss, hb⟩
  replace sr := sr.up hb
  replace xr := xr.below hb xr.lt
  replace hB := hB.trans (hb.mono hB.size)
  clear hb
  have HNs := Lib.hid hns
  clear hns
  cases ks with
  | false =>
    go_wp2_with fail
    have hb : Below wk3.heap.size wk3 (wk3.alloc (.cells #[.slice As ns cs, .int .i64 ts] 27)) := (Below.refl _ _).alloc (Nat.le_refl _) _
    have xs := Blok.new wk3 27 #[.slice As ns cs, .int .i64 ts]
    obtain ⟨bxs, hbxs⟩ : ∃ q, wk3.heap.size = q := ⟨_, rfl⟩
    have hsxs : (wk3.alloc (.cells #[.slice As ns cs, .int .i64 ts] 27)).heap.size = bxs + 1 := by rw [← hbxs]; simp
    replace sr := sr.up hb
    replace ss := ss.up hb
    replace xr := xr.below hb xr.lt
    replace hB := hB.trans (hb.mono hB.size)
    clear hb
    generalize wk3.alloc (.cells #[.slice As ns cs, .int .i64 ts] 27) = wk4 at *
    rw [hbxs] at xs
    try rw [hbxs]
    clear hbxs
    go_ret
    exact ⟨rfl, hB⟩
  | true =>
    obtain ⟨p0, rfl⟩ : ∃ p0, os = some p0 := Option.isSome_iff_exists.1 HKs.out
    obtain ⟨H, a, hoe, hle1, hle2⟩ := later_math (by omega) (by omega) (by omega) (by omega) (by omega) HOr.out HOs.out rfl
    subst hoe
    obtain rfl : tr = a := HTr.out.symm
    obtain rfl : kr = true := HKr.out.symm
    have h2 : p0.2 = ts := HTs.out
    rw [h2] at hle1 hle2
    clear h2
    have xr_c0 := (xr.cell 0 : wk3.cell? ⟨bxr, 0, none⟩ = some (.slice Ar nr cr))
    have xr_c1 := (xr.cell 1 : wk3.cell? ⟨bxr, 1, none⟩ = some (.int .i64 tr))
    have xr_lt := xr.lt
    go_wp2_with fail
    try clear xr_c0 xr_c1 xr_lt
    have hb : Below wk3.heap.size wk3 (wk3.alloc (.cells #[.slice As ns cs, .int .i64 ts] 27)) := (Below.refl _ _).alloc (Nat.le_refl _) _
    have xs := Blok.new wk3 27 #[.slice As ns cs, .int .i64 ts]
    obtain ⟨bxs, hbxs⟩ : ∃ q, wk3.heap.size = q := ⟨_, rfl⟩
    have hsxs : (wk3.alloc (.cells #[.slice As ns cs, .int .i64 ts] 27)).heap.size = bxs + 1 := by rw [← hbxs]; simp
    replace sr := sr.up hb
    replace ss := ss.up hb
    replace xr := xr.below hb xr.lt
    replace hB := hB.trans (hb.mono hB.size)
    clear hb
    generalize wk3.alloc (.cells #[.slice As ns cs, .int .i64 ts] 27) = wk4 at *
    rw [hbxs] at xs
    try rw [hbxs]
    clear hbxs
    go_ret
    exact ⟨rfl, hB⟩
theorem leastLater_walk (A : Option Addr) (n k : Nat) (ns : List Int) (f q now later size more by_ sooner : Int) (hnl : ns.length = n * 8) (_ : ∀ m ∈ ns, (Lit.int .i64 m).wf = true) (_ : (Lit.int .i64 f).wf = true) (_ : (Lit.int .i64 q).wf = true) (_ : (Lit.int .i64 now).wf = true) (_ : (Lit.int .i64 later).wf = true) (_ : (Lit.int .i64 size).wf = true) (_ : (Lit.int .i64 more).wf = true) (_ : (Lit.int .i64 by_).wf = true) (_ : (Lit.int .i64 sooner).wf = true) (w : World) (hl : Sl w w.heap.size 8 A n k (ns.map (Value.int .i64))) :
    Calls Try.prog 7 #[.slice A n k, .int .i64 f, .int .i64 q, .int .i64 now, .int .i64 later, .int .i64 size, .int .i64 more, .int .i64 by_, .int .i64 sooner] w fun e w' => e = .returned (.bool true) ∧ Below w.heap.size w w' := by
  obtain ⟨d, hd, hlf⟩ := rowsEd_of n ns hnl
  rw [hlf] at hl
  exact leastLater_w A n k d f q now later size more by_ sooner w hd hl
theorem leastLater_own : ownKnob Try.prog.godebug = none := by kernel_rfl
theorem leastLater_laidOut : laidOutB Try.prog = true := by kernel_rfl

set_option maxHeartbeats 1000000 in
set_option maxRecDepth 100000 in
theorem leastLater_lifted (os : Os) (started : os.Started) (H : Type) (enc : TypeId × Value → H) :
    ReturnsInHanded {} Try.checked os 7 .any (Rows.leastLaterSpec.pre6 enc Try.prog Try.f7 Rows.leastLaterRow.domain false) (Rows.leastLaterSpec.post enc Try.prog Try.f7 false true false false) := by
  refine returnsInHanded_of_change (C := Try.checked) leastLater_own started (by kernel_rfl) Try.func7
    (ChangeSpec.witness6 (enc := enc) (C := Try.checked) false ⟨#[], #[.slice none 0 0, .int .i64 0, .int .i64 0, .int .i64 0, .int .i64 0, .int .i64 0, .int .i64 0, .int .i64 0, .int .i64 0], []⟩ 8 (by kernel_rfl) (by kernel_rfl) (by kernel_rfl) (by kernel_rfl)) ?_
  intro W base args ds gs before hval0 hW hcnd _
  have hval : ∀ (j : Nat) t v, Try.f7.params[j]? = some t → args[j]? = some v → Value.okWide Try.prog W .any base t v := hval0
  have hW' := hW
  obtain ⟨p, q, hA0, hV, rfl, hfz, hnd⟩ := hW
  have hA : DataW.TrodAll enc Try.prog W 0 (fun _ => true) true Try.f7.params.toList args.toList ds p := hA0
  rw [Try.params7] at hA hval
  obtain ⟨v0, vs0, d0, ds0, p0, q0, hargs, rfl, rfl, h0, r0⟩ := trodAll_cons hA
  obtain ⟨v1, vs1, d1, ds1, p1, q1, rfl, rfl, rfl, h1, r1⟩ := trodAll_cons r0
  obtain ⟨v2, vs2, d2, ds2, p2, q2, rfl, rfl, rfl, h2, r2⟩ := trodAll_cons r1
  obtain ⟨v3, vs3, d3, ds3, p3, q3, rfl, rfl, rfl, h3, r3⟩ := trodAll_cons r2
  obtain ⟨v4, vs4, d4, ds4, p4, q4, rfl, rfl, rfl, h4, r4⟩ := trodAll_cons r3
  obtain ⟨v5, vs5, d5, ds5, p5, q5, rfl, rfl, rfl, h5, r5⟩ := trodAll_cons r4
  obtain ⟨v6, vs6, d6, ds6, p6, q6, rfl, rfl, rfl, h6, r6⟩ := trodAll_cons r5
  obtain ⟨v7, vs7, d7, ds7, p7, q7, rfl, rfl, rfl, h7, r7⟩ := trodAll_cons r6
  obtain ⟨v8, vs8, d8, ds8, p8, q8, rfl, rfl, rfl, h8, r8⟩ := trodAll_cons r7
  obtain ⟨rfl, rfl, rfl⟩ := trodAll_nil r8
  obtain rfl : args = #[v0, v1, v2, v3, v4, v5, v6, v7, v8] := by cases args; simp_all
  obtain ⟨rfl, rfl⟩ := trodVars_none hV
  obtain ⟨A0, n0, c0, ns0, rfl, hl0, nl0, w0⟩ := open_rowsS 4 (K := 8) Try.underlying22 (by kernel_rfl) (by kernel_rfl) (by omega) (hval 0 22 v0 rfl rfl) h0
  obtain ⟨a1, rfl, rfl, rfl, w1⟩ := open_int Try.underlying3 (hval 1 3 v1 rfl rfl) h1
  obtain ⟨a2, rfl, rfl, rfl, w2⟩ := open_int Try.underlying3 (hval 2 3 v2 rfl rfl) h2
  obtain ⟨a3, rfl, rfl, rfl, w3⟩ := open_int Try.underlying3 (hval 3 3 v3 rfl rfl) h3
  obtain ⟨a4, rfl, rfl, rfl, w4⟩ := open_int Try.underlying3 (hval 4 3 v4 rfl rfl) h4
  obtain ⟨a5, rfl, rfl, rfl, w5⟩ := open_int Try.underlying3 (hval 5 3 v5 rfl rfl) h5
  obtain ⟨a6, rfl, rfl, rfl, w6⟩ := open_int Try.underlying3 (hval 6 3 v6 rfl rfl) h6
  obtain ⟨a7, rfl, rfl, rfl, w7⟩ := open_int Try.underlying3 (hval 7 3 v7 rfl rfl) h7
  obtain ⟨a8, rfl, rfl, rfl, w8⟩ := open_int Try.underlying3 (hval 8 3 v8 rfl rfl) h8
  clear hA0 hval0
  refine (leastLater_walk A0 n0 c0 ns0 a1 a2 a3 a4 a5 a6 a7 a8 nl0 w0 w1 w2 w3 w4 w5 w6 w7 w8 W hl0).mono fun e W' ⟨he, bel⟩ => ?_
  subst he
  exact ⟨_, rfl, law_post leastLater_laidOut (by kernel_rfl) rfl Try.underlying4 rfl rfl hW' bel⟩

theorem leastLater_proved : Rows.LeastLaterSaid :=
  OpenClaim.holds_of_wide 7 Try.f7 rfl rfl rfl rfl rfl rfl rfl ⟨rfl, rfl, rfl, rfl, rfl⟩ rfl rfl rfl rfl rfl (by kernel_rfl) Try.func7 (by kernel_rfl)
    (of_decide_eq_true (by kernel_rfl)) (by unfold Func.isWrapper; first | (rw [if_pos (by decide +kernel)]; kernel_rfl) | (rw [if_neg (by decide +kernel)]; exact ⟨rfl, rfl⟩))
    (fun os started H enc _ => leastLater_lifted os started H enc)
#print axioms leastLater_proved
end Go.Proofs.Ytmibgfenobekjaa
