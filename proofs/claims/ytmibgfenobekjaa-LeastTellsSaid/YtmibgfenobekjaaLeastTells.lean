/- The best route is the document's: LeastTells returns true. No condition. -/
import Derived.Test.YtmibgfenobekjaaRows
import Derived.Test.YtmibgfenobekjaaSmall17
import Derived.Test.YtmibgfenobekjaaLeastLaw
import Derived.Test.YtmibgfenobekjaaGQ19
import Derived.Test.YtmibgfenobekjaaRef17c
namespace Go.Proofs.Ytmibgfenobekjaa
open Go.ChangeShapes Go.WideShapes Go.ChangeAt Go.RowKit Go.Sort Hp
set_option linter.unusedSimpArgs false
set_option linter.unusedVariables false
set_option maxHeartbeats 8000000 in
set_option maxRecDepth 100000 in
theorem leastTells_w (A : Option Addr) (n c : Nat) (l : List Ed) (f q now size by_ : Int) (Ai : Option Addr) (m ci : Nat) (sh : List Int) (w : World) (hd : l.length = n) (hi : sh.length = m) (hwf : ∀ q, q < m → (Lit.int .i64 (sh.getD q 0)).wf = true) (hl : Sl w w.heap.size 8 A n c (flatEd l)) (hli : Sl w w.heap.size 1 Ai m ci (sh.map (Value.int .i64))) :
    Calls Try.prog 3 #[.slice A n c, .int .i64 f, .int .i64 q, .int .i64 now, .int .i64 size, .int .i64 by_, .slice Ai m ci] w fun e w' => e = .returned (.bool true) ∧ Below w.heap.size w w' := by
  have HD := Lib.hid hd
  have HI := Lib.hid hi
  have HWF := Lib.hid hwf
  have HL := Lib.hid (fun w' (hb : Below w.heap.size w w') => hl.up hb)
  have HLI := Lib.hid (fun w' (hb : Below w.heap.size w w') => hli.up hb)
  clear hd hi hwf hl hli
  go_enter Try.func3, Try.ntmps3
  go_wp2_with fail
  refine (small17_any w).mono ?_
  rintro e w1 ⟨rfl, hB⟩
  by_cases hG : 10 < n ∨ 20 < m
  · have hG' : (10 < n) ∨ (n ≤ 10 ∧ 20 < m) := by omega
    clear hG
    rcases hG' with g0 | ⟨g0, g1⟩
    all_goals
      go_wp2_with fail
      go_ret
      exact ⟨rfl, hB⟩
  have hn1 : n ≤ 10 := by omega
  have hn2 : m ≤ 20 := by omega
  clear hG
  obtain ⟨or, hor⟩ : ∃ o, bestX l f q now size by_ sh = o := ⟨_, rfl⟩
  obtain ⟨tr, htr⟩ : ∃ t, bestV or = t := ⟨_, rfl⟩
  obtain ⟨Hr, hHr⟩ : ∃ H, bestH or = H := ⟨_, rfl⟩
  obtain ⟨kr, hkr⟩ : ∃ b, or.isSome = b := ⟨_, rfl⟩
  have HOr := Lib.hid hor
  have HTr := Lib.hid htr
  have HHr := Lib.hid hHr
  have HKr := Lib.hid hkr
  clear hor htr hHr hkr
  obtain ⟨nd, hnd⟩ : ∃ z, (hopsO or).length = z := ⟨_, rfl⟩
  have HND := Lib.hid hnd
  clear hnd
  go_wp2_with fail
  refine (lroute_v A n c l f q now size by_ Ai m ci sh w1 HD.out (by omega) HI.out (by omega) HWF.out (HL.out _ hB) (HLI.out _ hB) or HOr.out tr HTr.out Hr HHr.out kr HKr.out).mono ?_
  rintro e wk1 ⟨Ar, nr, cr, rfl, hnr, hmr, sr, hb⟩
  replace hB := hB.trans (hb.mono hB.size)
  clear hb
  have HNr := Lib.hid hnr
  clear hnr
  go_wp2_with fail
  have hb : Below wk1.heap.size wk1 (wk1.alloc (.cells #[.slice Ar nr cr, .int .i64 tr] 27)) := (Below.refl _ _).alloc (Nat.le_refl _) _
  have xr := Blok.new wk1 27 #[.slice Ar nr cr, .int .i64 tr]
  obtain ⟨bxr, hbxr⟩ : ∃ q, wk1.heap.size = q := ⟨_, rfl⟩
  have hsxr : (wk1.alloc (.cells #[.slice Ar nr cr, .int .i64 tr] 27)).heap.size = bxr + 1 := by rw [← hbxr]; simp
  replace sr := sr.up hb
  replace hB := hB.trans (hb.mono hB.size)
  clear hb
  generalize wk1.alloc (.cells #[.slice Ar nr cr, .int .i64 tr] 27) = wk2 at *
  rw [hbxr] at xr
  try rw [hbxr]
  clear hbxr
  try clear hsxr
  refine (rroute17_any A n c l f q now size by_ Ai m ci sh wk2 HD.out hn1 HI.out (by omega) (HL.out _ hB) (HLI.out _ hB) or HOr.out nd HND.out _ rfl).mono ?_
  rintro e wk3 ⟨As, cs, rfl, ss, hb⟩
  replace sr := sr.up hb
  replace xr := xr.below hb xr.lt
  replace hB := hB.trans (hb.mono hB.size)
  clear hb
  obtain ⟨ar, har⟩ : ∃ z, arrO or = z := ⟨_, rfl⟩
  rw [har, HKr.out]
  have heq : (decide (tr = ar) && decide (Hr = hopsO or)) = true := by
    rw [← har, ← HTr.out, ← HHr.out]
    cases or <;> simp [bestV, bestH, arrO, hopsO]
  have HEQ := Lib.hid heq
  clear har heq
  have hndb : nd ≤ 1000000 := by
    have h1 := HND.out
    have h2 := HHr.out
    have h3 := HNr.out
    have h4 : hopsO or = bestH or := by cases or <;> rfl
    rw [h4, h2, h3] at h1
    omega
  have xr_c0 := (xr.cell 0 : wk3.cell? ⟨bxr, 0, none⟩ = some (.slice Ar nr cr))
  have xr_c1 := (xr.cell 1 : wk3.cell? ⟨bxr, 1, none⟩ = some (.int .i64 tr))
  have xr_lt := xr.lt
  go_wp2_with fail
  try clear xr_c0 xr_c1 xr_lt
  have hb : Below wk3.heap.size wk3 (wk3.alloc (.cells #[.slice As nd cs, .int .i64 ar] 27)) := (Below.refl _ _).alloc (Nat.le_refl _) _
  have xs := Blok.new wk3 27 #[.slice As nd cs, .int .i64 ar]
  obtain ⟨bxs, hbxs⟩ : ∃ q, wk3.heap.size = q := ⟨_, rfl⟩
  have hsxs : (wk3.alloc (.cells #[.slice As nd cs, .int .i64 ar] 27)).heap.size = bxs + 1 := by rw [← hbxs]; simp
  replace sr := sr.up hb
  replace ss := ss.up hb
  replace xr := xr.below hb xr.lt
  replace hB := hB.trans (hb.mono hB.size)
  clear hb
  generalize wk3.alloc (.cells #[.slice As nd cs, .int .i64 ar] 27) = wk4 at *
  rw [hbxs] at xs
  try rw [hbxs]
  clear hbxs
  try clear hsxs
  refine (rsame12_any Ar As nr cr nd cs Hr (hopsO or) tr ar wk4 HNr.out HND.out (by omega) hndb sr ss true HEQ.out).mono ?_
  rintro e wk5 ⟨rfl, hb⟩
  replace sr := sr.up hb
  replace ss := ss.up hb
  replace xr := xr.below hb xr.lt
  replace xs := xs.below hb xs.lt
  replace hB := hB.trans (hb.mono hB.size)
  clear hb
  cases kr with
  | false =>
    go_wp2_with fail
    go_ret
    exact ⟨rfl, hB⟩
  | true =>
    go_wp2_with fail
    go_ret
    exact ⟨rfl, hB⟩
theorem leastTells_walk (A : Option Addr) (n k : Nat) (ns : List Int) (f q now size by_ : Int) (A' : Option Addr) (n' k' : Nat) (ns' : List Int) (hnl : ns.length = n * 8) (_ : ∀ m ∈ ns, (Lit.int .i64 m).wf = true) (_ : (Lit.int .i64 f).wf = true) (_ : (Lit.int .i64 q).wf = true) (_ : (Lit.int .i64 now).wf = true) (_ : (Lit.int .i64 size).wf = true) (_ : (Lit.int .i64 by_).wf = true) (hnl' : ns'.length = n' * 1) (hw' : ∀ m ∈ ns', (Lit.int .i64 m).wf = true) (w : World) (hl : Sl w w.heap.size 8 A n k (ns.map (Value.int .i64))) (hl' : Sl w w.heap.size 1 A' n' k' (ns'.map (Value.int .i64))) :
    Calls Try.prog 3 #[.slice A n k, .int .i64 f, .int .i64 q, .int .i64 now, .int .i64 size, .int .i64 by_, .slice A' n' k'] w fun e w' => e = .returned (.bool true) ∧ Below w.heap.size w w' := by
  obtain ⟨d, hd, hlf⟩ := rowsEd_of n ns hnl
  have hi : ns'.length = n' := by omega
  rw [hlf] at hl
  exact leastTells_w A n k d f q now size by_ A' n' k' ns' w hd hi (wf_getD hi hw') hl hl'
theorem leastTells_own : ownKnob Try.prog.godebug = none := by kernel_rfl
theorem leastTells_laidOut : laidOutB Try.prog = true := by kernel_rfl

set_option maxHeartbeats 1000000 in
set_option maxRecDepth 100000 in
theorem leastTells_lifted (os : Os) (started : os.Started) (H : Type) (enc : TypeId × Value → H) :
    ReturnsInHanded {} Try.checked os 3 .any (Rows.leastTellsSpec.pre6 enc Try.prog Try.f3 Rows.leastTellsRow.domain false) (Rows.leastTellsSpec.post enc Try.prog Try.f3 false true false false) := by
  refine returnsInHanded_of_change (C := Try.checked) leastTells_own started (by kernel_rfl) Try.func3
    (ChangeSpec.witness6 (enc := enc) (C := Try.checked) false ⟨#[], #[.slice none 0 0, .int .i64 0, .int .i64 0, .int .i64 0, .int .i64 0, .int .i64 0, .slice none 0 0], []⟩ 8 (by kernel_rfl) (by kernel_rfl) (by kernel_rfl) (by kernel_rfl)) ?_
  intro W base args ds gs before hval0 hW hcnd _
  have hval : ∀ (j : Nat) t v, Try.f3.params[j]? = some t → args[j]? = some v → Value.okWide Try.prog W .any base t v := hval0
  have hW' := hW
  obtain ⟨p, q, hA0, hV, rfl, hfz, hnd⟩ := hW
  have hA : DataW.TrodAll enc Try.prog W 0 (fun _ => true) true Try.f3.params.toList args.toList ds p := hA0
  rw [Try.params3] at hA hval
  obtain ⟨v0, vs0, d0, ds0, p0, q0, hargs, rfl, rfl, h0, r0⟩ := trodAll_cons hA
  obtain ⟨v1, vs1, d1, ds1, p1, q1, rfl, rfl, rfl, h1, r1⟩ := trodAll_cons r0
  obtain ⟨v2, vs2, d2, ds2, p2, q2, rfl, rfl, rfl, h2, r2⟩ := trodAll_cons r1
  obtain ⟨v3, vs3, d3, ds3, p3, q3, rfl, rfl, rfl, h3, r3⟩ := trodAll_cons r2
  obtain ⟨v4, vs4, d4, ds4, p4, q4, rfl, rfl, rfl, h4, r4⟩ := trodAll_cons r3
  obtain ⟨v5, vs5, d5, ds5, p5, q5, rfl, rfl, rfl, h5, r5⟩ := trodAll_cons r4
  obtain ⟨v6, vs6, d6, ds6, p6, q6, rfl, rfl, rfl, h6, r6⟩ := trodAll_cons r5
  obtain ⟨rfl, rfl, rfl⟩ := trodAll_nil r6
  obtain rfl : args = #[v0, v1, v2, v3, v4, v5, v6] := by cases args; simp_all
  obtain ⟨rfl, rfl⟩ := trodVars_none hV
  obtain ⟨A0, n0, c0, ns0, rfl, hl0, nl0, w0⟩ := open_rowsS 4 (K := 8) Try.underlying22 (by kernel_rfl) (by kernel_rfl) (by omega) (hval 0 22 v0 rfl rfl) h0
  obtain ⟨a1, rfl, rfl, rfl, w1⟩ := open_int Try.underlying3 (hval 1 3 v1 rfl rfl) h1
  obtain ⟨a2, rfl, rfl, rfl, w2⟩ := open_int Try.underlying3 (hval 2 3 v2 rfl rfl) h2
  obtain ⟨a3, rfl, rfl, rfl, w3⟩ := open_int Try.underlying3 (hval 3 3 v3 rfl rfl) h3
  obtain ⟨a4, rfl, rfl, rfl, w4⟩ := open_int Try.underlying3 (hval 4 3 v4 rfl rfl) h4
  obtain ⟨a5, rfl, rfl, rfl, w5⟩ := open_int Try.underlying3 (hval 5 3 v5 rfl rfl) h5
  obtain ⟨A6, n6, c6, ns6, rfl, hl6, nl6, w6⟩ := open_rowsS 4 (K := 1) Try.underlying23 (by kernel_rfl) (by kernel_rfl) (by omega) (hval 6 23 v6 rfl rfl) h6
  clear hA0 hval0
  refine (leastTells_walk A0 n0 c0 ns0 a1 a2 a3 a4 a5 A6 n6 c6 ns6 nl0 w0 w1 w2 w3 w4 w5 nl6 w6 W hl0 hl6).mono fun e W' ⟨he, bel⟩ => ?_
  subst he
  exact ⟨_, rfl, law_post leastTells_laidOut (by kernel_rfl) rfl Try.underlying4 rfl rfl hW' bel⟩

theorem leastTells_proved : Rows.LeastTellsSaid :=
  OpenClaim.holds_of_wide 3 Try.f3 rfl rfl rfl rfl rfl rfl rfl ⟨rfl, rfl, rfl, rfl, rfl⟩ rfl rfl rfl rfl rfl (by kernel_rfl) Try.func3 (by kernel_rfl)
    (of_decide_eq_true (by kernel_rfl)) (by unfold Func.isWrapper; first | (rw [if_pos (by decide +kernel)]; kernel_rfl) | (rw [if_neg (by decide +kernel)]; exact ⟨rfl, rfl⟩))
    (fun os started H enc _ => leastTells_lifted os started H enc)
#print axioms leastTells_proved
end Go.Proofs.Ytmibgfenobekjaa
