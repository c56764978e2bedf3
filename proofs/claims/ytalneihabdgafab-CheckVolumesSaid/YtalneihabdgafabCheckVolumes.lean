/- Volumes are from 1 to less than 2^62, and grow with the rate and the time: CheckVolumes returns true for every contact. No condition. -/
import Derived.Test.YtalneihabdgafabRows
import Derived.Test.YtalneihabdgafabSmall03
namespace Go.Proofs.Ytalneihabdgafab
open Go.ChangeShapes Go.WideShapes Go.ChangeAt Go.RowKit Go.Sort
set_option linter.unusedVariables false
set_option linter.unusedSimpArgs false

set_option maxHeartbeats 4000000 in
set_option maxRecDepth 100000 in
theorem checkVolumes_walk (id fr tn st en ra : Int) (hc : ∀ m ∈ [id, fr, tn, st, en, ra], (Lit.int .i64 m).wf = true) (w : World) :
    Calls Try.prog 3 #[.agg #[.int .i64 id, .int .i64 fr, .int .i64 tn, .int .i64 st, .int .i64 en, .int .i64 ra]] w
      fun e w' => e = .returned (.bool true) ∧ Below w.heap.size w w' := by
  clear hc
  by_cases hC : contactB id fr tn st en ra = true
  · have hs := contactB_spec.1 hC
    have hb := volume_bounds hC
    obtain ⟨v, hv⟩ : ∃ v, v = ra * (en - st) := ⟨_, rfl⟩
    rw [← hv] at hb
    have hvol : volumeF id fr tn st en ra = v := by rw [volumeF, if_pos hC, hv]
    have hq : v / ra = en - st := by rw [hv, Int.mul_ediv_cancel_left _ (by omega)]
    obtain ⟨m, hm⟩ : ∃ m, volumeF id fr tn st en (ra + 1) = m := ⟨_, rfl⟩
    obtain ⟨l, hl⟩ : ∃ l, volumeF id fr tn st (en + 1) ra = l := ⟨_, rfl⟩
    have hmore : contactB id fr tn st en (ra + 1) = false ∨ contactB id fr tn st en (ra + 1) = true ∧ m - v = en - st := by
      by_cases h : contactB id fr tn st en (ra + 1) = true
      · refine .inr ⟨h, ?_⟩
        rw [← hm, volumeF, if_pos h, hv, Int.add_mul]
        omega
      · exact .inl (by simpa using h)
    have hlong : contactB id fr tn st (en + 1) ra = false ∨ contactB id fr tn st (en + 1) ra = true ∧ l - v = ra := by
      by_cases h : contactB id fr tn st (en + 1) ra = true
      · refine .inr ⟨h, ?_⟩
        rw [← hl, volumeF, if_pos h, hv, show en + 1 - st = (en - st) + 1 by omega, Int.mul_add]
        omega
      · exact .inl (by simpa using h)
    have hmb : 0 ≤ m ∧ m ≤ 4611686014132420609 := by
      rw [← hm, volumeF]
      split
      · rename_i h; have := volume_bounds h; omega
      · omega
    have hlb : 0 ≤ l ∧ l ≤ 4611686014132420609 := by
      rw [← hl, volumeF]
      split
      · rename_i h; have := volume_bounds h; omega
      · omega
    obtain ⟨hb1, hb2⟩ := hb
    obtain ⟨hm1, hm2⟩ := hmb
    obtain ⟨hl1, hl2⟩ := hlb
    obtain ⟨⟨i1, i2⟩, ⟨f1, f2⟩, ⟨t1, t2⟩, _, s1, s2, s3, s4, s5⟩ := hs
    have HC := Lib.hid hC
    have HQ := Lib.hid hq
    have HV := Lib.hid hvol
    have HM := Lib.hid hm
    have HL := Lib.hid hl
    have HMORE := Lib.hid hmore
    have HLONG := Lib.hid hlong
    clear hC hv hvol hq hm hl hmore hlong i1 i2 f1 f2 t1 t2
    go_enter Try.func3, Try.ntmps3
    go_upto_region 11 with fail
    refine (small03 _).mono ?_
    rintro e w0 ⟨rfl, hB0⟩
    obtain ⟨hc0, hf0⟩ := bcell hB0
    have hz0 := hB0.size
    simp only [World.size_alloc] at hz0
    have hl0_0 : w.heap.size < w0.heap.size := by omega
    have hl0_1 : w.heap.size < w0.heap.size + 1 := by omega
    have hl0_2 : w.heap.size < w0.heap.size + 1 + 1 := by omega
    have hl0_3 : w.heap.size < w0.heap.size + 1 + 1 + 1 := by omega
    go_upto_region 11 with fail
    (with_reducible refine Calls.mono (volume_is v HV.out _) ?_)
    rintro e w1 ⟨rfl, hB⟩
    obtain ⟨hc, hf⟩ := bcell hB
    go_upto_region 11 with fail
    (with_reducible refine Calls.mono (contact_is true HC.out _) ?_)
    rintro e w2 ⟨rfl, hb⟩
    replace hB := hB.trans (hb.mono hB.size)
    clear hb hc hf
    obtain ⟨hc, hf⟩ := bcell hB
    have hz2 := hB.size
    have hm0_0 : w.heap.size < w2.heap.size := by omega
    have hm0_1 : w.heap.size < w2.heap.size + 1 := by omega
    have hm0_2 : w.heap.size < w2.heap.size + 1 + 1 := by omega
    have hm0_3 : w.heap.size < w2.heap.size + 1 + 1 + 1 := by omega
    go_upto_region 11 with fail
    (with_reducible refine Calls.mono (volume_is m HM.out _) ?_)
    rintro e w3 ⟨rfl, hB3⟩
    obtain ⟨hc3, hf3⟩ := bcell hB3
    have hz3 := hB3.size
    simp only [World.size_alloc] at hz3
    go_upto_region 11 with fail
    (with_reducible refine Calls.mono (volume_is l HL.out _) ?_)
    rintro e w4 ⟨rfl, hb⟩
    replace hB3 := hB3.trans (hb.mono hB3.size)
    clear hb hc3 hf3 hz3
    obtain ⟨hc3, hf3⟩ := bcell hB3
    have hz3 := hB3.size
    simp only [World.size_alloc] at hz3
    go_upto_region 11 with fail
    refine name_wp (fun W hW => ?_)
    have hp0 : ∀ o, W.cell? ⟨w.heap.size, o, none⟩ = (#[Value.int .i64 id, .int .i64 fr, .int .i64 tn, .int .i64 st, .int .i64 en, .int .i64 ra] : Array Value)[o]? := by
      intro o
      rw [hW, hc3 _ _ (by simp only [World.size_alloc]; omega)]
      simp only [cell_alloc_if, World.size_alloc]
      repeat (first | rw [if_neg (by omega)])
      rw [hc _ _ (by omega), hc0 _ _ (by simp only [World.size_alloc]; omega)]
      simp only [cell_alloc_if, World.size_alloc]
      repeat (first | rw [if_pos (by omega)] | rw [if_pos trivial])
    have hk0 : ∀ o, W.cell? ⟨w2.heap.size, o, none⟩ = (#[Value.int .i64 (id), Value.int .i64 (fr), Value.int .i64 (tn), Value.int .i64 (st), Value.int .i64 (en), Value.int .i64 (ra + 1)] : Array Value)[o]? := by
      intro o
      rw [hW, hc3 _ _ (by simp only [World.size_alloc]; omega)]
      simp only [cell_alloc_if, World.size_alloc]
      repeat (first | rw [if_neg (by omega)] | rw [if_pos (by omega)] | rw [if_pos trivial])
    have hk1 : ∀ o, W.cell? ⟨w2.heap.size + 1, o, none⟩ = (#[Value.int .i64 (id), Value.int .i64 (fr), Value.int .i64 (tn), Value.int .i64 (st), Value.int .i64 (en + 1), Value.int .i64 (ra)] : Array Value)[o]? := by
      intro o
      rw [hW, hc3 _ _ (by simp only [World.size_alloc]; omega)]
      simp only [cell_alloc_if, World.size_alloc]
      repeat (first | rw [if_neg (by omega)] | rw [if_pos (by omega)] | rw [if_pos trivial])
    have hWB : Below w.heap.size w W := by rw [hW]; (repeat (first | exact Below.refl _ _ | exact hB3 | exact hB | exact hB0 | refine Below.alloc ?_ (by first | omega | (simp; done) | (simp; omega)) _ | refine Below.setCell ?_ (by first | omega | (simp; done) | (simp; omega)) _ | refine Below.drew ?_ | refine Below.trans ?_ (hB3.mono (by first | omega | (simp; done) | (simp; omega))) | refine Below.trans ?_ (hB.mono (by first | omega | (simp; done) | (simp; omega))) | refine Below.trans ?_ (hB0.mono (by first | omega | (simp; done) | (simp; omega)))))
    have hl0 : w.heap.size < W.heap.size := by rw [hW]; omega
    have hl1 : w2.heap.size < W.heap.size := by rw [hW]; omega
    have hl2 : w2.heap.size + 1 < W.heap.size := by rw [hW]; omega
    have HB := Lib.hid hWB
    clear hW hWB hB0 hc0 hf0 hB hc hf hB3 hc3 hf3 hz0 hz2 hz3
    have hg := below_regrown W
    have hqc := grown_cells W
    have hd1 : decide (1 ≤ v) = true := by simp; omega
    have hd2 : decide (v < 4611686018427387904) = true := by simp; omega
    have hd3 := HQ.out
    rcases HMORE.out with h6 | ⟨h6, h7⟩ <;> rcases HLONG.out with h8 | ⟨h8, h9⟩
    all_goals
      clear HMORE HLONG
      try simp only [List.append]
      refine wp_region_quiet_below (by kernel_rfl) (by kernel_rfl) ?_
      repeat (go_big_quiet_step (first | (go_at_call 8; first | with_reducible exact Calls.regrown_of (contact_is false h6 _) | with_reducible exact Calls.regrown_of (contact_is true h6 _) | with_reducible exact Calls.regrown_of (contact_is false h8 _) | with_reducible exact Calls.regrown_of (contact_is true h8 _))))
      refine wpQuiet_nil ?_
      intro _ hqw
      obtain ⟨pq, hqw⟩ := hqw
      subst hqw
      go_wp2
      go_ret
      exact ⟨rfl, HB.out.trans ((hg _ _).mono HB.out.size)⟩
  · have hC' : contactB id fr tn st en ra = false := by simpa using hC
    have hvol : volumeF id fr tn st en ra = 0 := by rw [volumeF, if_neg hC]
    have HC := Lib.hid hC'
    have HV := Lib.hid hvol
    clear hC hC' hvol
    go_enter Try.func3, Try.ntmps3
    go_wp2_with fail
    refine (small03 _).mono ?_
    rintro e w0 ⟨rfl, hB0⟩
    obtain ⟨hc0, hf0⟩ := bcell hB0
    have hz0 := hB0.size
    simp only [World.size_alloc] at hz0
    have hl0_0 : w.heap.size < w0.heap.size := by omega
    have hl0_1 : w.heap.size < w0.heap.size + 1 := by omega
    have hl0_2 : w.heap.size < w0.heap.size + 1 + 1 := by omega
    have hl0_3 : w.heap.size < w0.heap.size + 1 + 1 + 1 := by omega
    go_wp2_with fail
    (with_reducible refine Calls.mono (volume_is 0 HV.out _) ?_)
    rintro e w1 ⟨rfl, hB⟩
    obtain ⟨hc, hf⟩ := bcell hB
    go_wp2_with fail
    (with_reducible refine Calls.mono (contact_is false HC.out _) ?_)
    rintro e w2 ⟨rfl, hb⟩
    replace hB := hB.trans (hb.mono hB.size)
    clear hb hc hf
    go_wp2
    go_ret
    exact ⟨rfl, by (repeat (first | exact Below.refl _ _ | exact hB | exact hB0 | refine Below.alloc ?_ (by first | omega | (simp; done) | (simp; omega)) _ | refine Below.setCell ?_ (by first | omega | (simp; done) | (simp; omega)) _ | refine Below.drew ?_ | refine Below.trans ?_ (hB.mono (by first | omega | (simp; done) | (simp; omega))) | refine Below.trans ?_ (hB0.mono (by first | omega | (simp; done) | (simp; omega)))))⟩
theorem checkVolumes_own : ownKnob Try.prog.godebug = none := by kernel_rfl
theorem checkVolumes_laidOut : laidOutB Try.prog = true := by kernel_rfl

set_option maxHeartbeats 1000000 in
set_option maxRecDepth 100000 in
theorem checkVolumes_lifted (os : Os) (started : os.Started) (H : Type) (enc : TypeId × Value → H) :
    ReturnsInHanded {} Try.checked os 3 .any (Rows.checkVolumesSpec.pre6 enc Try.prog Try.f3 Rows.checkVolumesRow.domain false) (Rows.checkVolumesSpec.post enc Try.prog Try.f3 false true false false) := by
  refine returnsInHanded_of_change (C := Try.checked) checkVolumes_own started (by kernel_rfl) Try.func3
    (ChangeSpec.witness6 (enc := enc) (C := Try.checked) false ⟨#[], #[.agg #[.int .i64 0, .int .i64 0, .int .i64 0, .int .i64 0, .int .i64 0, .int .i64 0]], []⟩ 8 (by kernel_rfl) (by kernel_rfl) (by kernel_rfl) (by kernel_rfl)) ?_
  intro W base args ds gs before hval0 hW hcnd _
  have hval : ∀ (j : Nat) t v, Try.f3.params[j]? = some t → args[j]? = some v → Value.okWide Try.prog W .any base t v := hval0
  have hW' := hW
  obtain ⟨p, q, hA0, hV, rfl, hfz, hnd⟩ := hW
  have hA : DataW.TrodAll enc Try.prog W 0 (fun _ => true) true Try.f3.params.toList args.toList ds p := hA0
  rw [Try.params3] at hA hval
  obtain ⟨v0, vs0, d0, ds0, p0, q0, hargs, rfl, rfl, h0, r0⟩ := trodAll_cons hA
  obtain ⟨rfl, rfl, rfl⟩ := trodAll_nil r0
  obtain rfl : args = #[v0] := by cases args; simp_all
  obtain ⟨rfl, rfl⟩ := trodVars_none hV
  obtain ⟨n0, e0, l0, w0⟩ := open_flat 4 Try.underlying23 (by kernel_rfl) (hval 0 23 v0 rfl rfl) h0
  obtain ⟨a0_0, a0_1, a0_2, a0_3, a0_4, a0_5, rfl⟩ : ∃ a0_0 a0_1 a0_2 a0_3 a0_4 a0_5 : Int, n0 = [a0_0, a0_1, a0_2, a0_3, a0_4, a0_5] := by
    rw [show Try.prog.cellsOf 23 = 6 by kernel_rfl] at l0
    match n0, l0 with
    | [a0_0, a0_1, a0_2, a0_3, a0_4, a0_5], _ => exact ⟨_, _, _, _, _, _, rfl⟩
  obtain rfl : v0 = .agg #[.int .i64 a0_0, .int .i64 a0_1, .int .i64 a0_2, .int .i64 a0_3, .int .i64 a0_4, .int .i64 a0_5] := e0
  clear hA0 hval0
  refine (checkVolumes_walk a0_0 a0_1 a0_2 a0_3 a0_4 a0_5 w0 W).mono fun e W' ⟨he, bel⟩ => ?_
  subst he
  exact ⟨_, rfl, law_post checkVolumes_laidOut (by kernel_rfl) rfl Try.underlying4 rfl rfl hW' bel⟩

theorem checkVolumes_proved : Rows.CheckVolumesSaid :=
  OpenClaim.holds_of_wide 3 Try.f3 rfl rfl rfl rfl rfl rfl rfl ⟨rfl, rfl, rfl, rfl, rfl⟩ rfl rfl rfl rfl rfl (by kernel_rfl) Try.func3 (by kernel_rfl)
    (of_decide_eq_true (by kernel_rfl)) (by unfold Func.isWrapper; first | (rw [if_pos (by decide +kernel)]; kernel_rfl) | (rw [if_neg (by decide +kernel)]; exact ⟨rfl, rfl⟩))
    (fun os started H enc _ => checkVolumes_lifted os started H enc)
#print axioms checkVolumes_proved
end Go.Proofs.Ytalneihabdgafab
