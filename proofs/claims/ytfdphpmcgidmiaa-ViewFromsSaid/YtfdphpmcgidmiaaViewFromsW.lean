/- Each edge is from one node, and is found there. No condition. -/
import Derived.Test.YtfdphpmcgidmiaaW5
import Derived.Test.YtfdphpmcgidmiaaRows
namespace Go.Proofs.Ytfdphpmcgidmiaa
open Go.ChangeShapes Go.WideShapes Go.ChangeAt Go.RowKit Go.Sort
set_option linter.unusedSimpArgs false
set_option linter.unusedVariables false
theorem small11 (w : World) : Calls Try.prog 8 #[] w fun e w' => e = .returned (.bool true) ∧ Below w.heap.size w w' := small11_of sortEd_any w
def cntE (d : List Ed) (q : Int) (i : Nat) : Nat := ((d.take i).filter (fun e => e.fr == q)).length
theorem cntE_no {d : List Ed} {q : Int} {i : Nat} (hi : i < d.length) (h : (gEd d i).fr ≠ q) : cntE d q (i + 1) = cntE d q i := by
  unfold cntE
  rw [take_snocEd hi, List.filter_append]
  simp [h]
theorem cntE_yes {d : List Ed} {q : Int} {i : Nat} (hi : i < d.length) (h : (gEd d i).fr = q) : cntE d q (i + 1) = cntE d q i + 1 := by
  unfold cntE
  rw [take_snocEd hi, List.filter_append]
  simp [h]
theorem cntE_all {d : List Ed} {q : Int} {n : Nat} (hn : d.length = n) : cntE d q n = (d.filter (fun e => e.fr == q)).length := by
  unfold cntE
  rw [List.take_of_length_le (by omega)]
theorem cntE_at {d m : List Ed} {q : Int} {i : Nat} (hi : i < d.length) (hm : d.filter (fun e => e.fr == q) = m) (h : (gEd d i).fr = q) : cntE d q i < m.length ∧ gEd m (cntE d q i) = gEd d i := by
  have e : d = d.take i ++ (gEd d i :: d.drop (i + 1)) := by
    rw [gEd_eq hi]
    have := List.take_append_drop i d
    rw [List.drop_eq_getElem_cons hi] at this
    exact this.symm
  have e2 : m = (d.take i).filter (fun e => e.fr == q) ++ (gEd d i :: (d.drop (i + 1)).filter (fun e => e.fr == q)) := by
    rw [← hm]
    conv => lhs; rw [e]
    rw [List.filter_append, List.filter_cons_of_pos (by simpa using h)]
  have hl : cntE d q i < m.length := by
    rw [e2, List.length_append]
    unfold cntE
    simp
  refine ⟨hl, ?_⟩
  rw [gEd_eq hl]
  have : m[cntE d q i]? = some (gEd d i) := by
    rw [e2]
    unfold cntE
    simp
  rw [List.getElem?_eq_getElem hl] at this
  exact Option.some.inj this
set_option maxHeartbeats 8000000 in
set_option maxRecDepth 100000 in
theorem viewFroms_w (A : Option Addr) (n c : Nat) (d : List Ed) (q : Int) (hd : d.length = n) (w : World) (hl : Sl w w.heap.size 8 A n c (flatEd d)) :
    Calls Try.prog 6 #[.slice A n c, .int .i64 q] w fun e w' => e = .returned (.bool true) ∧ Below w.heap.size w w' := by
  by_cases hn : 50 < n
  · go_enter Try.func6, Try.ntmps6
    go_wp2_with fail
    refine (small11 _).mono ?_
    rintro e w1 ⟨rfl, hB⟩
    go_wp2
    go_ret
    exact ⟨rfl, hB⟩
  · have hn1 : n ≤ 50 := by omega
    clear hn
    have g1 : decide ((n : Int) > 50) = false := decide_eq_false (by omega)
    obtain ⟨m, hm⟩ : ∃ m, d.filter (fun e => e.fr == q) = m := ⟨_, rfl⟩
    have HD := Lib.hid hd
    have HM := Lib.hid hm
    clear hd hm
    go_enter Try.func6, Try.ntmps6
    go_wp2_with fail
    refine (small11 _).mono ?_
    rintro e w1 ⟨rfl, hB⟩
    replace hl := hl.up hB
    have hs := hB.size
    go_wp2_with fail
    refine (vfrom_any A n c d q w1 HD.out (by omega) hl m HM.out).mono ?_
    rintro e w2 ⟨v, rfl, hv, hb⟩
    replace hl := hl.up hb
    replace hB := hB.trans (hb.mono hs)
    replace hs := hB.size
    clear hb g1
    have hmn : m.length ≤ n := by rw [← HM.out, ← HD.out]; exact List.length_filter_le _ _
    obtain ⟨k0, hk0⟩ : ∃ k0, m.length = k0 := ⟨_, rfl⟩
    rw [hk0] at hv hmn
    obtain ⟨Am, cm, rfl⟩ := slice_of_own hv
    have HV := Lib.hid (Sl.of_own hv)
    have HL := Lib.hid hl
    have HK := Lib.hid hk0
    have HB := Lib.hid hB
    clear hv hl hk0 hB
    go_wp2_with fail
    go_loopw [7, 8] (fun kv iv wr => ∃ (i k : Nat), kv = .int .i64 k ∧ iv = .int .i64 i ∧ i ≤ n ∧ Hid (cntE d q i = k) ∧ k ≤ n ∧ Below w2.heap.size w2 wr) (fun kv iv _ => n - (intOf iv).toNat)
    case atStart => exact ⟨0, 0, rfl, rfl, by omega, rfl, by omega, Below.refl _ _⟩
    case round =>
      obtain ⟨i, k, rfl, rfl, hi, HC, hkn, hb⟩ := hrel
      by_cases hin : i < n
      · obtain ⟨ad, rfl, hab, c0, c1, c2, c3, c4, c5, c6, c7⟩ := (HL.out.up hb).lst.atEd HD.out hin
        obtain ⟨x, hx⟩ : ∃ x, gEd d i = x := ⟨_, rfl⟩
        rw [hx] at c0 c1 c2 c3 c4 c5 c6 c7
        have HX := Lib.hid hx
        clear hx
        by_cases hfr : x.fr = q
        · obtain ⟨hkm, hmk⟩ := cntE_at (by rw [HD.out]; exact hin) HM.out (by rw [HX.out]; exact hfr)
          have hct := cntE_yes (q := q) (by rw [HD.out]; exact hin) (by rw [HX.out]; exact hfr)
          rw [HC.out] at hkm hmk hct
          rw [HX.out] at hmk
          have hkk : k < k0 := by rw [← HK.out]; exact hkm
          obtain ⟨ae, rfl, hae, e0, e1, e2, e3, e4, e5, e6, e7⟩ := (HV.out.up hb).lst.atEd HK.out hkk
          rw [hmk] at e0 e1 e2 e3 e4 e5 e6 e7
          have HCT := Lib.hid hct
          have g1 : (x.fr != q) = false := by simp [hfr]
          have g2 : decide (k0 ≤ k) = false := decide_eq_false (by omega)
          have hrun : ∀ w0, (binOp .neq 34 (.agg #[.int .i64 x.id, .int .i64 x.fr, .int .i64 x.tn, .int .i64 x.op, .int .i64 x.en, .int .i64 x.ra, .int .i64 x.ow, .int .i64 x.ro]) (.agg #[.int .i64 x.id, .int .i64 x.fr, .int .i64 x.tn, .int .i64 x.op, .int .i64 x.en, .int .i64 x.ra, .int .i64 x.ow, .int .i64 x.ro])).run Try.prog w0 = .ok (.bool false) w0 := fun w0 => by rw [neqEd]; simp
          clear hkm hmk hct hfr
          go_wp2_with fail
          have q_c0 := fun d os => cell_regrown c0 d os
          have q_c1 := fun d os => cell_regrown c1 d os
          have q_c2 := fun d os => cell_regrown c2 d os
          have q_c3 := fun d os => cell_regrown c3 d os
          have q_c4 := fun d os => cell_regrown c4 d os
          have q_c5 := fun d os => cell_regrown c5 d os
          have q_c6 := fun d os => cell_regrown c6 d os
          have q_c7 := fun d os => cell_regrown c7 d os
          have q_e0 := fun d os => cell_regrown e0 d os
          have q_e1 := fun d os => cell_regrown e1 d os
          have q_e2 := fun d os => cell_regrown e2 d os
          have q_e3 := fun d os => cell_regrown e3 d os
          have q_e4 := fun d os => cell_regrown e4 d os
          have q_e5 := fun d os => cell_regrown e5 d os
          have q_e6 := fun d os => cell_regrown e6 d os
          have q_e7 := fun d os => cell_regrown e7 d os
          try simp only [List.append]
          first | refine wp_region_text_below ?_ | refine wp_region_quiet_below (by kernel_rfl) (by kernel_rfl) ?_
          repeat (go_big_quiet_step ((fail)))
          refine wpQuiet_nil ?_
          intro _ hqw
          obtain ⟨pq, hqw⟩ := hqw
          subst hqw
          clear q_c0 q_c1 q_c2 q_c3 q_c4 q_c5 q_c6 q_c7 q_e0 q_e1 q_e2 q_e3 q_e4 q_e5 q_e6 q_e7
          have hbq := hb.trans ((below_regrown wr pq.d pq.os).mono hb.size)
          clear c0 c1 c2 c3 c4 c5 c6 c7 e0 e1 e2 e3 e4 e5 e6 e7 g1 g2 hrun hb
          generalize grow (redrawn wr pq.d) pq.os = wq at *
          go_wp2_with fail
          go_roundw
          case rel => exact ⟨i + 1, k + 1, by go_num, by go_num, by omega, HCT.out, by omega, hbq⟩
          case measure => simp [intOf]; omega
        · have hct := cntE_no (q := q) (by rw [HD.out]; exact hin) (by rw [HX.out]; exact hfr)
          rw [HC.out] at hct
          have HCT := Lib.hid hct
          have g1 : (x.fr != q) = true := by simp [hfr]
          clear hct hfr
          go_wp2_with fail
          go_roundw
          case rel => exact ⟨i + 1, k, rfl, by go_num, by omega, HCT.out, by omega, hb⟩
          case measure => simp [intOf]; omega
      · obtain rfl : i = n := by omega
        obtain ⟨w3, hw3⟩ : ∃ w3, w3 = wr := ⟨_, rfl⟩
        subst hw3
        have hkk : k = k0 := by rw [← HC.out, cntE_all HD.out, HM.out]; exact HK.out
        subst hkk
        have hs2 := hb.size
        have HL3 := Lib.hid (HL.out.up hb)
        have HB3 := Lib.hid (HB.out.trans (hb.mono hs))
        clear hb HL HB hs hs2 HC hin hi hkn
        go_wp2_with fail
        go_loopw [9] (fun jv wz => ∃ (j : Nat), jv = .int .i64 j ∧ j ≤ i ∧ Below w3.heap.size w3 wz) (fun jv _ => i - (intOf jv).toNat)
        case atStart => exact ⟨0, rfl, by omega, Below.refl _ _⟩
        case round =>
          obtain ⟨j, rfl, hj, hb⟩ := hrel
          by_cases hji : j < i
          · have HLz := Lib.hid (HL3.out.up hb)
            obtain ⟨ad, rfl, hab, c0, c1, c2, c3, c4, c5, c6, c7⟩ := HLz.out.lst.atEd HD.out hji
            obtain ⟨x, hx⟩ : ∃ x, gEd d j = x := ⟨_, rfl⟩
            rw [hx] at c0 c1 c2 c3 c4 c5 c6 c7
            have hsome : (findE d x.id).isSome = true := by
              rw [← hx]
              cases hf : findE d (gEd d j).id with
              | some _ => rfl
              | none => exact absurd rfl (findE_no hf (j := j) (by rw [HD.out]; exact hji))
            obtain ⟨y, hy⟩ : ∃ y, (findE d x.id).getD zeroEd = y := ⟨_, rfl⟩
            have hyx : y.id = x.id := by
              rw [← hy]
              cases hf : findE d x.id with
              | some z => exact (findE_some hf).2
              | none => rw [hf] at hsome; cases hsome
            have HFI := Lib.hid (fun (w' : World) (h : Sl w' w'.heap.size 8 (some ad) i c (flatEd d)) => vfind_any (some ad) i c d x.id w' HD.out (by omega) h y true hy hsome)
            have HYX := Lib.hid hyx
            clear hx hy hsome hyx c1 c2 c3 c4 c5 c6 c7
            go_wp2_with fail
            refine (HFI.out wr HLz.out).mono ?_
            rintro e w4 ⟨rfl, hb4⟩
            have hbx := hb.trans (hb4.mono hb.size)
            have hs4 := hbx.size
            have c0' := (hb4.cell (block_lt_of_cell c0)).trans c0
            clear hb hb4 c0 HFI HLz
            go_upto_region 17 with fail
            have hYb := Blok.new w4 34 #[.int .i64 y.id, .int .i64 y.fr, .int .i64 y.tn, .int .i64 y.op, .int .i64 y.en, .int .i64 y.ra, .int .i64 y.ow, .int .i64 y.ro]
            have hb5 := hbx.alloc hs4 (.cells #[.int .i64 y.id, .int .i64 y.fr, .int .i64 y.tn, .int .i64 y.op, .int .i64 y.en, .int .i64 y.ra, .int .i64 y.ow, .int .i64 y.ro] 34)
            have c0 := ((((Below.refl w4.heap.size w4).alloc (Nat.le_refl _) (.cells #[.int .i64 y.id, .int .i64 y.fr, .int .i64 y.tn, .int .i64 y.op, .int .i64 y.en, .int .i64 y.ra, .int .i64 y.ow, .int .i64 y.ro] 34))).cell (block_lt_of_cell c0')).trans c0'
            generalize w4.alloc (.cells #[.int .i64 y.id, .int .i64 y.fr, .int .i64 y.tn, .int .i64 y.op, .int .i64 y.en, .int .i64 y.ra, .int .i64 y.ow, .int .i64 y.ro] 34) = w5 at *
            generalize w4.heap.size = bb at *
            have y0 : w5.cell? ⟨bb, 0, none⟩ = some (.int .i64 y.id) := hYb.cell 0
            have lt_y := hYb.lt
            have g1 : (y.id != x.id) = false := by simp [HYX.out]
            clear hYb hbx hs4 c0'
            have q_c0 := fun d os => cell_regrown c0 d os
            have q_y0 := fun d os => cell_regrown y0 d os
            try simp only [List.append]
            first | refine wp_region_text_below ?_ | refine wp_region_quiet_below (by kernel_rfl) (by kernel_rfl) ?_
            repeat (go_big_quiet_step ((fail)))
            refine wpQuiet_nil ?_
            intro _ hqw
            obtain ⟨pq, hqw⟩ := hqw
            subst hqw
            clear q_c0 q_y0
            have hbq := hb5.trans ((below_regrown w5 pq.d pq.os).mono hb5.size)
            clear c0 y0 g1 lt_y hb5
            generalize grow (redrawn w5 pq.d) pq.os = wq at *
            go_wp2_with fail
            go_roundw
            case rel => exact ⟨j + 1, by go_num, by omega, hbq⟩
            case measure => simp [intOf]; omega
          · obtain rfl : j = i := by omega
            have g1 : ((k : Int) == (k : Int)) = true := by simp
            go_wp2_with fail
            go_ret
            exact ⟨rfl, HB3.out.trans (hb.mono HB3.out.size)⟩
theorem viewFroms_walk (A : Option Addr) (n k : Nat) (ns : List Int) (q : Int) (hnl : ns.length = n * 8) (_ : ∀ m ∈ ns, (Lit.int .i64 m).wf = true) (_ : (Lit.int .i64 q).wf = true) (w : World) (hl : Sl w w.heap.size 8 A n k (ns.map (Value.int .i64))) :
    Calls Try.prog 6 #[.slice A n k, .int .i64 q] w fun e w' => e = .returned (.bool true) ∧ Below w.heap.size w w' := by
  obtain ⟨d, hd, hlf⟩ := rowsEd_of n ns hnl
  rw [hlf] at hl
  exact viewFroms_w A n k d q hd w hl
theorem viewFroms_own : ownKnob Try.prog.godebug = none := by kernel_rfl
theorem viewFroms_laidOut : laidOutB Try.prog = true := by kernel_rfl

set_option maxHeartbeats 1000000 in
set_option maxRecDepth 100000 in
theorem viewFroms_lifted (os : Os) (started : os.Started) (H : Type) (enc : TypeId × Value → H) :
    ReturnsInHanded {} Try.checked os 6 .any (Rows.viewFromsSpec.pre6 enc Try.prog Try.f6 Rows.viewFromsRow.domain false) (Rows.viewFromsSpec.post enc Try.prog Try.f6 false true false false) := by
  refine returnsInHanded_of_change (C := Try.checked) viewFroms_own started (by kernel_rfl) Try.func6
    (ChangeSpec.witness6 (enc := enc) (C := Try.checked) false ⟨#[], #[.slice none 0 0, .int .i64 0], []⟩ 8 (by kernel_rfl) (by kernel_rfl) (by kernel_rfl) (by kernel_rfl)) ?_
  intro W base args ds gs before hval0 hW hcnd _
  have hval : ∀ (j : Nat) t v, Try.f6.params[j]? = some t → args[j]? = some v → Value.okWide Try.prog W .any base t v := hval0
  have hW' := hW
  obtain ⟨p, q, hA0, hV, rfl, hfz, hnd⟩ := hW
  have hA : DataW.TrodAll enc Try.prog W 0 (fun _ => true) true Try.f6.params.toList args.toList ds p := hA0
  rw [Try.params6] at hA hval
  obtain ⟨v0, vs0, d0, ds0, p0, q0, hargs, rfl, rfl, h0, r0⟩ := trodAll_cons hA
  obtain ⟨v1, vs1, d1, ds1, p1, q1, rfl, rfl, rfl, h1, r1⟩ := trodAll_cons r0
  obtain ⟨rfl, rfl, rfl⟩ := trodAll_nil r1
  obtain rfl : args = #[v0, v1] := by cases args; simp_all
  obtain ⟨rfl, rfl⟩ := trodVars_none hV
  obtain ⟨A0, n0, c0, ns0, rfl, hl0, nl0, w0⟩ := open_rowsS 4 (K := 8) Try.underlying29 (by kernel_rfl) (by kernel_rfl) (by omega) (hval 0 29 v0 rfl rfl) h0
  obtain ⟨a1, rfl, rfl, rfl, w1⟩ := open_int Try.underlying3 (hval 1 3 v1 rfl rfl) h1
  clear hA0 hval0
  refine (viewFroms_walk A0 n0 c0 ns0 a1 nl0 w0 w1 W hl0).mono fun e W' ⟨he, bel⟩ => ?_
  subst he
  exact ⟨_, rfl, law_post viewFroms_laidOut (by kernel_rfl) rfl Try.underlying4 rfl rfl hW' bel⟩

theorem viewFroms_proved : Rows.ViewFromsSaid :=
  OpenClaim.holds_of_wide 6 Try.f6 rfl rfl rfl rfl rfl rfl rfl ⟨rfl, rfl, rfl, rfl, rfl⟩ rfl rfl rfl rfl rfl (by kernel_rfl) Try.func6 (by kernel_rfl)
    (of_decide_eq_true (by kernel_rfl)) (by unfold Func.isWrapper; first | (rw [if_pos (by decide +kernel)]; kernel_rfl) | (rw [if_neg (by decide +kernel)]; exact ⟨rfl, rfl⟩))
    (fun os started H enc _ => viewFroms_lifted os started H enc)
#print axioms viewFroms_proved
end Go.Proofs.Ytfdphpmcgidmiaa
