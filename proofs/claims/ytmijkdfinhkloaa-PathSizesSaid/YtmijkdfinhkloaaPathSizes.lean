/- Who is smaller is there no later, by the same contacts, and passes, if who is greater does: PathSizes returns true. No condition. -/
import Derived.Test.YtmijkdfinhkloaaRows
import Derived.Test.YtmijkdfinhkloaaSmall12
import Derived.Test.YtmijkdfinhkloaaOpenS
namespace Go.Proofs.Ytmijkdfinhkloaa
open Go.ChangeShapes Go.WideShapes Go.ChangeAt Go.RowKit Go.Sort
set_option linter.unusedSimpArgs false
set_option linter.unusedVariables false
theorem wf_ints12 {ns : List Int} (hw : ∀ m ∈ ns, (Lit.int .i64 m).wf = true) : ∀ q, q < ns.length → (Lit.int .i64 (ns.getD q 0)).wf = true := fun q hq => by
  rw [List.getD_eq_getElem?_getD, List.getElem?_eq_getElem hq]
  exact hw _ (List.getElem_mem hq)
theorem walk_sizes {d : List Ed} {ids : List Int} {q a3 a4 a5 : Int} {m : Nat} {bs : List Hp} (h0 : 0 ≤ a4) (h1 : a4 ≤ a5) (hi : ids.length = m) (h : walkE d ids q a3 a5 = some bs) : ∃ cs, walkE d ids q a3 a4 = some cs ∧ cs.length = m ∧ bs.length = m ∧ ∀ i, i < m → (gHp cs i).id = (gHp bs i).id ∧ (gHp cs i).se ≤ (gHp bs i).se ∧ (gHp cs i).ar ≤ (gHp bs i).ar := by
  obtain ⟨es, ha, hf, hp⟩ := walkE_some h
  have hs := askE_spec.1 ha
  obtain ⟨cs, r1, r2, r3⟩ := passE_mono h0 h1 hs.2.1.1 (Int.le_refl _) hp
  have hl := passE_len hp
  have hl2 := followE_len hf
  refine ⟨cs, ?_, by omega, by omega, fun i hi => r3 i (by omega)⟩
  rw [walkE_of (askE_spec.2 ⟨hs.1, hs.2.1, by omega, hs.2.2.2⟩) hf]
  exact r1
set_option maxHeartbeats 8000000 in
set_option maxRecDepth 100000 in
theorem pathSizes_w (A : Option Addr) (n c : Nat) (d : List Ed) (A' : Option Addr) (m c' : Nat) (ids : List Int) (q a3 a4 a5 : Int) (hd : d.length = n) (hi : ids.length = m) (hwf : ∀ q, q < m → (Lit.int .i64 (ids.getD q 0)).wf = true) (w : World) (hl : Sl w w.heap.size 8 A n c (flatEd d)) (hl' : Sl w w.heap.size 1 A' m c' (ids.map (Value.int .i64))) :
    Calls Try.prog 7 #[.slice A n c, .slice A' m c', .int .i64 q, .int .i64 a3, .int .i64 a4, .int .i64 a5] w fun e w' => e = .returned (.bool true) ∧ Below w.heap.size w w' := by
  by_cases hn : 50 < n ∨ 50 < m ∨ a4 < 0 ∨ a5 < a4
  · have hn' : 50 < n ∨ (n ≤ 50 ∧ 50 < m) ∨ (n ≤ 50 ∧ m ≤ 50 ∧ a4 < 0) ∨ (n ≤ 50 ∧ m ≤ 50 ∧ ¬ (a4 < 0) ∧ a5 < a4) := by omega
    clear hn
    rcases hn' with hn | ⟨hn, hn2⟩ | ⟨hn, hn2, hn3⟩ | ⟨hn, hn2, hn3, hn4⟩
    all_goals
      go_enter Try.func7, Try.ntmps7
      go_wp2_with fail
      refine (small12 _).mono ?_
      rintro e w1 ⟨rfl, hB⟩
      go_wp2
      go_ret
      exact ⟨rfl, hB⟩
  · have hn1 : n ≤ 50 := by omega
    have hn2 : m ≤ 50 := by omega
    have hn3 : ¬ (a4 < 0) := by omega
    have hn4 : ¬ (a5 < a4) := by omega
    clear hn
    have g1 : decide ((n : Int) > 50) = false := decide_eq_false (by omega)
    have g2 : decide ((m : Int) > 50) = false := decide_eq_false (by omega)
    have g3 : decide (a4 < 0) = false := decide_eq_false hn3
    have g4 : decide (a5 < a4) = false := decide_eq_false hn4
    obtain ⟨oa, hoa⟩ : ∃ o, walkE d ids q a3 a4 = o := ⟨_, rfl⟩
    obtain ⟨ob, hob⟩ : ∃ o, walkE d ids q a3 a5 = o := ⟨_, rfl⟩
    have HD := Lib.hid hd
    have HI := Lib.hid hi
    have HWF := Lib.hid hwf
    have HOA := Lib.hid hoa
    have HOB := Lib.hid hob
    clear hd hi hwf hoa hob
    go_enter Try.func7, Try.ntmps7
    go_wp2_with fail
    refine (small12 _).mono ?_
    rintro e w1 ⟨rfl, hB⟩
    replace hl := hl.up hB
    replace hl' := hl'.up hB
    have hs := hB.size
    go_wp2_with fail
    refine (pwalk_any A n c d A' m c' ids q a3 a4 w1 HD.out (by omega) HI.out (by omega) HWF.out hl hl' oa HOA.out).mono ?_
    rintro e w2 ⟨va, rfl, hva, hb⟩
    replace hl := hl.up hb
    replace hl' := hl'.up hb
    replace hB := hB.trans (hb.mono hs)
    replace hs := hB.size
    clear hb
    go_wp2_with fail
    refine (pwalk_any A n c d A' m c' ids q a3 a5 w2 HD.out (by omega) HI.out (by omega) HWF.out hl hl' ob HOB.out).mono ?_
    rintro e w3 ⟨vb, rfl, hvb, hb⟩
    replace hva := own_below hva hb
    replace hB := hB.trans (hb.mono hs)
    replace hs := hB.size
    clear hb hl hl' g1 g2 g3 g4
    cases ob with
    | none =>
      change w3.ownsRow _ _ 3 vb 0 [] at hvb
      obtain ⟨Ab, cb, rfl⟩ := slice_of_own hvb
      clear hvb hva
      go_wp2_with fail
      go_ret
      exact ⟨rfl, hB⟩
    | some bs =>
      obtain ⟨cs, hcs, hlen, hlb, hmono⟩ := walk_sizes (by omega) (by omega) HI.out HOB.out
      have hoac : oa = some cs := by rw [← HOA.out]; exact hcs
      subst hoac
      change w3.ownsRow _ _ 3 va cs.length (flatHp cs) at hva
      change w3.ownsRow _ _ 3 vb bs.length (flatHp bs) at hvb
      rw [hlen] at hva
      rw [hlb] at hvb
      obtain ⟨Aa, ca, rfl⟩ := slice_of_own hva
      obtain ⟨Ab, cb, rfl⟩ := slice_of_own hvb
      have HVA := Lib.hid hva
      have HVB := Lib.hid hvb
      have HLA := Lib.hid hlen
      have HLB := Lib.hid hlb
      have HM := Lib.hid hmono
      have HB := Lib.hid hB
      clear hva hvb hlen hlb hmono hB hcs HOA HOB
      have z1 : ((m : Int) != (m : Int)) = false := by simp
      go_wp2_with fail
      clear z1
      go_loopw [18] (fun iv wr => ∃ i : Nat, iv = .int .i64 i ∧ i ≤ m ∧ Below w3.heap.size w3 wr) (fun iv _ => m - (intOf iv).toNat)
      case atStart => exact ⟨0, rfl, by omega, Below.refl _ _⟩
      case round =>
        obtain ⟨i, rfl, hi, hb⟩ := hrel
        by_cases him : i < m
        · obtain ⟨ad, rfl, hab, c0, c1, c2⟩ := (Sl.of_own (own_below HVA.out hb)).lst.atHp HLA.out him
          obtain ⟨ae, rfl, hae, e0, e1, e2⟩ := (Sl.of_own (own_below HVB.out hb)).lst.atHp HLB.out him
          obtain ⟨m0, m1, m2⟩ := HM.out i him
          obtain ⟨x, hx⟩ : ∃ x, gHp cs i = x := ⟨_, rfl⟩
          obtain ⟨y, hy⟩ : ∃ y, gHp bs i = y := ⟨_, rfl⟩
          rw [hx] at c0 c1 c2 m0 m1 m2
          rw [hy] at e0 e1 e2 m0 m1 m2
          have k0 : (x.id != y.id) = false := by simp [m0]
          have k1 : decide (y.se < x.se) = false := decide_eq_false (by omega)
          have k2 : decide (y.ar < x.ar) = false := decide_eq_false (by omega)
          clear hx hy m0 m1 m2
          go_wp2_with fail
          have q_c0 := fun d os => cell_regrown c0 d os
          have q_c1 := fun d os => cell_regrown c1 d os
          have q_c2 := fun d os => cell_regrown c2 d os
          have q_e0 := fun d os => cell_regrown e0 d os
          have q_e1 := fun d os => cell_regrown e1 d os
          have q_e2 := fun d os => cell_regrown e2 d os
          try simp only [List.append]
          first | refine wp_region_text_below ?_ | refine wp_region_quiet_below (by kernel_rfl) (by kernel_rfl) ?_
          repeat (go_big_quiet_step ((fail)))
          refine wpQuiet_nil ?_
          intro _ hqw
          obtain ⟨pq, hqw⟩ := hqw
          subst hqw
          clear q_c0 q_c1 q_c2 q_e0 q_e1 q_e2
          have hbq := hb.trans ((below_regrown wr pq.d pq.os).mono hb.size)
          clear c0 c1 c2 e0 e1 e2 k0 k1 k2 hb
          generalize grow (redrawn wr pq.d) pq.os = wq at *
          go_wp2_with fail
          go_roundw
          case rel => exact ⟨i + 1, by go_num, by omega, hbq⟩
          case measure => simp [intOf]; omega
        · have hie : i = m := by omega
          subst hie
          go_wp2_with fail
          go_ret
          exact ⟨rfl, HB.out.trans (hb.mono hs)⟩
theorem pathSizes_walk (A : Option Addr) (n k : Nat) (ns : List Int) (A' : Option Addr) (n' k' : Nat) (ns' : List Int) (q a3 a4 a5 : Int) (hnl : ns.length = n * 8) (_ : ∀ m ∈ ns, (Lit.int .i64 m).wf = true) (hnl' : ns'.length = n' * 1) (hw' : ∀ m ∈ ns', (Lit.int .i64 m).wf = true) (_ : (Lit.int .i64 q).wf = true) (_ : (Lit.int .i64 a3).wf = true) (_ : (Lit.int .i64 a4).wf = true) (_ : (Lit.int .i64 a5).wf = true) (w : World) (hl : Sl w w.heap.size 8 A n k (ns.map (Value.int .i64))) (hl' : Sl w w.heap.size 1 A' n' k' (ns'.map (Value.int .i64))) :
    Calls Try.prog 7 #[.slice A n k, .slice A' n' k', .int .i64 q, .int .i64 a3, .int .i64 a4, .int .i64 a5] w fun e w' => e = .returned (.bool true) ∧ Below w.heap.size w w' := by
  obtain ⟨d, hd, hlf⟩ := rowsEd_of n ns hnl
  have hi : ns'.length = n' := by omega
  rw [hlf] at hl
  exact pathSizes_w A n k d A' n' k' ns' q a3 a4 a5 hd hi (fun q hq => wf_ints12 hw' q (by omega)) w hl hl'
theorem pathSizes_own : ownKnob Try.prog.godebug = none := by kernel_rfl
theorem pathSizes_laidOut : laidOutB Try.prog = true := by kernel_rfl

set_option maxHeartbeats 1000000 in
set_option maxRecDepth 100000 in
theorem pathSizes_lifted (os : Os) (started : os.Started) (H : Type) (enc : TypeId × Value → H) :
    ReturnsInHanded {} Try.checked os 7 .any (Rows.pathSizesSpec.pre6 enc Try.prog Try.f7 Rows.pathSizesRow.domain false) (Rows.pathSizesSpec.post enc Try.prog Try.f7 false true false false) := by
  refine returnsInHanded_of_change (C := Try.checked) pathSizes_own started (by kernel_rfl) Try.func7
    (ChangeSpec.witness6 (enc := enc) (C := Try.checked) false ⟨#[], #[.slice none 0 0, .slice none 0 0, .int .i64 0, .int .i64 0, .int .i64 0, .int .i64 0], []⟩ 8 (by kernel_rfl) (by kernel_rfl) (by kernel_rfl) (by kernel_rfl)) ?_
  intro W base args ds gs before hval0 hW hcnd _
  have hval : ∀ (j : Nat) t v, Try.f7.params[j]? = some t → args[j]? = some v → Value.okWide Try.prog W .any base t v := hval0
  have hW' := hW
  obtain ⟨p, q, hA0, hV, rfl, hfz, hnd⟩ := hW
  have hA : DataW.TrodAll enc Try.prog W 0 (fun _ => true) true Try.f7.params.toList args.toList ds p := hA0
  rw [Try.params7] at hA hval
  obtain ⟨v0, vs0, d0, ds0, p0, q0, hargs, rfl, rfl, h0, r0⟩ := trodAll_cons hA
  obtain ⟨v1, vs1, d1, ds1, p1, q1, rfl, rfl, rfl, h1, r1⟩ := trodAll_cons r0
  obtain ⟨v2, vs2, d2, ds2, p2, q2, rfl, rfl, rfl, h2, r2⟩ := trodAll_cons r1
  obtain ⟨v3, vs3, d3, ds3, p3, q3, rfl, rfl, rfl, h3, r3⟩ := trodAll_cons r2
  obtain ⟨v4, vs4, d4, ds4, p4, q4, rfl, rfl, rfl, h4, r4⟩ := trodAll_cons r3
  obtain ⟨v5, vs5, d5, ds5, p5, q5, rfl, rfl, rfl, h5, r5⟩ := trodAll_cons r4
  obtain ⟨rfl, rfl, rfl⟩ := trodAll_nil r5
  obtain rfl : args = #[v0, v1, v2, v3, v4, v5] := by cases args; simp_all
  obtain ⟨rfl, rfl⟩ := trodVars_none hV
  obtain ⟨A0, n0, c0, ns0, rfl, hl0, nl0, w0⟩ := open_rowsS 4 (K := 8) Try.underlying22 (by kernel_rfl) (by kernel_rfl) (by omega) (hval 0 22 v0 rfl rfl) h0
  obtain ⟨A1, n1, c1, ns1, rfl, hl1, nl1, w1⟩ := open_rowsS 4 (K := 1) Try.underlying23 (by kernel_rfl) (by kernel_rfl) (by omega) (hval 1 23 v1 rfl rfl) h1
  obtain ⟨a2, rfl, rfl, rfl, w2⟩ := open_int Try.underlying3 (hval 2 3 v2 rfl rfl) h2
  obtain ⟨a3, rfl, rfl, rfl, w3⟩ := open_int Try.underlying3 (hval 3 3 v3 rfl rfl) h3
  obtain ⟨a4, rfl, rfl, rfl, w4⟩ := open_int Try.underlying3 (hval 4 3 v4 rfl rfl) h4
  obtain ⟨a5, rfl, rfl, rfl, w5⟩ := open_int Try.underlying3 (hval 5 3 v5 rfl rfl) h5
  clear hA0 hval0
  refine (pathSizes_walk A0 n0 c0 ns0 A1 n1 c1 ns1 a2 a3 a4 a5 nl0 w0 nl1 w1 w2 w3 w4 w5 W hl0 hl1).mono fun e W' ⟨he, bel⟩ => ?_
  subst he
  exact ⟨_, rfl, law_post pathSizes_laidOut (by kernel_rfl) rfl Try.underlying4 rfl rfl hW' bel⟩

theorem pathSizes_proved : Rows.PathSizesSaid :=
  OpenClaim.holds_of_wide 7 Try.f7 rfl rfl rfl rfl rfl rfl rfl ⟨rfl, rfl, rfl, rfl, rfl⟩ rfl rfl rfl rfl rfl (by kernel_rfl) Try.func7 (by kernel_rfl)
    (of_decide_eq_true (by kernel_rfl)) (by unfold Func.isWrapper; first | (rw [if_pos (by decide +kernel)]; kernel_rfl) | (rw [if_neg (by decide +kernel)]; exact ⟨rfl, rfl⟩))
    (fun os started H enc _ => pathSizes_lifted os started H enc)
#print axioms pathSizes_proved
end Go.Proofs.Ytmijkdfinhkloaa
