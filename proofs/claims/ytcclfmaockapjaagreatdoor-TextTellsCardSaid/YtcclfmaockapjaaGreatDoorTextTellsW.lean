/- Directives of texts, lines with words, and texts of directives: the program tells what the document's own answers tell: TextTells returns true, for every text and all directives. It reads tables of the library's. -/
import Derived.Test.YtcclfmaockapjaaGreatDoorW1
import Derived.Test.YtcclfmaockapjaaGreatDoorRows
import Derived.Test.YtcclfmaockapjaaGreatDoorTie
import Derived.Test.YtcclfmaockapjaaGreatDoorCards
import Derived.Test.YtcclfmaockapjaaGreatDoorOpenS
namespace Go.Proofs.YtcclfmaockapjaaGreatDoor
open Go.ChangeShapes Go.WideShapes Go.ChangeAt Go.RowKit Go.Sort
set_option linter.unusedSimpArgs false
set_option linter.unusedVariables false
theorem textD_len : ∀ (rows : List Bytes) (k : Int), (textF rows k).1.length ≤ rows.length
  | [], k => by simp [textF]
  | r :: rs, k => by
    have ih := textD_len rs (k + 1)
    simp only [textF]
    split
    · simp; omega
    · split
      · unfold addF
        split
        · simp; omega
        · simp; omega
      · simp
theorem lno_short' : ∀ (b : List Bytes) (k : Int), (lnoF b k).length ≤ b.length
  | [], k => by simp [lnoF]
  | r :: rs, k => by
    have := lno_short' rs (k + 1)
    simp only [lnoF]
    split
    · simp; omega
    · simp; omega
theorem wfDr_of {ns : List Int} {d : List Dr} (h : ns.map (Value.int .i64) = flatDr d) (hw : ∀ m ∈ ns, (Lit.int .i64 m).wf = true) : ∀ x ∈ d, (Lit.int .i64 x.op).wf = true ∧ (Lit.int .i64 x.kd).wf = true := by
  intro x hx
  have key : ∀ m, Value.int .i64 m ∈ x.cs → (Lit.int .i64 m).wf = true := fun m hm => by
    have : Value.int .i64 m ∈ ns.map (Value.int .i64) := by rw [h]; exact List.mem_flatMap.2 ⟨x, hx, hm⟩
    obtain ⟨q, hq, e⟩ := List.mem_map.1 this
    injection e with _ e
    subst e
    exact hw _ hq
  exact ⟨key _ (by simp [Dr.cs]), key _ (by simp [Dr.cs])⟩
set_option maxHeartbeats 16000000 in
set_option maxRecDepth 100000 in
theorem ttells_law (s0 : ByteArray) (A : Option Addr) (n c : Nat) (d : List Dr) (hd : d.length = n) (hwf : ∀ x ∈ d, (Lit.int .i64 x.op).wf = true ∧ (Lit.int .i64 x.kd).wf = true) (w : World) (ht : TenTab w) (hm : MaxAt w) (h : Sl w w.heap.size 13 A n c (flatDr d)) :
    Calls Tryz.prog 3 #[.string s0, .slice A n c] w fun e w' => e = .returned (.bool true) ∧ Below w.heap.size w w' := by
  have HD := Lib.hid hd
  have HWF := Lib.hid hwf
  clear hd hwf
  have HT := Lib.hid (fun w' (hb : Below w.heap.size w w') => ht.below hb)
  have HM := Lib.hid (fun w' (hb : Below w.heap.size w w') => hm.below hb)
  have hB := Below.refl w.heap.size w
  have hs := Nat.le_refl w.heap.size
  clear ht hm
  go_enter Tryz.func3, Tryz.ntmps3
  go_wp2_with fail
  refine (small05_any w (HT.out w hB) (HM.out w hB)).mono ?_
  rintro e y0 ⟨rfl, hb⟩
  replace hB := hB.trans (hb.mono hs)
  replace hs := hB.size
  clear hb
  replace h := h.up hB
  by_cases hn1 : 2000 < s0.size
  · clear h
    go_wp2
    go_ret
    exact ⟨rfl, hB⟩
  by_cases hn2 : 100 < n
  · clear h
    go_wp2
    go_ret
    exact ⟨rfl, hB⟩
  have hsz : s0.data.toList.length ≤ 50000 := by rw [← size_list]; omega
  have HSZ := Lib.hid hsz
  obtain ⟨rows, hrows⟩ : ∃ r, linesL s0.data.toList = r := ⟨_, rfl⟩
  obtain ⟨k, hk⟩ : ∃ n, rows.length = n := ⟨_, rfl⟩
  obtain ⟨ds, ln, cd, hz⟩ : ∃ ds ln cd, textF rows 1 = (ds, ln, cd) := ⟨_, _, _, rfl⟩
  have hkb : k ≤ 50001 := by rw [← hk, ← hrows]; have := lines_len s0.data.toList; omega
  have hdb : ds.length ≤ 60000 := by
    have h1 := textD_len rows 1
    rw [hz, hk] at h1
    dsimp only at h1
    omega
  have HR := Lib.hid hrows
  have HK := Lib.hid hk
  have HZ := Lib.hid hz
  clear hrows hk hz hsz
  obtain ⟨nd, hnd⟩ : ∃ k, ds.length = k := ⟨_, rfl⟩
  rw [hnd] at hdb
  have HND := Lib.hid hnd
  clear hnd
  obtain ⟨r, hr⟩ : ∃ r, printF d = r := ⟨_, rfl⟩
  have HPR := Lib.hid hr
  clear hr
  go_wp2_with fail
  refine (tparse_any s0 rows k HR.out HK.out y0 (HM.out y0 hB) HSZ.out ds ln cd HZ.out).mono ?_
  rintro e y1 ⟨v, rfl, hv, hb⟩
  rw [HND.out] at hv
  obtain ⟨A1, c1, rfl⟩ := slice_of_own hv
  have l1 := Sl.of_own hv
  clear hv
  replace h := h.up hb
  replace hB := hB.trans (hb.mono hs)
  replace hs := hB.size
  clear hb
  go_upto_region 5 with fail
  have hf := Blok.new y1 26 #[.int .i64 ln, .int .i64 cd]
  have hb : Below y1.heap.size y1 (y1.alloc (.cells #[.int .i64 ln, .int .i64 cd] 26)) := by (repeat (first | exact Below.refl _ _ | refine Below.alloc ?_ (by first | omega | (simp; done) | (simp; omega)) _ | refine Below.setCell ?_ (by first | omega | (simp; done) | (simp; omega)) _ | refine Below.drew ?_))
  replace h := h.up hb
  replace l1 := l1.up hb
  replace hB := hB.trans (hb.mono hs)
  replace hs := hB.size
  clear hb
  generalize y1.alloc (.cells #[.int .i64 ln, .int .i64 cd] 26) = y2 at *
  generalize hzz : y1.heap.size = bf at *
  clear hzz
  go_wp2_with fail
  refine (rtparse_any s0 rows k HR.out HK.out y2 HSZ.out ds ln cd HZ.out).mono ?_
  rintro e y3 ⟨v, rfl, hv, hb⟩
  rw [HND.out] at hv
  obtain ⟨A2, c2, rfl⟩ := slice_of_own hv
  have l2 := Sl.of_own hv
  clear hv
  replace h := h.up hb
  replace l1 := l1.up hb
  replace hf := hf.below hb hf.lt
  replace hB := hB.trans (hb.mono hs)
  replace hs := hB.size
  clear hb
  go_upto_region 6 with fail
  have hg := Blok.new y3 26 #[.int .i64 ln, .int .i64 cd]
  have hb : Below y3.heap.size y3 (y3.alloc (.cells #[.int .i64 ln, .int .i64 cd] 26)) := by (repeat (first | exact Below.refl _ _ | refine Below.alloc ?_ (by first | omega | (simp; done) | (simp; omega)) _ | refine Below.setCell ?_ (by first | omega | (simp; done) | (simp; omega)) _ | refine Below.drew ?_))
  replace h := h.up hb
  replace l1 := l1.up hb
  replace l2 := l2.up hb
  replace hf := hf.below hb hf.lt
  replace hB := hB.trans (hb.mono hs)
  replace hs := hB.size
  clear hb
  generalize y3.alloc (.cells #[.int .i64 ln, .int .i64 cd] 26) = y4 at *
  generalize hzz : y3.heap.size = bg at *
  clear hzz
  go_wp2_with fail
  refine (tprint_any A n c d HD.out (by omega) HWF.out y4 (HT.out y4 hB) h r HPR.out).mono ?_
  rintro e y5 ⟨rfl, hb⟩
  replace h := h.up hb
  replace l1 := l1.up hb
  replace l2 := l2.up hb
  replace hf := hf.below hb hf.lt
  replace hg := hg.below hb hg.lt
  replace hB := hB.trans (hb.mono hs)
  replace hs := hB.size
  clear hb
  obtain ⟨ok, tx, hpv⟩ : ∃ ok tx, printV r = .tuple #[.string tx, .bool ok] := by
    cases r with
    | none => exact ⟨false, bs [], rfl⟩
    | some t => exact ⟨true, bs t, rfl⟩
  have HPV := Lib.hid hpv
  rw [hpv]
  clear hpv
  go_wp2_with fail
  refine (rtprint_any A n c d HD.out (by omega) y5 h r HPR.out).mono ?_
  rintro e y6 ⟨rfl, hb⟩
  rw [HPV.out]
  clear h
  replace l1 := l1.up hb
  replace l2 := l2.up hb
  replace hf := hf.below hb hf.lt
  replace hg := hg.below hb hg.lt
  replace hB := hB.trans (hb.mono hs)
  replace hs := hB.size
  clear hb
  have hse : (tx.toList == tx.toList) = true := by simp
  have hbe : (ok == ok) = true := by simp
  have hEQ : ∀ w0 : World, (binOp .eql 26 (.agg #[.int .i64 ln, .int .i64 cd]) (.agg #[.int .i64 ln, .int .i64 cd])).run Tryz.prog w0 = .ok (.bool true) w0 := fun w0 => by have h := eqlFt ln cd ln cd w0; simpa using h
  obtain ⟨lno, hlno⟩ : ∃ l, lnoF rows 1 = l := ⟨_, rfl⟩
  obtain ⟨q, hq⟩ : ∃ k, lno.length = k := ⟨_, rfl⟩
  have hqb : q ≤ 50001 := by rw [← hq, ← hlno]; have := lno_short' rows 1; rw [HK.out] at this; omega
  have HLNO := Lib.hid hlno
  have HQ := Lib.hid hq
  clear hlno hq
  go_wp2_with fail
  refine (fsame_is A1 A2 nd c1 nd c2 ds ds true (decide_eq_true rfl) y6 HND.out HND.out (by omega) l1 l2).mono ?_
  rintro e y7 ⟨rfl, hb⟩
  clear l1 l2
  replace hf := hf.below hb hf.lt
  replace hg := hg.below hb hg.lt
  replace hB := hB.trans (hb.mono hs)
  replace hs := hB.size
  clear hb
  have k_f0 : y7.cell? ⟨bf, 0, none⟩ = some (.int .i64 ln) := hf.cell 0
  have k_f1 : y7.cell? ⟨bf, 1, none⟩ = some (.int .i64 cd) := hf.cell 1
  have lt_f := hf.lt
  have k_g0 : y7.cell? ⟨bg, 0, none⟩ = some (.int .i64 ln) := hg.cell 0
  have k_g1 : y7.cell? ⟨bg, 1, none⟩ = some (.int .i64 cd) := hg.cell 1
  have lt_g := hg.lt
  clear hf hg
  cases ok
  all_goals
    go_wp2_with fail
    refine (tlines_any s0 rows k HR.out HK.out y7 (HM.out y7 hB) HSZ.out).mono ?_
    rintro e y8 ⟨v, rfl, hv, hb⟩
    rw [HLNO.out, HQ.out] at hv
    obtain ⟨A8, c8, rfl⟩ := slice_of_own hv
    have l8 := Sl.of_own hv
    clear hv k_f0 k_f1 k_g0 k_g1 lt_f lt_g
    replace hB := hB.trans (hb.mono hs)
    replace hs := hB.size
    clear hb
    go_wp2_with fail
    refine (rtlines_any s0 rows k HR.out HK.out y8 HSZ.out).mono ?_
    rintro e y9 ⟨v, rfl, hv, hb⟩
    rw [HLNO.out, HQ.out] at hv
    obtain ⟨A9, c9, rfl⟩ := slice_of_own hv
    have l9 := Sl.of_own hv
    clear hv
    replace l8 := l8.up hb
    replace hB := hB.trans (hb.mono hs)
    replace hs := hB.size
    clear hb
    go_wp2_with fail
    refine (fints_is A8 A9 q c8 q c9 lno lno true (decide_eq_true rfl) y9 HQ.out HQ.out (by omega) l8 l9).mono ?_
    rintro e z0 ⟨rfl, hb⟩
    clear l8 l9
    replace hB := hB.trans (hb.mono hs)
    clear hb
    go_wp2_with fail
    go_ret
    exact ⟨rfl, hB⟩
theorem textTells_walk (s0 : ByteArray) (A : Option Addr) (n c : Nat) (ns : List Int) (_ : s0.size ≤ maxLen) (hn : ns.length = n * 13) (hw : ∀ m ∈ ns, (Lit.int .i64 m).wf = true) (w : World) (hf : TenTab w ∧ MaxAt w) (h : Sl w w.heap.size 13 A n c (ns.map (Value.int .i64))) :
    Calls Tryz.prog 3 #[.string s0, .slice A n c] w fun e w' => e = .returned (.bool true) ∧ Below w.heap.size w w' := by
  obtain ⟨d, hd, he⟩ := rowsDr_of n ns hn
  rw [he] at h
  exact ttells_law s0 A n c d hd (wfDr_of he hw) w hf.1 hf.2 h
theorem textTells_own : ownKnob Tryz.prog.godebug = none := by kernel_rfl
theorem textTells_laidOut : laidOutB Tryz.prog = true := by kernel_rfl
set_option maxHeartbeats 1000000 in
set_option maxRecDepth 100000 in
theorem textTells_lifted (os : Os) (started : os.Started) (H : Type) (enc : TypeId × Value → H) :
    ReturnsInHanded {} Tryz.checked os 3 .any (fun w args => (Rows.textTellsSpec.pre enc Tryz.prog Tryz.f3 [] false w args ∧ laidMetH Tryz.prog Rows.textTellsRow.laid w) ∧ sizedMet enc Tryz.prog Tryz.f3 (OpenSpec.ofChange Rows.textTellsSpec) false w args)
      (Rows.textTellsSpec.post enc Tryz.prog Tryz.f3 false true false false) := by
  refine returnsInHanded_of_change_and_shaped (C := Tryz.checked) (X := fun w _ => laidMetH Tryz.prog Rows.textTellsRow.laid w) (fun _ _ _ hh h => h.of_heap hh) textTells_own started (by kernel_rfl) Tryz.func3
    (ChangeSpec.witness_shaped (enc := enc) (C := Tryz.checked) (os := os) (X := fun w _ => laidMetH Tryz.prog Rows.textTellsRow.laid w) false (World.laidAll Tryz.prog os Rows.textTellsRow.laid) #[.string ByteArray.empty, .slice none 0 0] 8 (World.laidAll_os _ _ _) (World.shaped_of_ZipB (by kernel_rfl) (by kernel_rfl)) (by kernel_rfl) (by kernel_rfl) (by kernel_rfl) (by rw [MakeChecks.laidMetH_plain _ _ _ (by kernel_rfl)]; exact laidMet_laidAll _ (by kernel_rfl) (by kernel_rfl))) ?_
  intro W base args ds gs before hval0 hW _ _ hX hL _
  have hval : ∀ (j : Nat) t v, Tryz.f3.params[j]? = some t → args[j]? = some v → Value.okWide Tryz.prog W .any base t v := hval0
  have hW' := hW
  obtain ⟨p, q, hA0, hV, rfl, hfz, hnd⟩ := hW
  have hA : DataW.TrodAll enc Tryz.prog W 0 (fun _ => true) true Tryz.f3.params.toList args.toList ds p := hA0
  rw [Tryz.params3] at hA hval
  obtain ⟨v0, vs0, d0, ds0, p0, q0, hargs, rfl, rfl, h0, r0⟩ := trodAll_cons hA
  obtain ⟨v1, vs1, d1, ds1, p1, q1, rfl, rfl, rfl, h1, r1⟩ := trodAll_cons r0
  obtain ⟨rfl, rfl, rfl⟩ := trodAll_nil r1
  obtain rfl : args = #[v0, v1] := by cases args; simp_all
  obtain ⟨rfl, rfl⟩ := trodVars_none hV
  obtain ⟨s0, rfl, rfl, rfl, w0⟩ := Go.ChangeMaps.open_string Tryz.underlying9 (hval 0 9 v0 rfl rfl) h0
  obtain ⟨A1, n1, c1, ns1, rfl, hl1, nl1, w1⟩ := open_rowsS 4 (K := 13) Tryz.underlying22 (by kernel_rfl) (by kernel_rfl) (by omega) (hval 1 22 v1 rfl rfl) h1
  clear hA0 hval0
  refine (textTells_walk s0 A1 n1 c1 ns1 w0 nl1 w1 W (ten_max hX hL) hl1).mono fun e W' ⟨he, bel⟩ => ?_
  subst he
  exact ⟨_, rfl, law_post textTells_laidOut (by kernel_rfl) rfl Tryz.underlying4 rfl rfl hW' bel⟩

theorem textTells_holds : Rows.TextTellsSaid :=
  OpenClaim.holds_of_wide 3 Tryz.f3 rfl rfl rfl rfl rfl rfl rfl ⟨rfl, rfl, rfl, rfl, rfl⟩ rfl rfl rfl rfl rfl (by kernel_rfl) Tryz.func3 (by kernel_rfl)
    (of_decide_eq_true (by kernel_rfl)) (by unfold Func.isWrapper; first | (rw [if_pos (by decide +kernel)]; kernel_rfl) | (rw [if_neg (by decide +kernel)]; exact ⟨rfl, rfl⟩))
    (fun os started H enc _ => textTells_lifted os started H enc)

theorem textTells_proved : Rows.TextTellsCardSaid :=
  Claim7.holds_tied_plain_at .later [] Rows.textTellsCard.laidKinds true Rows.textTellsCard.stood.harness false
    textTells_holds (fun _ h => by cases h) (by kernel_rfl) (fun _ h => by cases h) textTells_row_tie rfl ⟨rfl, rfl⟩ (by kernel_rfl) rfl
    (fun f fn hf hfn => by
      obtain rfl : f = 3 := Option.some.inj ((show Tryz.prog.funcNamed "felucca/feluccalaw05.TextTells" = some 3 by kernel_rfl).symm.trans hf) |>.symm
      obtain rfl : fn = Tryz.f3 := (Option.some.inj (Tryz.func3.symm.trans hfn)).symm
      exact ⟨by kernel_rfl, fun j t ht => by
        rw [Tryz.params3] at ht
        have hm : t ∈ [9, 22] := by simpa using Array.mem_of_getElem? ht
        have hall : ([9, 22].all fun u => !Tryz.prog.wantsStandIn u) = true := by kernel_rfl
        exact (show Tryz.prog.wantsStandIn t = false by simpa using List.all_eq_true.1 hall t hm)⟩)
    (by kernel_rfl)
#print axioms textTells_proved
end Go.Proofs.YtcclfmaockapjaaGreatDoor
