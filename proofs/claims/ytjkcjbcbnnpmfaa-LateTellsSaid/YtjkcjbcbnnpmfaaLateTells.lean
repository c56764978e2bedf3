/- By when to be where, and with how few hops one may be in time, are the document's: LateTells returns true. No condition. -/
import Derived.Test.YtjkcjbcbnnpmfaaRows
import Derived.Test.YtjkcjbcbnnpmfaaSmall16
import Derived.Test.YtjkcjbcbnnpmfaaLateMath2
import Derived.Test.YtjkcjbcbnnpmfaaOpenS
namespace Go.Proofs.Ytjkcjbcbnnpmfaa
open Go.ChangeShapes Go.WideShapes Go.ChangeAt Go.RowKit Go.Sort Hp
set_option linter.unusedSimpArgs false
set_option linter.unusedVariables false
theorem wf_ints15 {ns : List Int} (hw : ∀ m ∈ ns, (Lit.int .i64 m).wf = true) : ∀ q, q < ns.length → (Lit.int .i64 (ns.getD q 0)).wf = true := fun q hq => by
  rw [List.getD_eq_getElem?_getD, List.getElem?_eq_getElem hq]
  exact hw _ (List.getElem_mem hq)
set_option maxHeartbeats 8000000 in
set_option maxRecDepth 100000 in
theorem lateTells_w (A : Option Addr) (n c : Nat) (l : List Ed) (x q now by_ size hops : Int) (As : Option Addr) (m cs : Nat) (sh : List Int) (w : World) (hd : l.length = n) (hs : sh.length = m) (hwf : ∀ k, k < m → (Lit.int .i64 (sh.getD k 0)).wf = true) (hl : Sl w w.heap.size 8 A n c (flatEd l)) (hls : Sl w w.heap.size 1 As m cs (sh.map (Value.int .i64))) :
    Calls Try.prog 3 #[.slice A n c, .int .i64 x, .int .i64 q, .int .i64 now, .int .i64 by_, .int .i64 size, .int .i64 hops, .slice As m cs] w fun e w' => e = .returned (.bool true) ∧ Below w.heap.size w w' := by
  have HD := Lib.hid hd
  have HL := Lib.hid (fun w' (hb : Below w.heap.size w w') => hl.up hb)
  clear hd hl
  have HS := Lib.hid hs
  have HWF := Lib.hid hwf
  have HLS := Lib.hid (fun w' (hb : Below w.heap.size w w') => hls.up hb)
  clear hs hwf hls
  go_enter Try.func3, Try.ntmps3
  go_wp2_with fail
  refine (small16_any w).mono ?_
  rintro e w1 ⟨rfl, hB⟩
  by_cases hn : 30 < n ∨ 30 < m
  · have hn' : 30 < n ∨ (n ≤ 30 ∧ 30 < m) := by omega
    clear hn
    rcases hn' with hn | ⟨hn, h1⟩
    all_goals
      go_wp2_with fail
      go_ret
      exact ⟨rfl, hB⟩
  have hn1 : n ≤ 30 := by omega
  have hn2 : m ≤ 30 := by omega
  clear hn
  obtain ⟨o, ho, hno⟩ := few_pick (askE l x now size && nodeB q && inB by_ 0 1099511627776) l size (opn sh q) q by_ x now
  have HO := Lib.hid ho
  have HNO := Lib.hid hno
  obtain ⟨ov, hov⟩ : ∃ z, ((o.getD 0 : Nat) : Int) = z := ⟨_, rfl⟩
  obtain ⟨ob, hob⟩ : ∃ z, o.isSome = z := ⟨_, rfl⟩
  have HOV := Lib.hid hov
  have HOB := Lib.hid hob
  clear ho hno hov hob
  go_wp2_with fail
  refine (lfew_any A n c l x q now by_ size As m cs sh w1 HD.out (by omega) HS.out (by omega) HWF.out (HL.out _ hB) (HLS.out _ hB) o HO.out HNO.out ov ob HOV.out HOB.out).mono ?_
  rintro e w2 ⟨rfl, hb⟩
  replace hB := hB.trans (hb.mono hB.size)
  clear hb
  go_wp2_with fail
  refine (rlfew16_any A n c l x q now by_ size As m cs sh w2 HD.out (by omega) HS.out (by omega) (HL.out _ hB) (HLS.out _ hB) o HO.out HNO.out ov ob HOV.out HOB.out).mono ?_
  rintro e w3 ⟨rfl, hb⟩
  replace hB := hB.trans (hb.mono hB.size)
  clear hb
  go_wp2_with fail
  refine (ltimes_any A n c l q by_ size hops As m cs sh w3 HD.out (by omega) HS.out (by omega) HWF.out (HL.out _ hB) (HLS.out _ hB)).mono ?_
  rintro e w4 ⟨Aa, na, ca, ra, rfl, hra, hna, hTa, hSa, hb⟩
  replace hB := hB.trans (hb.mono hB.size)
  have HRa := Lib.hid hra
  have HTa := Lib.hid hTa
  clear hb hra hTa
  go_wp2_with fail
  refine (rltimes16_any A n c l q by_ size hops As m cs sh w4 HD.out (by omega) HS.out (by omega) (HL.out _ hB) (HLS.out _ hB)).mono ?_
  rintro e w5 ⟨Ab, nb, cb, rb, rfl, hrb, hnb, hTb, hSb, hb⟩
  replace hB := hB.trans (hb.mono hB.size)
  replace hSa := hSa.up hb
  obtain rfl : rb = ra := hTb.one HTa.out
  obtain rfl : nb = na := by rw [← hrb]; exact HRa.out
  clear hb hTb hrb
  go_wp2_with fail
  refine (same_self15 Aa Ab nb ca nb cb rb w5 HRa.out HRa.out (by omega) hSa hSb).mono ?_
  rintro e w6 ⟨rfl, hb⟩
  replace hB := hB.trans (hb.mono hB.size)
  clear hb hSa hSb
  cases ob
  all_goals
    go_wp2_with fail
    go_ret
    exact ⟨rfl, hB⟩
theorem lateTells_walk (A : Option Addr) (n k : Nat) (ns : List Int) (x q now by_ size hops : Int) (As : Option Addr) (m cs : Nat) (sh : List Int) (hnl : ns.length = n * 8) (_ : ∀ m ∈ ns, (Lit.int .i64 m).wf = true) (_ : (Lit.int .i64 x).wf = true) (_ : (Lit.int .i64 q).wf = true) (_ : (Lit.int .i64 now).wf = true) (_ : (Lit.int .i64 by_).wf = true) (_ : (Lit.int .i64 size).wf = true) (_ : (Lit.int .i64 hops).wf = true) (hnl' : sh.length = m * 1) (hw' : ∀ m ∈ sh, (Lit.int .i64 m).wf = true) (w : World) (hl : Sl w w.heap.size 8 A n k (ns.map (Value.int .i64))) (hls : Sl w w.heap.size 1 As m cs (sh.map (Value.int .i64))) :
    Calls Try.prog 3 #[.slice A n k, .int .i64 x, .int .i64 q, .int .i64 now, .int .i64 by_, .int .i64 size, .int .i64 hops, .slice As m cs] w fun e w' => e = .returned (.bool true) ∧ Below w.heap.size w w' := by
  obtain ⟨d, hd, hlf⟩ := rowsEd_of n ns hnl
  rw [hlf] at hl
  exact lateTells_w A n k d x q now by_ size hops As m cs sh w hd (by omega) (fun q hq => wf_ints15 hw' q (by omega)) hl hls
theorem lateTells_own : ownKnob Try.prog.godebug = none := by kernel_rfl
theorem lateTells_laidOut : laidOutB Try.prog = true := by kernel_rfl

set_option maxHeartbeats 1000000 in
set_option maxRecDepth 100000 in
theorem lateTells_lifted (os : Os) (started : os.Started) (H : Type) (enc : TypeId × Value → H) :
    ReturnsInHanded {} Try.checked os 3 .any (Rows.lateTellsSpec.pre6 enc Try.prog Try.f3 Rows.lateTellsRow.domain false) (Rows.lateTellsSpec.post enc Try.prog Try.f3 false true false false) := by
  refine returnsInHanded_of_change (C := Try.checked) lateTells_own started (by kernel_rfl) Try.func3
    (ChangeSpec.witness6 (enc := enc) (C := Try.checked) false ⟨#[], #[.slice none 0 0, .int .i64 0, .int .i64 0, .int .i64 0, .int .i64 0, .int .i64 0, .int .i64 0, .slice none 0 0], []⟩ 8 (by kernel_rfl) (by kernel_rfl) (by kernel_rfl) (by kernel_rfl)) ?_
  intro W base args ds gs before hval0 hW hcnd _
  have hval : ∀ (j : Nat) t v, Try.f3.params[j]? = some t → args[j]? = some v → Value.okWide Try.prog W .any base t v := hval0
  have hW' := hW
  obtain ⟨p, q, hA0, hV, rfl, hfz, hnd⟩ := hW
  have hA : DataW.TrodAll enc Try.prog W 0 (fun _ => true) true Try.f3.params.toList args.toList ds p := hA0
  rw [Try.params3] at hA hval
  obtain ⟨v0, vs0, d0, ds0, p0, q0, hargs, rfl, rfl, h0, r0⟩ := trodAll_cons hA
  obtain ⟨v1, vs1, d1, ds1, p1, q1, rfl, rfl, rfl, h1, r1⟩ := trodAll_cons r0
  obtain ⟨v2, vs2, d2, ds2, p2, q2, rfl, rfl, rfl, h2, r2⟩ := trodAll_cons r1
  obtain ⟨v3, vs3, d3, ds3, p3, q3, rfl, rfl, rfl, h3, r3⟩ := trodAll_cons r2
  obtain ⟨v4, vs4, d4, ds4, p4, q4, rfl, rfl, rfl, h4, r4⟩ := trodAll_cons r3
  obtain ⟨v5, vs5, d5, ds5, p5, q5, rfl, rfl, rfl, h5, r5⟩ := trodAll_cons r4
  obtain ⟨v6, vs6, d6, ds6, p6, q6, rfl, rfl, rfl, h6, r6⟩ := trodAll_cons r5
  obtain ⟨v7, vs7, d7, ds7, p7, q7, rfl, rfl, rfl, h7, r7⟩ := trodAll_cons r6
  obtain ⟨rfl, rfl, rfl⟩ := trodAll_nil r7
  obtain rfl : args = #[v0, v1, v2, v3, v4, v5, v6, v7] := by cases args; simp_all
  obtain ⟨rfl, rfl⟩ := trodVars_none hV
  obtain ⟨A0, n0, c0, ns0, rfl, hl0, nl0, w0⟩ := open_rowsS 4 (K := 8) Try.underlying22 (by kernel_rfl) (by kernel_rfl) (by omega) (hval 0 22 v0 rfl rfl) h0
  obtain ⟨a1, rfl, rfl, rfl, w1⟩ := open_int Try.underlying3 (hval 1 3 v1 rfl rfl) h1
  obtain ⟨a2, rfl, rfl, rfl, w2⟩ := open_int Try.underlying3 (hval 2 3 v2 rfl rfl) h2
  obtain ⟨a3, rfl, rfl, rfl, w3⟩ := open_int Try.underlying3 (hval 3 3 v3 rfl rfl) h3
  obtain ⟨a4, rfl, rfl, rfl, w4⟩ := open_int Try.underlying3 (hval 4 3 v4 rfl rfl) h4
  obtain ⟨a5, rfl, rfl, rfl, w5⟩ := open_int Try.underlying3 (hval 5 3 v5 rfl rfl) h5
  obtain ⟨a6, rfl, rfl, rfl, w6⟩ := open_int Try.underlying3 (hval 6 3 v6 rfl rfl) h6
  obtain ⟨A7, n7, c7, ns7, rfl, hl7, nl7, w7⟩ := open_rowsS 4 (K := 1) Try.underlying23 (by kernel_rfl) (by kernel_rfl) (by omega) (hval 7 23 v7 rfl rfl) h7
  clear hA0 hval0
  refine (lateTells_walk A0 n0 c0 ns0 a1 a2 a3 a4 a5 a6 A7 n7 c7 ns7 nl0 w0 w1 w2 w3 w4 w5 w6 nl7 w7 W hl0 hl7).mono fun e W' ⟨he, bel⟩ => ?_
  subst he
  exact ⟨_, rfl, law_post lateTells_laidOut (by kernel_rfl) rfl Try.underlying4 rfl rfl hW' bel⟩

theorem lateTells_proved : Rows.LateTellsSaid :=
  OpenClaim.holds_of_wide 3 Try.f3 rfl rfl rfl rfl rfl rfl rfl ⟨rfl, rfl, rfl, rfl, rfl⟩ rfl rfl rfl rfl rfl (by kernel_rfl) Try.func3 (by kernel_rfl)
    (of_decide_eq_true (by kernel_rfl)) (by unfold Func.isWrapper; first | (rw [if_pos (by decide +kernel)]; kernel_rfl) | (rw [if_neg (by decide +kernel)]; exact ⟨rfl, rfl⟩))
    (fun os started H enc _ => lateTells_lifted os started H enc)
#print axioms lateTells_proved
end Go.Proofs.Ytjkcjbcbnnpmfaa
