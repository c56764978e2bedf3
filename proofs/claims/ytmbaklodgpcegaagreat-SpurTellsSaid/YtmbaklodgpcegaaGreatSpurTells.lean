/- The best way on is the document's: SpurTells returns true. No condition. -/
import Derived.Test.YtmbaklodgpcegaaGreatRows
import Derived.Test.YtmbaklodgpcegaaGreatSmall18
import Derived.Test.YtmbaklodgpcegaaGreatGQ21
import Derived.BigQuiet
import Derived.Deep.QuietTactic
import Derived.Test.YtmbaklodgpcegaaGreatGQ25
namespace Go.Proofs.YtmbaklodgpcegaaGreat
open Go.ChangeShapes Go.WideShapes Go.ChangeAt Go.RowKit Go.Sort Hp
set_option linter.unusedSimpArgs false
set_option linter.unusedVariables false
set_option maxHeartbeats 8000000 in
set_option maxRecDepth 100000 in
theorem spurTells_w (A : Option Addr) (n c : Nat) (l : List Ed) (Ar : Option Addr) (nr cr : Nat) (root : List Int) (Ab : Option Addr) (nb cb : Nat) (bans : List Int) (f q now size by_ : Int) (w : World) (hd : l.length = n) (hdr : root.length = nr) (hwr : ∀ k, k < nr → (Lit.int .i64 (root.getD k 0)).wf = true) (hdb : bans.length = nb) (hwb : ∀ k, k < nb → (Lit.int .i64 (bans.getD k 0)).wf = true) (hl : Sl w w.heap.size 8 A n c (flatEd l)) (hlr : Sl w w.heap.size 1 Ar nr cr (root.map (Value.int .i64))) (hlb : Sl w w.heap.size 1 Ab nb cb (bans.map (Value.int .i64))) :
    Calls Tryz.prog 3 #[.slice A n c, .slice Ar nr cr, .slice Ab nb cb, .int .i64 f, .int .i64 q, .int .i64 now, .int .i64 size, .int .i64 by_] w fun e w' => e = .returned (.bool true) ∧ Below w.heap.size w w' := by
  have HD := Lib.hid hd
  have HL := Lib.hid (fun w' (hb : Below w.heap.size w w') => hl.up hb)
  clear hd hl
  have HDR := Lib.hid hdr
  have HWR := Lib.hid hwr
  have HLR := Lib.hid (fun w' (hb : Below w.heap.size w w') => hlr.up hb)
  clear hlr hdr hwr
  have HDB := Lib.hid hdb
  have HWB := Lib.hid hwb
  have HLB := Lib.hid (fun w' (hb : Below w.heap.size w w') => hlb.up hb)
  clear hlb hdb hwb
  go_enter Tryz.func3, Tryz.ntmps3
  go_wp2_with fail
  refine (small18_any w).mono ?_
  rintro e w1 ⟨rfl, hB⟩
  by_cases hG : 10 < n ∨ 20 < nr ∨ 20 < nb
  · have hG' : (10 < n) ∨ (n ≤ 10 ∧ 20 < nr) ∨ (n ≤ 10 ∧ nr ≤ 20 ∧ 20 < nb) := by omega
    clear hG
    rcases hG' with g0 | ⟨g0, g1⟩ | ⟨g0, g1, g2⟩
    all_goals
      go_wp2_with fail
      go_ret
      exact ⟨rfl, hB⟩
  have hn1 : n ≤ 10 := by omega
  have hn2 : nr ≤ 20 := by omega
  have hn3 : nb ≤ 20 := by omega
  clear hG
  obtain ⟨oa, hoa⟩ : ∃ o, spurX l root bans f q now size by_ = o := ⟨_, rfl⟩
  obtain ⟨ta, hta⟩ : ∃ t, bestV oa = t := ⟨_, rfl⟩
  obtain ⟨Ha, hHa⟩ : ∃ H, bestH oa = H := ⟨_, rfl⟩
  obtain ⟨ka, hka⟩ : ∃ b, oa.isSome = b := ⟨_, rfl⟩
  have HOa := Lib.hid hoa
  have HTa := Lib.hid hta
  have HHa := Lib.hid hHa
  have HKa := Lib.hid hka
  clear hoa hta hHa hka
  obtain ⟨nd, hnd⟩ : ∃ z, (hopsO oa).length = z := ⟨_, rfl⟩
  have HND := Lib.hid hnd
  clear hnd
  go_wp2_with fail
  refine (sproute_v A n c l Ar nr cr root Ab nb cb bans f q now size by_ w1 HD.out (by omega) HDR.out (by omega) HWR.out HDB.out (by omega) HWB.out (HL.out _ hB) (HLR.out _ hB) (HLB.out _ hB) oa HOa.out ta HTa.out Ha HHa.out ka HKa.out).mono ?_
  rintro e wk1 ⟨Aa, na, ca, rfl, hna, hma, sa, hb⟩
  replace hB := hB.trans (hb.mono hB.size)
  clear hb
  have HNa := Lib.hid hna
  clear hna
  go_wp2_with fail
  have hb : Below wk1.heap.size wk1 (wk1.alloc (.cells #[.slice Aa na ca, .int .i64 ta] 27)) := (Below.refl _ _).alloc (Nat.le_refl _) _
  have xa := Blok.new wk1 27 #[.slice Aa na ca, .int .i64 ta]
  obtain ⟨bxa, hbxa⟩ : ∃ q, wk1.heap.size = q := ⟨_, rfl⟩
  have hsxa : (wk1.alloc (.cells #[.slice Aa na ca, .int .i64 ta] 27)).heap.size = bxa + 1 := by rw [← hbxa]; simp
  replace sa := sa.up hb
  replace hB := hB.trans (hb.mono hB.size)
  clear hb
  generalize wk1.alloc (.cells #[.slice Aa na ca, .int .i64 ta] 27) = wk2 at *
  rw [hbxa] at xa
  try rw [hbxa]
  clear hbxa
  try clear hsxa
  refine (rroute18_any A n c l Ar nr cr root Ab nb cb bans f q now size by_ wk2 HD.out hn1 HDR.out (by omega) HDB.out (by omega) (HL.out _ hB) (HLR.out _ hB) (HLB.out _ hB) oa HOa.out nd HND.out _ rfl).mono ?_
  rintro e wk3 ⟨As, cs, rfl, ss, hb⟩
  replace sa := sa.up hb
  replace xa := xa.below hb xa.lt
  replace hB := hB.trans (hb.mono hB.size)
  clear hb
  obtain ⟨ar, har⟩ : ∃ z, arrO oa = z := ⟨_, rfl⟩
  rw [har, HKa.out]
  have heq : (decide (ta = ar) && decide (Ha = hopsO oa)) = true := by
    rw [← har, ← HTa.out, ← HHa.out]
    cases oa <;> simp [bestV, bestH, arrO, hopsO]
  have HEQ := Lib.hid heq
  clear har heq
  have hndb : nd ≤ 1000000 := by
    have h1 := HND.out
    have h2 := HHa.out
    have h3 := HNa.out
    have h4 : hopsO oa = bestH oa := by cases oa <;> rfl
    rw [h4, h2, h3] at h1
    omega
  have xa_c0 := (xa.cell 0 : wk3.cell? ⟨bxa, 0, none⟩ = some (.slice Aa na ca))
  have xa_c1 := (xa.cell 1 : wk3.cell? ⟨bxa, 1, none⟩ = some (.int .i64 ta))
  have xa_lt := xa.lt
  go_wp2_with fail
  try clear xa_c0 xa_c1 xa_lt
  have hb : Below wk3.heap.size wk3 (wk3.alloc (.cells #[.slice As nd cs, .int .i64 ar] 27)) := (Below.refl _ _).alloc (Nat.le_refl _) _
  have xs := Blok.new wk3 27 #[.slice As nd cs, .int .i64 ar]
  obtain ⟨bxs, hbxs⟩ : ∃ q, wk3.heap.size = q := ⟨_, rfl⟩
  have hsxs : (wk3.alloc (.cells #[.slice As nd cs, .int .i64 ar] 27)).heap.size = bxs + 1 := by rw [← hbxs]; simp
  replace sa := sa.up hb
  replace ss := ss.up hb
  replace xa := xa.below hb xa.lt
  replace hB := hB.trans (hb.mono hB.size)
  clear hb
  generalize wk3.alloc (.cells #[.slice As nd cs, .int .i64 ar] 27) = wk4 at *
  rw [hbxs] at xs
  try rw [hbxs]
  clear hbxs
  try clear hsxs
  refine (rsame12_any Aa As na ca nd cs Ha (hopsO oa) ta ar wk4 HNa.out HND.out (by omega) hndb sa ss true HEQ.out).mono ?_
  rintro e wk5 ⟨rfl, hb⟩
  replace sa := sa.up hb
  replace ss := ss.up hb
  replace xa := xa.below hb xa.lt
  replace xs := xs.below hb xs.lt
  replace hB := hB.trans (hb.mono hB.size)
  clear hb
  cases ka with
  | false =>
    go_wp2_with fail
    go_ret
    exact ⟨rfl, hB⟩
  | true =>
    go_wp2_with fail
    go_ret
    exact ⟨rfl, hB⟩
theorem spurTells_walk (A : Option Addr) (n k : Nat) (ns : List Int) (Ar : Option Addr) (nr kr : Nat) (nsr : List Int) (Ab : Option Addr) (nb kb : Nat) (nsb : List Int) (f : Int) (q : Int) (now : Int) (size : Int) (by_ : Int) (hnl : ns.length = n * 8) (_ : ∀ m ∈ ns, (Lit.int .i64 m).wf = true) (hnr : nsr.length = nr * 1) (hwr : ∀ m ∈ nsr, (Lit.int .i64 m).wf = true) (hnb : nsb.length = nb * 1) (hwb : ∀ m ∈ nsb, (Lit.int .i64 m).wf = true) (_ : (Lit.int .i64 f).wf = true) (_ : (Lit.int .i64 q).wf = true) (_ : (Lit.int .i64 now).wf = true) (_ : (Lit.int .i64 size).wf = true) (_ : (Lit.int .i64 by_).wf = true) (w : World) (hl : Sl w w.heap.size 8 A n k (ns.map (Value.int .i64))) (hlr : Sl w w.heap.size 1 Ar nr kr (nsr.map (Value.int .i64))) (hlb : Sl w w.heap.size 1 Ab nb kb (nsb.map (Value.int .i64))) :
    Calls Tryz.prog 3 #[.slice A n k, .slice Ar nr kr, .slice Ab nb kb, .int .i64 f, .int .i64 q, .int .i64 now, .int .i64 size, .int .i64 by_] w fun e w' => e = .returned (.bool true) ∧ Below w.heap.size w w' := by
  obtain ⟨d, hd, hlf⟩ := rowsEd_of n ns hnl
  have hir : nsr.length = nr := by omega
  have hib : nsb.length = nb := by omega
  rw [hlf] at hl
  exact spurTells_w A n k d Ar nr kr nsr Ab nb kb nsb f q now size by_ w hd hir (wf_getD hir hwr) hib (wf_getD hib hwb) hl hlr hlb
theorem spurTells_own : ownKnob Tryz.prog.godebug = none := by kernel_rfl
theorem spurTells_laidOut : laidOutB Tryz.prog = true := by kernel_rfl

set_option maxHeartbeats 1000000 in
set_option maxRecDepth 100000 in
theorem spurTells_lifted (os : Os) (started : os.Started) (H : Type) (enc : TypeId × Value → H) :
    ReturnsInHanded {} Tryz.checked os 3 .any (Rows.spurTellsSpec.pre6 enc Tryz.prog Tryz.f3 Rows.spurTellsRow.domain false) (Rows.spurTellsSpec.post enc Tryz.prog Tryz.f3 false true false false) := by
  refine returnsInHanded_of_change (C := Tryz.checked) spurTells_own started (by kernel_rfl) Tryz.func3
    (ChangeSpec.witness6 (enc := enc) (C := Tryz.checked) false ⟨#[], #[.slice none 0 0, .slice none 0 0, .slice none 0 0, .int .i64 0, .int .i64 0, .int .i64 0, .int .i64 0, .int .i64 0], []⟩ 8 (by kernel_rfl) (by kernel_rfl) (by kernel_rfl) (by kernel_rfl)) ?_
  intro W base args ds gs before hval0 hW hcnd _
  have hval : ∀ (j : Nat) t v, Tryz.f3.params[j]? = some t → args[j]? = some v → Value.okWide Tryz.prog W .any base t v := hval0
  have hW' := hW
  obtain ⟨p, q, hA0, hV, rfl, hfz, hnd⟩ := hW
  have hA : DataW.TrodAll enc Tryz.prog W 0 (fun _ => true) true Tryz.f3.params.toList args.toList ds p := hA0
  rw [Tryz.params3] at hA hval
  obtain ⟨v0, vs0, d0, ds0, p0, q0, hargs, rfl, rfl, h0, r0⟩ := trodAll_cons hA
  obtain ⟨v1, vs1, d1, ds1, p1, q1, rfl, rfl, rfl, h1, r1⟩ := trodAll_cons r0
  obtain ⟨v2, vs2, d2, ds2, p2, q2, rfl, rfl, rfl, h2, r2⟩ := trodAll_cons r1
  obtain ⟨v3, vs3, d3, ds3, p3, q3, rfl, rfl, rfl, h3, r3⟩ := trodAll_cons r2
  obtain ⟨v4, vs4, d4, ds4, p4, q4, rfl, rfl, rfl, h4, r4⟩ := trodAll_cons r3
  obtain ⟨v5, vs5, d5, ds5, p5, q5, rfl, rfl, rfl, h5, r5⟩ := trodAll_cons r4
  obtain ⟨v6, vs6, d6, ds6, p6, q6, rfl, rfl, rfl, h6, r6⟩ := trodAll_cons r5
  obtain ⟨v7, vs7, d7, ds7, p7, q7, rfl, rfl, rfl, h7, r7⟩ := trodAll_cons r6
  obtain ⟨rfl, rfl, rfl⟩ := trodAll_nil r7
  obtain rfl : args = #[v0, v1, v2, v3, v4, v5, v6, v7] := by cases args; simp_all
  obtain ⟨rfl, rfl⟩ := trodVars_none hV
  obtain ⟨A0, n0, c0, ns0, rfl, hl0, nl0, w0⟩ := open_rowsS 4 (K := 8) Tryz.underlying22 (by kernel_rfl) (by kernel_rfl) (by omega) (hval 0 22 v0 rfl rfl) h0
  obtain ⟨A1, n1, c1, ns1, rfl, hl1, nl1, w1⟩ := open_rowsS 4 (K := 1) Tryz.underlying23 (by kernel_rfl) (by kernel_rfl) (by omega) (hval 1 23 v1 rfl rfl) h1
  obtain ⟨A2, n2, c2, ns2, rfl, hl2, nl2, w2⟩ := open_rowsS 4 (K := 1) Tryz.underlying23 (by kernel_rfl) (by kernel_rfl) (by omega) (hval 2 23 v2 rfl rfl) h2
  obtain ⟨a3, rfl, rfl, rfl, w3⟩ := open_int Tryz.underlying3 (hval 3 3 v3 rfl rfl) h3
  obtain ⟨a4, rfl, rfl, rfl, w4⟩ := open_int Tryz.underlying3 (hval 4 3 v4 rfl rfl) h4
  obtain ⟨a5, rfl, rfl, rfl, w5⟩ := open_int Tryz.underlying3 (hval 5 3 v5 rfl rfl) h5
  obtain ⟨a6, rfl, rfl, rfl, w6⟩ := open_int Tryz.underlying3 (hval 6 3 v6 rfl rfl) h6
  obtain ⟨a7, rfl, rfl, rfl, w7⟩ := open_int Tryz.underlying3 (hval 7 3 v7 rfl rfl) h7
  clear hA0 hval0
  refine (spurTells_walk A0 n0 c0 ns0 A1 n1 c1 ns1 A2 n2 c2 ns2 a3 a4 a5 a6 a7 nl0 w0 nl1 w1 nl2 w2 w3 w4 w5 w6 w7 W hl0 hl1 hl2).mono fun e W' ⟨he, bel⟩ => ?_
  subst he
  exact ⟨_, rfl, law_post spurTells_laidOut (by kernel_rfl) rfl Tryz.underlying4 rfl rfl hW' bel⟩

theorem spurTells_proved : Rows.SpurTellsSaid :=
  OpenClaim.holds_of_wide 3 Tryz.f3 rfl rfl rfl rfl rfl rfl rfl ⟨rfl, rfl, rfl, rfl, rfl⟩ rfl rfl rfl rfl rfl (by kernel_rfl) Tryz.func3 (by kernel_rfl)
    (of_decide_eq_true (by kernel_rfl)) (by unfold Func.isWrapper; first | (rw [if_pos (by decide +kernel)]; kernel_rfl) | (rw [if_neg (by decide +kernel)]; exact ⟨rfl, rfl⟩))
    (fun os started H enc _ => spurTells_lifted os started H enc)
#print axioms spurTells_proved
end Go.Proofs.YtmbaklodgpcegaaGreat
