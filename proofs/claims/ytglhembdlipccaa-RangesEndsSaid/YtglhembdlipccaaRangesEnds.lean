/- What is left is just what does not end up to the time; what a contact has that ends behind it stays. No condition. -/
import Derived.Test.YtglhembdlipccaaRows
import Derived.Test.YtglhembdlipccaaRangesOw
namespace Go.Proofs.Ytglhembdlipccaa
open Go.ChangeShapes Go.WideShapes Go.ChangeAt Go.RowKit Go.Sort
set_option linter.unusedSimpArgs false
set_option linter.unusedVariables false
theorem filt_at {d : List Rg} {p : Rg → Bool} {j : Nat} (hj : j < d.length) (hp : p (gRg d j) = true) : ((d.take j).filter p).length < (d.filter p).length ∧ gRg (d.filter p) ((d.take j).filter p).length = gRg d j ∧ ((d.take (j + 1)).filter p).length = ((d.take j).filter p).length + 1 := by
  have hs : d.filter p = (d.take j).filter p ++ gRg d j :: (d.drop (j + 1)).filter p := by
    conv => lhs; rw [← List.take_append_drop j d, List.filter_append, List.drop_eq_getElem_cons hj, ← gRg_elem hj, List.filter_cons, if_pos hp]
  have ht : (d.take (j + 1)).filter p = (d.take j).filter p ++ [gRg d j] := by
    rw [List.take_succ_eq_append_getElem hj, List.filter_append, ← gRg_elem hj, List.filter_cons, if_pos hp]
    rfl
  refine ⟨?_, ?_, ?_⟩
  · rw [hs]; simp
  · rw [hs]
    unfold gRg
    rw [List.getD_eq_getElem?_getD, List.getElem?_append_right (Nat.le_refl _)]
    simp
  · rw [ht]; simp
theorem filt_skip {d : List Rg} {p : Rg → Bool} {j : Nat} (hj : j < d.length) (hp : p (gRg d j) = false) : ((d.take (j + 1)).filter p).length = ((d.take j).filter p).length := by
  rw [List.take_succ_eq_append_getElem hj, List.filter_append, ← gRg_elem hj, List.filter_cons, if_neg (by rw [hp]; decide)]
  simp
def Keeps (now : Int) (x : Rg) : Bool := !decide (x.en ≤ now)
set_option maxHeartbeats 4000000 in
set_option maxRecDepth 100000 in
theorem rangesEnds_walk (A : Option Addr) (n c : Nat) (ns : List Int) (o a0 a1 a2 a3 a4 a5 : Int) (hnl : ns.length = n * 5) (hw : ∀ m ∈ ns, (Lit.int .i64 m).wf = true) (hk : (Lit.int .i64 o).wf = true) (hw1 : ∀ m ∈ [a0, a1, a2, a3, a4, a5], (Lit.int .i64 m).wf = true) (w : World) (hl : Sl w w.heap.size 5 A n c (ns.map (Value.int .i64))) :
    Calls Try.prog 6 #[.slice A n c, .int .i64 o, .agg #[.int .i64 a0, .int .i64 a1, .int .i64 a2, .int .i64 a3, .int .i64 a4, .int .i64 a5]] w fun e w' => e = .returned (.bool true) ∧ Below w.heap.size w w' := by
  clear hw hw1 hk
  obtain ⟨d, hd, hlf⟩ := rowsRg_of n ns hnl
  rw [hlf] at hl
  clear hlf hnl
  have hB0 : Below w.heap.size w (w.alloc (.cells #[.int .i64 a0, .int .i64 a1, .int .i64 a2, .int .i64 a3, .int .i64 a4, .int .i64 a5] 38)) := by (repeat (first | exact Below.refl _ _ | refine Below.alloc ?_ (by first | omega | (simp; done) | (simp; omega)) _ | refine Below.setCell ?_ (by first | omega | (simp; done) | (simp; omega)) _ | refine Below.drew ?_))
  have hX0 := Blok.new w 38 #[.int .i64 a0, .int .i64 a1, .int .i64 a2, .int .i64 a3, .int .i64 a4, .int .i64 a5]
  have hl0 := hl.below hB0
  by_cases hn : 50 < n
  · go_enter Try.func6, Try.ntmps6
    go_wp2_with fail
    refine (small07 _).mono ?_
    rintro e w1 ⟨rfl, hB⟩
    go_wp2
    go_ret
    exact ⟨rfl, by (repeat (first | exact Below.refl _ _ | exact hB | refine Below.alloc ?_ (by first | omega | (simp; done) | (simp; omega)) _ | refine Below.setCell ?_ (by first | omega | (simp; done) | (simp; omega)) _ | refine Below.drew ?_ | refine Below.trans ?_ (hB.mono (by first | omega | (simp; done) | (simp; omega)))))⟩
  · have hn1 : n ≤ 50 := by omega
    clear hn
    have g1 : decide ((n : Int) > 50) = false := by simp; omega
    go_enter Try.func6, Try.ntmps6
    go_wp2_with fail
    have hs0 := hB0.size
    generalize w.alloc (.cells #[.int .i64 a0, .int .i64 a1, .int .i64 a2, .int .i64 a3, .int .i64 a4, .int .i64 a5] 38) = w0 at *
    refine (small07 _).mono ?_
    rintro e w1 ⟨rfl, hb⟩
    have hl1 := hl0.below (hb.mono hs0)
    have hX1 := hX0.below hb hX0.lt
    have hB1 := hB0.trans (hb.mono hs0)
    have hs1 := hB1.size
    clear hb hl0 hX0 hB0 hs0
    go_wp2_with fail
    refine (right_any A n c d w1 hd (by omega) (hl1.more hs1)).mono ?_
    rintro e w2 ⟨rfl, hb⟩
    have hl2 := hl1.below (hb.mono hs1)
    have hX2 := hX1.below hb hX1.lt
    have hB2 := hB1.trans (hb.mono hs1)
    have hs2 := hB2.size
    clear hb hl1 hX1 hB1 hs1
    cases hrt : rightB d
    · go_wp2_with fail
      go_ret
      exact ⟨rfl, hB2⟩
    · have hso := sort_of_right hrt
      clear hrt
      go_wp2_with fail
      refine (expire_any A n c d o w2 hd (by omega) (hl2.more hs2)).mono ?_
      rintro e w3 ⟨v, rfl, hv, hb⟩
      replace hv : w3.ownsRow w2.heap.size 27 5 v (d.filter (Keeps o)).length (flatRg (d.filter (Keeps o))) := hv
      have hl3 := hl2.below (hb.mono hs2)
      have hX3 := hX2.below hb hX2.lt
      have hB3 := hB2.trans (hb.mono hs2)
      have hs3 := hB3.size
      clear hb hl2 hX2 hB2
      obtain ⟨A1, c1, rfl⟩ := slice_of_own hv
      have hm50 : (d.filter (Keeps o)).length ≤ 50 := Nat.le_trans (List.length_filter_le _ _) (by omega)
      obtain ⟨m, hm⟩ : ∃ m, d.filter (Keeps o) = m := ⟨_, rfl⟩
      obtain ⟨q, hq⟩ : ∃ q, m.length = q := ⟨_, rfl⟩
      rw [hm, hq] at hv hm50
      have hvs : Sl w3 w3.heap.size 5 A1 q c1 (flatRg m) := Sl.of_own hv
      have HD := Lib.hid hd
      have HM := Lib.hid hm
      have HQ := Lib.hid hq
      have HSO := Lib.hid hso
      rw [hm, hq]
      clear hv hd hm hq hso
      have hB0 := Below.refl w3.heap.size w3
      go_wp2
      go_loopw [9, 10] (fun kv iv wr => ∃ i k : Nat, i ≤ n ∧ k ≤ q ∧ kv = .int .i64 k ∧ iv = .int .i64 i ∧ Hid (((d.take i).filter (Keeps o)).length = k) ∧ Below w3.heap.size w3 wr) (fun _ iv _ => n - (intOf iv).toNat)
      case atStart => exact ⟨0, 0, by omega, by omega, rfl, rfl, rfl, hB0⟩
      case round =>
        obtain ⟨i, k, hin, hkq, rfl, rfl, HK, hB⟩ := hrel
        clear hB0
        have hs := hB.size
        by_cases hi : i < n
        · obtain ⟨ad, rfl, hab, c0, c1, c2, c3, c4⟩ := ((hl3.more hs3).below hB).lst.atRg HD.out hi
          obtain ⟨x, hx⟩ : ∃ x, gRg d i = x := ⟨_, rfl⟩
          rw [hx] at c0 c1 c2 c3 c4
          have HX := Lib.hid hx
          clear hx
          by_cases hp : x.en ≤ o
          · have hpk : Keeps o (gRg d i) = false := by rw [HX.out]; simp [Keeps, hp]
            have HN := Lib.hid (filt_skip (p := Keeps o) (j := i) (by have := HD.out; omega) hpk)
            clear hpk
            go_wp2
            go_roundw
            case rel => exact ⟨i + 1, k, by omega, hkq, rfl, by go_num, HN.out.trans HK.out, hB⟩
            case measure => simp [intOf]; omega
          · have hpk : Keeps o (gRg d i) = true := by rw [HX.out]; simp [Keeps, hp]
            have hfa := filt_at (p := Keeps o) (j := i) (by have := HD.out; omega) hpk
            rw [HM.out, HK.out, HQ.out, HX.out] at hfa
            obtain ⟨hkq2, hgx, hnx⟩ := hfa
            obtain ⟨ad', rfl, hab', e0, e1, e2, e3, e4⟩ := (hvs.below hB).lst.atRg HQ.out hkq2
            rw [hgx] at e0 e1 e2 e3 e4
            have HN := Lib.hid hnx
            clear hpk hgx hnx
            have hneq := neqRg x x
            simp only [decide_true, Bool.not_true] at hneq
            have hgd : Try.prog.eqGuardType Try.prog.depth 27 = false := by kernel_rfl
            have hg10 : decide (q ≤ k) = false := by simp; omega
            have hkI : (k : Int) < (q : Int) := by omega
            go_wp2_with fail
            go_still (by kernel_rfl)
            clear c0 c1 c2 c3 c4 e0 e1 e2 e3 e4
            have hB2 : Below w3.heap.size w3 { wr with drawn := wr.drawn + 1 } := hB.drew
            generalize ({ wr with drawn := wr.drawn + 1 } : World) = wq at *
            clear hB
            go_wp2
            go_roundw
            case rel => exact ⟨i + 1, k + 1, by omega, by omega, by go_num, by go_num, HN.out, hB2⟩
            case measure => simp [intOf]; omega
        · obtain rfl : i = n := by omega
          have hkq3 : k = q := by
            have := HK.out
            rw [List.take_of_length_le (by have := HD.out; omega), HM.out, HQ.out] at this
            exact this.symm
          subst hkq3
          clear HK hin hkq hi
          have hl4 := hl3.below (hB.mono hs3)
          have hX4 := hX3.below hB hX3.lt
          have hB4 := hB3.trans (hB.mono hs3)
          have hs4 := hB4.size
          have hv4 := (hvs.below hB).more hs
          clear hB hl3 hX3 hB3 hs3 hvs hs
          have k0 : wr.cell? ⟨w.heap.size, 0, none⟩ = some (.int .i64 a0) := hX4.cell 0
          have k1 : wr.cell? ⟨w.heap.size, 1, none⟩ = some (.int .i64 a1) := hX4.cell 1
          have k2 : wr.cell? ⟨w.heap.size, 2, none⟩ = some (.int .i64 a2) := hX4.cell 2
          have k3 : wr.cell? ⟨w.heap.size, 3, none⟩ = some (.int .i64 a3) := hX4.cell 3
          have k4 : wr.cell? ⟨w.heap.size, 4, none⟩ = some (.int .i64 a4) := hX4.cell 4
          have k5 : wr.cell? ⟨w.heap.size, 5, none⟩ = some (.int .i64 a5) := hX4.cell 5
          go_wp2_with fail
          clear k0 k1 k2 k3 k4 k5
          refine (owlt_any A i c d a0 a1 a2 a3 a4 a5 wr HD.out (by omega) (hl4.more hs4)).mono ?_
          rintro e w5 ⟨j5, o5, b5, rfl, hask5, how5, hb⟩
          have hX5 := hX4.below hb hX4.lt
          have hB5 := hB4.trans (hb.mono hs4)
          have hs5 := hB5.size
          have hv5 := (hv4.below hb).more hb.size
          have HT5 : Hid (a3 < a4 → Tells d a1 a2 a3 a4 o5 b5) := Lib.hid (fun hc => tells_of HSO.out HD.out hc hask5 how5)
          clear hb hl4 hX4 hB4 hs4 hv4 hask5 how5
          have k0 : w5.cell? ⟨w.heap.size, 0, none⟩ = some (.int .i64 a0) := hX5.cell 0
          have k1 : w5.cell? ⟨w.heap.size, 1, none⟩ = some (.int .i64 a1) := hX5.cell 1
          have k2 : w5.cell? ⟨w.heap.size, 2, none⟩ = some (.int .i64 a2) := hX5.cell 2
          have k3 : w5.cell? ⟨w.heap.size, 3, none⟩ = some (.int .i64 a3) := hX5.cell 3
          have k4 : w5.cell? ⟨w.heap.size, 4, none⟩ = some (.int .i64 a4) := hX5.cell 4
          have k5 : w5.cell? ⟨w.heap.size, 5, none⟩ = some (.int .i64 a5) := hX5.cell 5
          go_wp2_with fail
          clear k0 k1 k2 k3 k4 k5
          refine (owlt_any A1 k c1 m a0 a1 a2 a3 a4 a5 w5 HQ.out (by omega) hv5).mono ?_
          rintro e w6 ⟨j6, o6, b6, rfl, hask6, how6, hb⟩
          have hX6 := hX5.below hb hX5.lt
          have hB6 := hB5.trans (hb.mono hs5)
          have hs6 := hB6.size
          have HT6 : Hid (a3 < a4 → Tells m a1 a2 a3 a4 o6 b6) := Lib.hid (fun hc => tells_of (HM.out ▸ HSO.out.filter _) HQ.out hc hask6 how6)
          clear hb hX5 hB5 hs5 hv5 hask6 how6
          have k0 : w6.cell? ⟨w.heap.size, 0, none⟩ = some (.int .i64 a0) := hX6.cell 0
          have k1 : w6.cell? ⟨w.heap.size, 1, none⟩ = some (.int .i64 a1) := hX6.cell 1
          have k2 : w6.cell? ⟨w.heap.size, 2, none⟩ = some (.int .i64 a2) := hX6.cell 2
          have k3 : w6.cell? ⟨w.heap.size, 3, none⟩ = some (.int .i64 a3) := hX6.cell 3
          have k4 : w6.cell? ⟨w.heap.size, 4, none⟩ = some (.int .i64 a4) := hX6.cell 4
          have k5 : w6.cell? ⟨w.heap.size, 5, none⟩ = some (.int .i64 a5) := hX6.cell 5
          have hqq : (((i : Nat) : Int) == (i : Int)) = true := by simp
          have hkk : (((k : Nat) : Int) == (k : Int)) = true := by simp
          by_cases hao : a4 ≤ o
          · have hdo : decide (a4 ≤ o) = true := by simpa using hao
            go_wp2_with fail
            go_ret
            exact ⟨rfl, hB6⟩
          · have hdo : decide (a4 ≤ o) = false := by simpa using hao
            go_wp2_with fail
            clear k0 k1 k2 k3 k4 k5
            refine (contact_is _ rfl w6).mono ?_
            rintro e w7 ⟨rfl, hb⟩
            have hB7 := hB6.trans (hb.mono hs6)
            clear hb hX6 hB6 hs6
            cases hcb : contactB a0 a1 a2 a3 a4 a5
            · clear HT5 HT6
              go_wp2_with fail
              go_ret
              exact ⟨rfl, hB7⟩
            · have hcs := contactB_spec.1 hcb
              have hsame := tells_same HSO.out (by omega : a3 < a4) (fun x hx => by rw [← HM.out] at hx; exact (List.mem_filter.1 hx).1) (fun x hx hc => by
                rw [← HM.out, List.mem_filter]
                refine ⟨hx, ?_⟩
                unfold covR at hc
                rw [decide_eq_true_eq] at hc
                unfold Keeps
                simp
                omega) (HT5.out (by omega)) (HT6.out (by omega))
              obtain ⟨rfl, rfl⟩ := hsame
              clear HT5 HT6 hcs
              have hoo : (o5 == o5) = true := by simp
              have hbb : (b5 == b5) = true := by simp
              go_wp2_with fail
              go_ret
              exact ⟨rfl, hB7⟩
theorem rangesEnds_own : ownKnob Try.prog.godebug = none := by kernel_rfl
theorem rangesEnds_laidOut : laidOutB Try.prog = true := by kernel_rfl

set_option maxHeartbeats 1000000 in
set_option maxRecDepth 100000 in
theorem rangesEnds_lifted (os : Os) (started : os.Started) (H : Type) (enc : TypeId × Value → H) :
    ReturnsInHanded {} Try.checked os 6 .any (Rows.rangesEndsSpec.pre6 enc Try.prog Try.f6 Rows.rangesEndsRow.domain false) (Rows.rangesEndsSpec.post enc Try.prog Try.f6 false true false false) := by
  refine returnsInHanded_of_change (C := Try.checked) rangesEnds_own started (by kernel_rfl) Try.func6
    (ChangeSpec.witness6 (enc := enc) (C := Try.checked) false ⟨#[], #[.slice none 0 0, .int .i64 0, .agg #[.int .i64 0, .int .i64 0, .int .i64 0, .int .i64 0, .int .i64 0, .int .i64 0]], []⟩ 8 (by kernel_rfl) (by kernel_rfl) (by kernel_rfl) (by kernel_rfl)) ?_
  intro W base args ds gs before hval0 hW hcnd _
  have hval : ∀ (j : Nat) t v, Try.f6.params[j]? = some t → args[j]? = some v → Value.okWide Try.prog W .any base t v := hval0
  have hW' := hW
  obtain ⟨p, q, hA0, hV, rfl, hfz, hnd⟩ := hW
  have hA : DataW.TrodAll enc Try.prog W 0 (fun _ => true) true Try.f6.params.toList args.toList ds p := hA0
  rw [Try.params6] at hA hval
  obtain ⟨v0, vs0, d0, ds0, p0, q0, hargs, rfl, rfl, h0, r0⟩ := trodAll_cons hA
  obtain ⟨v1, vs1, d1, ds1, p1, q1, rfl, rfl, rfl, h1, r1⟩ := trodAll_cons r0
  obtain ⟨v2, vs2, d2, ds2, p2, q2, rfl, rfl, rfl, h2, r2⟩ := trodAll_cons r1
  obtain ⟨rfl, rfl, rfl⟩ := trodAll_nil r2
  obtain rfl : args = #[v0, v1, v2] := by cases args; simp_all
  obtain ⟨rfl, rfl⟩ := trodVars_none hV
  obtain ⟨A0, n0, c0, ns0, rfl, hl0, nl0, w0⟩ := open_rowsS 4 (K := 5) Try.underlying22 (by kernel_rfl) (by kernel_rfl) (by omega) (hval 0 22 v0 rfl rfl) h0
  obtain ⟨a1, rfl, rfl, rfl, w1⟩ := open_int Try.underlying3 (hval 1 3 v1 rfl rfl) h1
  obtain ⟨n2, e2, l2, w2⟩ := open_flat 4 Try.underlying38 (by kernel_rfl) (hval 2 38 v2 rfl rfl) h2
  obtain ⟨a2_0, a2_1, a2_2, a2_3, a2_4, a2_5, rfl⟩ : ∃ a2_0 a2_1 a2_2 a2_3 a2_4 a2_5 : Int, n2 = [a2_0, a2_1, a2_2, a2_3, a2_4, a2_5] := by
    rw [show Try.prog.cellsOf 38 = 6 by kernel_rfl] at l2
    match n2, l2 with
    | [a2_0, a2_1, a2_2, a2_3, a2_4, a2_5], _ => exact ⟨_, _, _, _, _, _, rfl⟩
  obtain rfl : v2 = .agg #[.int .i64 a2_0, .int .i64 a2_1, .int .i64 a2_2, .int .i64 a2_3, .int .i64 a2_4, .int .i64 a2_5] := e2
  clear hA0 hval0
  refine (rangesEnds_walk A0 n0 c0 ns0 a1 a2_0 a2_1 a2_2 a2_3 a2_4 a2_5 nl0 w0 w1 w2 W hl0).mono fun e W' ⟨he, bel⟩ => ?_
  subst he
  exact ⟨_, rfl, law_post rangesEnds_laidOut (by kernel_rfl) rfl Try.underlying4 rfl rfl hW' bel⟩

theorem rangesEnds_proved : Rows.RangesEndsSaid :=
  OpenClaim.holds_of_wide 6 Try.f6 rfl rfl rfl rfl rfl rfl rfl ⟨rfl, rfl, rfl, rfl, rfl⟩ rfl rfl rfl rfl rfl (by kernel_rfl) Try.func6 (by kernel_rfl)
    (of_decide_eq_true (by kernel_rfl)) (by unfold Func.isWrapper; first | (rw [if_pos (by decide +kernel)]; kernel_rfl) | (rw [if_neg (by decide +kernel)]; exact ⟨rfl, rfl⟩))
    (fun os started H enc _ => rangesEnds_lifted os started H enc)
#print axioms rangesEnds_proved
end Go.Proofs.Ytglhembdlipccaa
