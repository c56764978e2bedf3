/- What is inserted one by one, as many as are kept, is what is sorted, and its first ones: OrderInserts returns true. No condition. -/
import Derived.Test.YtbhhkaaidhapbaaRows
import Derived.Test.YtbhhkaaidhapbaaSmall13
import Derived.Test.YtbhhkaaidhapbaaOrdRead
namespace Go.Proofs.Ytbhhkaaidhapbaa
open Go.ChangeShapes Go.WideShapes Go.ChangeAt Go.RowKit Go.Sort
set_option linter.unusedSimpArgs false
set_option linter.unusedVariables false
set_option maxHeartbeats 4000000 in
set_option maxRecDepth 100000 in
theorem orderInserts_walk (A : Option Addr) (n c : Nat) (L : List Rx) (most : Int) (nl : L.length = n) (wm : (Lit.int .i64 most).wf = true) (w : World) (hl : Sl w w.heap.size 2 A n c (flatRh (hdRx L))) (hr : ∀ x ∈ L, x.raw w) :
    Calls Try.prog 6 #[.slice A n c, .int .i64 most] w fun e w' => e = .returned (.bool true) ∧ Below w.heap.size w w' := by
  have HN := Lib.hid nl
  have HL := Lib.hid (fun w' (hb : Below w.heap.size w w') => hl.up hb)
  have HR := Lib.hid hr
  clear nl hl hr wm
  go_enter Try.func6, Try.ntmps6
  go_wp2_with fail
  refine (small13_any w).mono ?_
  rintro e w1 ⟨rfl, hB⟩
  go_wp2_with fail
  refine (few13_any A n c L w1 HN.out (HL.out _ hB)).mono ?_
  rintro e w2 ⟨b, rfl, hb, rfl⟩
  cases b
  · clear hb
    go_wp2
    go_ret
    exact ⟨rfl, hB⟩
  have HF := Lib.hid (hb rfl)
  have hn50 : n ≤ 50 := by have := HF.out.1; have := HN.out; omega
  have HOK := Lib.hid (few_ok HF.out HR.out)
  clear hb
  by_cases hm : most < 0
  · have hmd : decide (most < 0) = true := decide_eq_true hm
    go_wp2
    go_ret
    exact ⟨rfl, hB⟩
  have hmd : decide (most < 0) = false := decide_eq_false hm
  obtain ⟨T, hT⟩ : ∃ T, L.map Rx.rt = T := ⟨_, rfl⟩
  have HT := Lib.hid hT
  have HTN : Hid (T.length = n) := by rw [← HT.out, ← HN.out]; exact List.length_map ..
  clear hT
  go_wp2_with fail
  go_loopw [7, 8] (fun xv iv wr => ∃ i : Nat, iv = .int .i64 i ∧ i ≤ n ∧ RL wr xv ((compactT (sortT (T.take i))).take most.toNat) ∧ Below w.heap.size w wr) (fun _ iv _ => n - (intOf iv).toNat)
  case atStart => exact ⟨0, rfl, by omega, by rw [List.take_zero, compact_nil, List.take_nil]; exact RL.nil0 _, hB⟩
  case round =>
    clear hB
    obtain ⟨i, rfl, hin, hx, hB⟩ := hrel
    by_cases h1 : i < n
    · have h1z : (i : Int) < (n : Int) := by omega
      obtain ⟨ad, rfl, hb, x0, x1⟩ := (HL.out wr hB).lst.atRx HN.out h1
      have hxo := (HOK.out _ (gRx_mem (d := L) (i := i) (by have := HN.out; omega))).below hB
      have hgt : T.take (i + 1) = T.take i ++ [(gRx L i).rt] := by
        rw [← gT_rt, HT.out, gT_get (by rw [HTN.out]; exact h1), List.take_succ_eq_append_getElem (by rw [HTN.out]; exact h1)]
      obtain ⟨x, hxx⟩ : ∃ x, gRx L i = x := ⟨_, rfl⟩
      rw [hxx] at x0 x1 hxo hgt
      have HGT := Lib.hid hgt
      have HX : Hid (x.ok wr) := hxo
      have HXV := Lib.hid hx
      have hlen : ((compactT (sortT (T.take i))).take most.toNat).length < 999 := by
        have h2 : (compactT (sortT (T.take i))).length ≤ (T.take i).length := by
          have := kpT_len (sortT (T.take i)) (sortT (T.take i)).length
          have h3 : (sortT (T.take i)).length = (T.take i).length := sortT_len _
          unfold compactT
          omega
        rw [List.length_take]
        rw [List.length_take] at h2
        omega
      have HLEN := Lib.hid hlen
      clear hxx hxo hx hgt hlen
      go_wp2_with fail
      refine (insV HXV.out (RV.mk' (d := x.d) (t := x.h.t) HX.out.1 HX.out.2.1 HX.out.2.2) HLEN.out most _ rfl).mono ?_
      rintro e w4 ⟨z, rfl, hz, hb4⟩
      have hB4 := hB.trans (hb4.mono hB.size)
      have hz2 : RL w4 z ((compactT (sortT (T.take (i + 1)))).take most.toNat) := by
        rw [HGT.out, ← ins_step]; exact hz
      clear x0 x1 hz hb4 HXV HX hb hB
      go_wp2
      go_roundw
      case rel => exact ⟨i + 1, by go_num, by omega, hz2, hB4⟩
      case measure => simp [intOf]; omega
    · have h1z : ¬ (i : Int) < (n : Int) := by omega
      obtain rfl : i = n := by omega
      rw [show T.take i = T from List.take_of_length_le (by rw [HTN.out]; exact Nat.le_refl _)] at hx
      obtain ⟨D, hD⟩ : ∃ D, compactT (sortT T) = D := ⟨_, rfl⟩
      rw [hD] at hx
      have HD := Lib.hid hD
      clear hD
      obtain ⟨kd, hkd⟩ : ∃ k, D.length = k := ⟨_, rfl⟩
      obtain ⟨kx, hkx⟩ : ∃ k, (D.take most.toNat).length = k := ⟨_, rfl⟩
      have hkx2 : kx = min most.toNat kd := by rw [← hkx, ← hkd, List.length_take]
      have hkd50 : kd ≤ 50 := by
        have := kpT_len (sortT T) (sortT T).length
        have h3 : (sortT T).length = T.length := sortT_len _
        have h4 : (kpT (sortT T) (sortT T).length).length = kd := by rw [← hkd, ← HD.out]; rfl
        have := HTN.out
        omega
      obtain ⟨Ax, cx, rfl⟩ := hx.len hkx
      have HKD := Lib.hid hkd
      have HKX := Lib.hid hkx2
      have HXV := Lib.hid (fun w' (hb : Below wr.heap.size wr w') => hx.below hb)
      have HRL : Hid (RL wr (.slice A i c) T) := ⟨A, i, c, L, rfl, HN.out, HT.out, HL.out _ hB, fun x hx => (HOK.out x hx).below hB⟩
      clear hkx2 hx hkd hkx
      go_wp2_with fail
      refine (sortV' HRL.out (by rw [HTN.out]; omega) D HD.out).mono ?_
      rintro e w4 ⟨v, rfl, hv, hb4⟩
      have hB4 := hB.trans (hb4.mono hB.size)
      obtain ⟨As, cs, rfl⟩ := hv.len HKD.out
      have hxv := HXV.out _ hb4
      have hcap : kd ≤ cs := by
        obtain ⟨A1, n1, c1, L1, e1, _, _, h4, _⟩ := hv
        injection e1 with _ e2 e3
        subst e2 e3
        exact h4.cap
      have HSV := Lib.hid hv
      have HXV2 := Lib.hid hxv
      clear hb4 hv hxv HXV hB HRL
      by_cases hmk : most < (kd : Int)
      · obtain ⟨q, rfl⟩ : ∃ q : Nat, most = q := ⟨most.toNat, by omega⟩
        have hqk : q < kd := by omega
        have hqc : (q : Int) ≤ (cs : Int) := by omega
        have hkxq : kx = q := by have := HKX.out; rw [this]; simp; omega
        subst hkxq
        have hqz : ((kx : Int) == (kx : Int)) = true := by simp
        have HP := Lib.hid (places_any HXV2.out (HSV.out.take (m := kx) (by omega)) (by rw [List.length_take, HKD.out]; omega))
        go_wp2_with fail
        refine HP.out.mono ?_
        rintro e w5 ⟨rfl, hb5⟩
        go_wp2
        go_ret
        exact ⟨by simp, hB4.trans (hb5.mono hB4.size)⟩
      · have hkxq : kx = kd := by have := HKX.out; rw [this]; omega
        subst hkxq
        have hqc : (kx : Int) ≤ (cs : Int) := by omega
        have hqz : ((kx : Int) == (kx : Int)) = true := by simp
        have hpl : RL w4 (.slice As kx cs) (D.take most.toNat) := by
          rw [List.take_of_length_le (by rw [HKD.out]; omega)]; exact HSV.out
        have HP := Lib.hid (places_any HXV2.out hpl (by rw [List.length_take, HKD.out]; omega))
        clear hpl
        go_wp2_with fail
        refine HP.out.mono ?_
        rintro e w5 ⟨rfl, hb5⟩
        go_wp2
        go_ret
        exact ⟨by simp, hB4.trans (hb5.mono hB4.size)⟩
theorem orderInserts_own : ownKnob Try.prog.godebug = none := by kernel_rfl
theorem orderInserts_laidOut : laidOutB Try.prog = true := by kernel_rfl

set_option maxHeartbeats 1000000 in
set_option maxRecDepth 100000 in
theorem orderInserts_lifted (os : Os) (started : os.Started) (H : Type) (enc : TypeId × Value → H) :
    ReturnsInHanded {} Try.checked os 6 .any (Rows.orderInsertsSpec.pre6 enc Try.prog Try.f6 Rows.orderInsertsRow.domain false) (Rows.orderInsertsSpec.post enc Try.prog Try.f6 false true false false) := by
  refine returnsInHanded_of_change (C := Try.checked) orderInserts_own started (by kernel_rfl) Try.func6
    (ChangeSpec.witness6 (enc := enc) (C := Try.checked) false ⟨#[], #[.slice none 0 0, .int .i64 0], []⟩ 8 (by kernel_rfl) (by kernel_rfl) (by kernel_rfl) (by kernel_rfl)) ?_
  intro W base args ds gs before hval0 hW hcnd _
  have hval : ∀ (j : Nat) t v, Try.f6.params[j]? = some t → args[j]? = some v → Value.okWide Try.prog W .any base t v := hval0
  have hW' := hW
  obtain ⟨p, q, hA0, hV, rfl, hfz, hnd⟩ := hW
  have hA : DataW.TrodAll enc Try.prog W 0 (fun _ => true) true Try.f6.params.toList args.toList ds p := hA0
  rw [Try.params6] at hA hval
  obtain ⟨v0, vs0, d0, ds0, p0, q0, hargs, rfl, rfl, h0, r0⟩ := trodAll_cons hA
  obtain ⟨v1, vs1, d1, ds1, p1, q1, rfl, rfl, rfl, h1, r1⟩ := trodAll_cons r0
  obtain ⟨rfl, rfl, rfl⟩ := trodAll_nil r1
  obtain rfl : args = #[v0, v1] := by cases args; simp_all
  obtain ⟨rfl, rfl⟩ := trodVars_none hV
  obtain ⟨A0, n0, c0, L0, rfl, hl0, nl0, w0⟩ := open_routes 4 Try.underlying22 Try.underlying25 (by kernel_rfl) Try.underlying23 Try.underlying3 (by kernel_rfl) (by kernel_rfl) (hval 0 22 v0 rfl rfl) h0
  obtain ⟨a1, rfl, rfl, rfl, w1⟩ := open_int Try.underlying3 (hval 1 3 v1 rfl rfl) h1
  clear hA0 hval0
  refine (orderInserts_walk A0 n0 c0 L0 a1 nl0 w1 W hl0 w0).mono fun e W' ⟨he, bel⟩ => ?_
  subst he
  exact ⟨_, rfl, law_post orderInserts_laidOut (by kernel_rfl) rfl Try.underlying4 rfl rfl hW' bel⟩

theorem orderInserts_proved : Rows.OrderInsertsSaid :=
  OpenClaim.holds_of_wide 6 Try.f6 rfl rfl rfl rfl rfl rfl rfl ⟨rfl, rfl, rfl, rfl, rfl⟩ rfl rfl rfl rfl rfl (by kernel_rfl) Try.func6 (by kernel_rfl)
    (of_decide_eq_true (by kernel_rfl)) (by unfold Func.isWrapper; first | (rw [if_pos (by decide +kernel)]; kernel_rfl) | (rw [if_neg (by decide +kernel)]; exact ⟨rfl, rfl⟩))
    (fun os started H enc _ => orderInserts_lifted os started H enc)
#print axioms orderInserts_proved
end Go.Proofs.Ytbhhkaaidhapbaa
