/- The program's earliest times: Times. It makes new memory alone. -/
import Derived.Test.YtjkcjbcbnnpmfaaSpread
import Derived.Test.YtjkcjbcbnnpmfaaGP
import Derived.Test.YtjkcjbcbnnpmfaaGK
import Derived.Test.YtjkcjbcbnnpmfaaEarly1
namespace Go.Proofs.Ytjkcjbcbnnpmfaa
open Go.ChangeShapes Go.WideShapes Go.ChangeAt Go.RowKit Go.Sort Go.Maps Hp
set_option linter.unusedSimpArgs false
set_option linter.unusedVariables false
set_option maxHeartbeats 4000000 in
set_option maxRecDepth 100000 in
theorem etimes_any (Ae : Option Addr) (ne ce : Nat) (l : List Ed) (q now size : Int) (As : Option Addr) (ns cs : Nat) (sh : List Int) (w : World) (hde : l.length = ne) (hne : ne ≤ 1000) (hds : sh.length = ns) (hns : ns ≤ 100000) (hwf : ∀ k, k < ns → (Lit.int .i64 (sh.getD k 0)).wf = true) (hle : Sl w w.heap.size 8 Ae ne ce (flatEd l)) (hls : Sl w w.heap.size 1 As ns cs (sh.map (Value.int .i64))) :
    Calls Try.prog 31 #[.slice Ae ne ce, .int .i64 q, .int .i64 now, .int .i64 size, .slice As ns cs] w fun e w' => ∃ A' n' c' r, e = .returned (.slice A' n' c') ∧ r.length = n' ∧ n' ≤ ne + 1 ∧ IsTimes l q now size sh r ∧ Sl w' w'.heap.size 2 A' n' c' (flat2 r) ∧ Below w.heap.size w w' := by
  have HDE := Lib.hid hde
  have HDS := Lib.hid hds
  have HWF := Lib.hid hwf
  obtain ⟨ab, hab⟩ : ∃ b, askE l q now size = b := ⟨_, rfl⟩
  have HAB := Lib.hid hab
  cases ab with
  | false =>
    have HO : Hid (walkE l [] q now size = none) := by
      show walkE l [] q now size = none
      unfold walkE
      rw [hab]; rfl
    clear hde hds hwf hab
    go_enter Try.func31, Try.ntmps31
    go_wp2_with fail
    refine (pwalk_any Ae ne ce l none 0 0 [] q now size w HDE.out (by omega) rfl (by omega) (fun k hk => by omega) hle (Sl.nil0 _ _ _) none HO.out).mono ?_
    rintro e w1 ⟨v, rfl, hv, hb⟩
    clear hv
    go_wp2_with fail
    go_ret
    exact ⟨none, 0, 0, [], rfl, rfl, by omega, ⟨List.Pairwise.nil, fun _ => rfl, fun h => by rw [HAB.out] at h; cases h⟩, Sl.nil0 _ _ _, hb⟩
  | true =>
    have HO : Hid (walkE l [] q now size = some []) := by
      show walkE l [] q now size = some []
      unfold walkE
      rw [hab]; rfl
    have hq := (askE_spec.1 hab).1
    have HQ := Lib.hid hq
    have HRE := Lib.hid (askE_spec.1 hab).2.2.2
    have hqw : (Lit.int .i64 q).wf = true := wfI (by omega)
    clear hde hds hwf hab hq
    go_enter Try.func31, Try.ntmps31
    go_wp2_with fail
    refine (pwalk_any Ae ne ce l none 0 0 [] q now size w HDE.out (by omega) rfl (by omega) (fun k hk => by omega) hle (Sl.nil0 _ _ _) (some []) HO.out).mono ?_
    rintro e w1 ⟨v, rfl, hv, hb⟩
    have hB := hb
    replace hle := hle.up hb
    replace hls := hls.up hb
    clear hv hb
    go_wp2_with fail
    refine (eclosed_any q As ns cs sh w1 hqw HDS.out hns HWF.out hls).mono ?_
    rintro e w2 ⟨cb, cn, rfl, hcb, hcn, hS, hb⟩
    replace hB := hB.trans (hb.mono hB.size)
    replace hle := hle.up hb
    clear hb hcb hls
    go_wp2_with fail
    refine (espread_any Ae ne ce l q now size cb cn sh w2 HDE.out hne HAB.out hle hS).mono ?_
    rintro e w3 ⟨b, nm, T, rfl, hM, hnm, hE, hb⟩
    replace hB := hB.trans (hb.mono hB.size)
    have HE := Lib.hid hE
    have HTW : Hid (∀ x, (T x).isSome = true → (Lit.int .i64 x).wf = true) := fun x hx => by
      obtain ⟨u, hu⟩ := Option.isSome_iff_exists.1 hx
      have := (HE.out.rch x u hu).node HRE.out HQ.out
      exact wfI (by omega)
    clear hb hle hS hE hcn
    go_wp2_with fail
    refine (esort_any b nm T w3 hM (by omega) HTW.out).mono ?_
    rintro e w4 ⟨v4, r, rfl, hsr, hat, hrn, hown, hb⟩
    replace hB := hB.trans (hb.mono hB.size)
    obtain ⟨A4, c4, rfl⟩ := slice_of_own hown
    have HOW := Lib.hid (Sl.of_own hown)
    have HSR := Lib.hid hsr
    have HAT := Lib.hid hat
    clear hb hM hsr hat hown
    go_wp2_with fail
    go_ret
    exact ⟨A4, r.length, c4, r, rfl, rfl, by omega, ⟨HSR.out, (fun h => by rw [HAB.out] at h; cases h), fun _ => by rw [HAT.out]; exact HE.out⟩, HOW.out, hB⟩
set_option maxHeartbeats 2000000 in
set_option maxRecDepth 100000 in
theorem ereach_any (Ae : Option Addr) (ne ce : Nat) (l : List Ed) (q t now size b : Int) (w : World) (hde : l.length = ne) (hne : ne ≤ 200) (hle : Sl w w.heap.size 8 Ae ne ce (flatEd l)) :
    Calls Try.prog 15 #[.slice Ae ne ce, .int .i64 q, .int .i64 t, .int .i64 now, .int .i64 size, .int .i64 b] w fun e w' => ∃ r, IsTimes l q now size [] r ∧ e = .returned (.bool (reachB r t b)) ∧ Below w.heap.size w w' := by
  have HDE := Lib.hid hde
  clear hde
  go_enter Try.func15, Try.ntmps15
  go_wp2_with fail
  refine (etimes_any Ae ne ce l q now size none 0 0 [] w HDE.out (by omega) rfl (by omega) (fun k hk => by omega) hle (Sl.nil0 _ _ _)).mono ?_
  rintro e w1 ⟨A', n', c', r, rfl, hr, hn', hT, hs, hb⟩
  have HR := Lib.hid hr
  have HT := Lib.hid hT
  clear hr hT hle
  obtain ⟨u, hu⟩ : ∃ u, (atR r t).getD 0 = u := ⟨_, rfl⟩
  obtain ⟨ok, hok⟩ : ∃ u, (atR r t).isSome = u := ⟨_, rfl⟩
  have HRB : Hid (reachB r t b = (ok && decide (u ≤ b))) := by
    show reachB r t b = _
    unfold reachB
    rw [← hu, ← hok]
    cases atR r t <;> simp
  have HU := Lib.hid hu
  have HO := Lib.hid hok
  clear hu hok
  go_wp2_with fail
  refine (eat_any A' n' c' r t w1 HR.out (by omega) hs u ok HU.out HO.out).mono ?_
  rintro e w2 ⟨rfl, hb2⟩
  have hB := hb.trans (hb2.mono hb.size)
  clear hb hb2 hs
  cases ok with
  | false =>
    go_wp2_with fail
    go_ret
    exact ⟨r, HT.out, by rw [HRB.out]; rfl, hB⟩
  | true =>
    by_cases h : u ≤ b
    · have g0 : decide (u ≤ b) = true := decide_eq_true h
      have HG := Lib.hid g0
      clear h
      go_wp2_with fail
      go_ret
      exact ⟨r, HT.out, by rw [HRB.out, HG.out]; rfl, hB⟩
    · have g0 : decide (u ≤ b) = false := decide_eq_false h
      have HG := Lib.hid g0
      clear h
      go_wp2_with fail
      go_ret
      exact ⟨r, HT.out, by rw [HRB.out, HG.out]; rfl, hB⟩
end Go.Proofs.Ytjkcjbcbnnpmfaa
