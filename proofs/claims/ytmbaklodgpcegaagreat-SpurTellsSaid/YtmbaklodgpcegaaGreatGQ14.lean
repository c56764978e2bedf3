/- Several texts of mine in one: Ref15e, Early1, Times. No condition. -/
import Derived.Test.YtmbaklodgpcegaaGreatGQ10
import Derived.Test.YtmbaklodgpcegaaGreatGQ4
import Derived.Test.YtmbaklodgpcegaaGreatSpread
import Derived.Test.YtmbaklodgpcegaaGreatPath5

/- The document's own earliest times: Reaches. It makes new memory alone. -/
namespace Go.Proofs.YtmbaklodgpcegaaGreat
open Go.ChangeShapes Go.WideShapes Go.ChangeAt Go.RowKit Go.Sort Hp
set_option linter.unusedSimpArgs false
set_option linter.unusedVariables false
/-- Is there a time of that node, of by at the most? -/
def reachB (r : List (Int × Int)) (t b : Int) : Bool := match atR r t with | none => false | some u => decide (u ≤ b)
end Go.Proofs.YtmbaklodgpcegaaGreat

/- The program's At. It makes new memory alone. -/
namespace Go.Proofs.YtmbaklodgpcegaaGreat
open Go.ChangeShapes Go.WideShapes Go.ChangeAt Go.RowKit Go.Sort Hp
set_option linter.unusedSimpArgs false
set_option linter.unusedVariables false
set_option maxHeartbeats 1000000 in
set_option maxRecDepth 100000 in
theorem eat_any (A : Option Addr) (n c : Nat) (d : List (Int × Int)) (q : Int) (w : World) (hd : d.length = n) (hn : n ≤ 1000000) (h : Sl w w.heap.size 2 A n c (flat2 d)) (u : Int) (b : Bool) (hu : (atR d q).getD 0 = u) (hb : (atR d q).isSome = b) :
    Calls Tryz.prog 26 #[.slice A n c, .int .i64 q] w fun e w' => e = .returned (.tuple #[.int .i64 u, .bool b]) ∧ Below w.heap.size w w' := by
  have HD := Lib.hid hd
  have HL := Lib.hid h
  have HU := Lib.hid hu
  have HB := Lib.hid hb
  clear hd h hu hb
  go_enter Tryz.func26, Tryz.ntmps26
  go_wp2
  go_loopw [10] (fun iv wr => ∃ (i : Nat), iv = .int .i64 i ∧ i ≤ n ∧ Hid (∀ j, j < i → (gt d j).1 ≠ q) ∧ Below w.heap.size w wr) (fun iv _ => n - (intOf iv).toNat)
  case atStart => exact ⟨0, rfl, by omega, fun j hj => by omega, Below.refl _ _⟩
  case round =>
    obtain ⟨i, rfl, hi, HN, hB⟩ := hrel
    have hs := hB.size
    by_cases hin : i < n
    · obtain ⟨ad, rfl, hab, c0, c1⟩ := (HL.out.up hB).lst.fst2 HD.out hin
      obtain ⟨x, hx⟩ : ∃ x, gt d i = x := ⟨_, rfl⟩
      rw [hx] at c0 c1
      have HX := Lib.hid hx
      clear hx
      have hX := Blok.new wr 86 #[.int .i64 x.1, .int .i64 x.2]
      have hb : Below wr.heap.size wr (wr.alloc (.cells #[.int .i64 x.1, .int .i64 x.2] 86)) := by (repeat (first | exact Below.refl _ _ | refine Below.alloc ?_ (by first | omega | (simp; done) | (simp; omega)) _ | refine Below.setCell ?_ (by first | omega | (simp; done) | (simp; omega)) _ | refine Below.drew ?_))
      have hB2 := hB.trans (hb.mono hs)
      go_upto_region 4 with fail
      clear c0 c1 hb hB hs
      generalize wr.alloc (.cells #[.int .i64 x.1, .int .i64 x.2] 86) = w2 at *
      generalize wr.heap.size = bx at *
      have k0 : w2.cell? ⟨bx, 0, none⟩ = some (.int .i64 x.1) := hX.cell 0
      have k1 : w2.cell? ⟨bx, 1, none⟩ = some (.int .i64 x.2) := hX.cell 1
      have lt_x := hX.lt
      by_cases he : x.1 = q
      · have hff := atR_at (d := d) (i := i) (n := q) (by rw [HD.out]; exact hin) (by rw [HX.out]; exact he) HN.out
        have f1 : x.2 = u := by rw [← HU.out, hff, HX.out]; rfl
        have f2 : b = true := by rw [← HB.out, hff]; rfl
        clear hff
        subst f2
        have hq : (x.1 == q) = true := beq_iff_eq.2 he
        rw [f1] at k1
        clear he f1
        go_wp2
        exact bodyPost_ret (v := .tuple #[.int .i64 u, .bool true]) (by simp [results, Tryz.results26, go_sem]) rfl ⟨rfl, hB2⟩
      · have hq : (x.1 == q) = false := beq_eq_false_iff_ne.2 he
        have HN2 : Hid (∀ j, j < i + 1 → (gt d j).1 ≠ q) := fun j hj => by
          by_cases e : j = i
          · subst e; rw [HX.out]; exact he
          · exact HN.out j (by omega)
        clear he
        go_wp2_with fail
        go_roundw
        case rel => exact ⟨i + 1, by go_num, by omega, HN2, hB2⟩
        case measure => simp [intOf]; omega
    · have hff := atR_off (d := d) (n := q) (fun j hj => HN.out j (by rw [HD.out] at hj; omega))
      have f1 : u = 0 := by rw [← HU.out, hff]; rfl
      have f2 : b = false := by rw [← HB.out, hff]; rfl
      clear hff
      subst f1 f2
      go_wp2
      exact bodyPost_ret (v := .tuple #[.int .i64 0, .bool false]) (by simp [results, Tryz.results26, go_sem]) rfl ⟨rfl, hB⟩
end Go.Proofs.YtmbaklodgpcegaaGreat

/- The program's earliest times: Times. It makes new memory alone. -/
namespace Go.Proofs.YtmbaklodgpcegaaGreat
open Go.ChangeShapes Go.WideShapes Go.ChangeAt Go.RowKit Go.Sort Go.Maps Hp
set_option linter.unusedSimpArgs false
set_option linter.unusedVariables false
set_option maxHeartbeats 4000000 in
set_option maxRecDepth 100000 in
theorem etimes_any (Ae : Option Addr) (ne ce : Nat) (l : List Ed) (q now size : Int) (As : Option Addr) (ns cs : Nat) (sh : List Int) (w : World) (hde : l.length = ne) (hne : ne ≤ 1000) (hds : sh.length = ns) (hns : ns ≤ 100000) (hwf : ∀ k, k < ns → (Lit.int .i64 (sh.getD k 0)).wf = true) (hle : Sl w w.heap.size 8 Ae ne ce (flatEd l)) (hls : Sl w w.heap.size 1 As ns cs (sh.map (Value.int .i64))) :
    Calls Tryz.prog 27 #[.slice Ae ne ce, .int .i64 q, .int .i64 now, .int .i64 size, .slice As ns cs] w fun e w' => ∃ A' n' c' r, e = .returned (.slice A' n' c') ∧ r.length = n' ∧ n' ≤ ne + 1 ∧ IsTimes l q now size sh r ∧ Sl w' w'.heap.size 2 A' n' c' (flat2 r) ∧ Below w.heap.size w w' := by
  have HDE := Lib.hid hde
  have HDS := Lib.hid hds
  have HWF := Lib.hid hwf
  obtain ⟨ab, hab⟩ : ∃ b, askE l q now size = b := ⟨_, rfl⟩
  have HAB := Lib.hid hab
  cases ab with
  | false =>
    have HO : Hid (walkE l [] q now size = none) := by
      show walkE l [] q now size = none
      unfold walkE
      rw [hab]; rfl
    clear hde hds hwf hab
    go_enter Tryz.func27, Tryz.ntmps27
    go_wp2_with fail
    refine (pwalk_any Ae ne ce l none 0 0 [] q now size w HDE.out (by omega) rfl (by omega) (fun k hk => by omega) hle (Sl.nil0 _ _ _) none HO.out).mono ?_
    rintro e w1 ⟨v, rfl, hv, hb⟩
    clear hv
    go_wp2_with fail
    go_ret
    exact ⟨none, 0, 0, [], rfl, rfl, by omega, ⟨List.Pairwise.nil, fun _ => rfl, fun h => by rw [HAB.out] at h; cases h⟩, Sl.nil0 _ _ _, hb⟩
  | true =>
    have HO : Hid (walkE l [] q now size = some []) := by
      show walkE l [] q now size = some []
      unfold walkE
      rw [hab]; rfl
    have hq := (askE_spec.1 hab).1
    have HQ := Lib.hid hq
    have HRE := Lib.hid (askE_spec.1 hab).2.2.2
    have hqw : (Lit.int .i64 q).wf = true := wfI (by omega)
    clear hde hds hwf hab hq
    go_enter Tryz.func27, Tryz.ntmps27
    go_wp2_with fail
    refine (pwalk_any Ae ne ce l none 0 0 [] q now size w HDE.out (by omega) rfl (by omega) (fun k hk => by omega) hle (Sl.nil0 _ _ _) (some []) HO.out).mono ?_
    rintro e w1 ⟨v, rfl, hv, hb⟩
    have hB := hb
    replace hle := hle.up hb
    replace hls := hls.up hb
    clear hv hb
    go_wp2_with fail
    refine (eclosed_any q As ns cs sh w1 hqw HDS.out hns HWF.out hls).mono ?_
    rintro e w2 ⟨cb, cn, rfl, hcb, hcn, hS, hb⟩
    replace hB := hB.trans (hb.mono hB.size)
    replace hle := hle.up hb
    clear hb hcb hls
    go_wp2_with fail
    refine (espread_any Ae ne ce l q now size cb cn sh w2 HDE.out hne HAB.out hle hS).mono ?_
    rintro e w3 ⟨b, nm, T, rfl, hM, hnm, hE, hb⟩
    replace hB := hB.trans (hb.mono hB.size)
    have HE := Lib.hid hE
    have HTW : Hid (∀ x, (T x).isSome = true → (Lit.int .i64 x).wf = true) := fun x hx => by
      obtain ⟨u, hu⟩ := Option.isSome_iff_exists.1 hx
      have := (HE.out.rch x u hu).node HRE.out HQ.out
      exact wfI (by omega)
    clear hb hle hS hE hcn
    go_wp2_with fail
    refine (esort_any b nm T w3 hM (by omega) HTW.out).mono ?_
    rintro e w4 ⟨v4, r, rfl, hsr, hat, hrn, hown, hb⟩
    replace hB := hB.trans (hb.mono hB.size)
    obtain ⟨A4, c4, rfl⟩ := slice_of_own hown
    have HOW := Lib.hid (Sl.of_own hown)
    have HSR := Lib.hid hsr
    have HAT := Lib.hid hat
    clear hb hM hsr hat hown
    go_wp2_with fail
    go_ret
    exact ⟨A4, r.length, c4, r, rfl, rfl, by omega, ⟨HSR.out, (fun h => by rw [HAB.out] at h; cases h), fun _ => by rw [HAT.out]; exact HE.out⟩, HOW.out, hB⟩
end Go.Proofs.YtmbaklodgpcegaaGreat
