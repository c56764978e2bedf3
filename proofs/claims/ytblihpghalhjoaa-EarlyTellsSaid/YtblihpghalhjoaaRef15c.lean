/- The document's own earliest times: step, Times. They make new memory alone. -/
import Derived.Test.YtblihpghalhjoaaRef15b
import Derived.Test.YtblihpghalhjoaaRef10
import Derived.Test.YtblihpghalhjoaaTyEd
namespace Go.Proofs.Ytblihpghalhjoaa
open Go.ChangeShapes Go.WideShapes Go.ChangeAt Go.RowKit Go.Sort Hp
set_option linter.unusedSimpArgs false
set_option linter.unusedVariables false
theorem rnd_next {size : Int} {no : Int → Bool} {l : List Ed} {T : Int → Option Int} {i : Nat} (h : i < l.length) : rndE size no (l.take (i + 1)) T = relE size no (rndE size no (l.take i) T) (gEd l i) := by
  unfold rndE
  rw [List.take_succ_eq_append_getElem h, List.foldl_append]
  show relE size no _ l[i] = _
  rw [gEd_eq h]
set_option maxHeartbeats 8000000 in
set_option maxRecDepth 100000 in
theorem rstep15_any (A : Option Addr) (n c : Nat) (d : List (Int × Int)) (Ae : Option Addr) (ne ce : Nat) (l : List Ed) (size : Int) (As : Option Addr) (ns cs : Nat) (sh : List Int) (no : Int → Bool) (w : World) (hd : d.length = n) (hn : n ≤ 50000) (hde : l.length = ne) (hne : ne ≤ 1000) (hds : sh.length = ns) (hns : ns ≤ 1000000) (h : Sl w w.heap.size 2 A n c (flat2 d)) (hle : Sl w w.heap.size 8 Ae ne ce (flatEd l)) (hls : Sl w w.heap.size 1 As ns cs (sh.map (Value.int .i64))) (hsr : Srt d) (hno : (fun y => sh.contains y) = no) :
    Calls Try.prog 24 #[.slice A n c, .slice Ae ne ce, .int .i64 size, .slice As ns cs] w fun e w' => ∃ A' n' c' r, e = .returned (.slice A' n' c') ∧ r.length = n' ∧ n' ≤ n + ne ∧ Srt r ∧ atR r = rndE size no l (atR d) ∧ Sl w' w'.heap.size 2 A' n' c' (flat2 r) ∧ Below w.heap.size w w' := by
  have HDE := Lib.hid hde
  have HDS := Lib.hid hds
  have HLE := Lib.hid (fun w' (hb : Below w.heap.size w w') => hle.up hb)
  have HLS0 := Lib.hid (fun w' (hb : Below w.heap.size w w') => hls.up hb)
  have HR0 := Lib.hid hd
  have HS0 := Lib.hid hsr
  have HNO : Hid (∀ y, sh.contains y = no y) := fun y => by rw [← hno]
  clear hde hds hle hls hd hsr hno
  go_enter Try.func24, Try.ntmps24
  go_wp2_with fail
  go_loopw [0, 9] (fun rv iv wr => ∃ (i : Nat) (A' : Option Addr) (n' c' : Nat) (r : List (Int × Int)), rv = .slice A' n' c' ∧ iv = .int .i64 i ∧ i ≤ ne ∧ n' ≤ n + i ∧ Hid (r.length = n') ∧ Hid (Srt r) ∧ Hid (atR r = rndE size no (l.take i) (atR d)) ∧ Sl wr wr.heap.size 2 A' n' c' (flat2 r) ∧ Below w.heap.size w wr) (fun rv iv _ => ne - (intOf iv).toNat)
  case atStart => exact ⟨0, A, n, c, d, rfl, rfl, by omega, by omega, HR0, HS0, rfl, h, Below.refl _ _⟩
  case round =>
    clear h
    obtain ⟨i, A', n', c', r, rfl, rfl, hi, hn', HR, HS, HT, hr, hB⟩ := hrel
    by_cases hin : i < ne
    · have hin' : i < l.length := by rw [HDE.out]; exact hin
      obtain ⟨ad, rfl, hab, c0, c1, c2, c3, c4, c5, c6, c7⟩ := (HLE.out _ hB).lst.atEd HDE.out hin
      obtain ⟨x, hx⟩ : ∃ x, gEd l i = x := ⟨_, rfl⟩
      rw [hx] at c0 c1 c2 c3 c4 c5 c6 c7
      have HX := Lib.hid hx
      clear hx
      cases hT : atR r x.fr with
      | none =>
        have HNX : Hid (atR r = rndE size no (l.take (i + 1)) (atR d)) := by
          show atR r = _
          rw [rnd_next hin', HX.out, ← HT.out]
          exact (relE_none hT).symm
        have HU := Lib.hid (show (atR r x.fr).getD 0 = 0 by rw [hT]; rfl)
        have HBB := Lib.hid (show (atR r x.fr).isSome = false by rw [hT]; rfl)
        clear hT
        go_wp2_with fail
        clear c0 c1 c2 c3 c4 c5 c6 c7
        refine (rat15_any A' n' c' r x.fr wr HR.out (by omega) hr 0 false HU.out HBB.out).mono ?_
        rintro e w1 ⟨rfl, hb⟩
        replace hr := hr.up hb
        replace hB := hB.trans (hb.mono hB.size)
        clear hb
        go_wp2_with fail
        go_roundw
        case rel => exact ⟨i + 1, A', n', c', r, rfl, by go_num, by omega, by omega, HR, HS, HNX, hr, hB⟩
        case measure => simp [intOf]; omega
      | some t =>
        have HTT := Lib.hid hT
        have HU := Lib.hid (show (atR r x.fr).getD 0 = t by rw [hT]; rfl)
        have HBB := Lib.hid (show (atR r x.fr).isSome = true by rw [hT]; rfl)
        clear hT
        go_wp2_with fail
        clear c0 c1 c2 c3 c4 c5 c6 c7
        refine (rat15_any A' n' c' r x.fr wr HR.out (by omega) hr t true HU.out HBB.out).mono ?_
        rintro e w1 ⟨rfl, hb⟩
        replace hr := hr.up hb
        replace hB := hB.trans (hb.mono hB.size)
        clear hb
        obtain ⟨ad1, hA1, hab1, c0, c1, c2, c3, c4, c5, c6, c7⟩ := (HLE.out _ hB).lst.atEd HDE.out hin
        rw [HX.out] at c0 c1 c2 c3 c4 c5 c6 c7
        injection hA1 with hA1
        subst hA1
        obtain ⟨sb, hsb⟩ : ∃ sb, sh.contains x.tn = sb := ⟨_, rfl⟩
        have HSB := Lib.hid hsb
        clear hsb
        go_wp2_with fail
        clear c0 c1 c2 c3 c4 c5 c6 c7
        refine (rin15_any As ns cs sh x.tn w1 HDS.out (by omega) (HLS0.out _ hB) sb HSB.out).mono ?_
        rintro e w2 ⟨rfl, hb⟩
        replace hr := hr.up hb
        replace hB := hB.trans (hb.mono hB.size)
        clear hb
        obtain ⟨ad2, hA2, hab2, c0, c1, c2, c3, c4, c5, c6, c7⟩ := (HLE.out _ hB).lst.atEd HDE.out hin
        rw [HX.out] at c0 c1 c2 c3 c4 c5 c6 c7
        injection hA2 with hA2
        subst hA2
        cases sb with
        | true =>
          have HNX : Hid (atR r = rndE size no (l.take (i + 1)) (atR d)) := by
            show atR r = _
            rw [rnd_next hin', HX.out, ← HT.out]
            exact (relE_shut HTT.out (by rw [← HNO.out]; exact HSB.out)).symm
          go_wp2_with fail
          go_roundw
          case rel => exact ⟨i + 1, A', n', c', r, rfl, by go_num, by omega, by omega, HR, HS, HNX, hr, hB⟩
          case measure => simp [intOf]; omega
        | false =>
          cases hp : x.pass t size with
          | none =>
            have HP := Lib.hid hp
            clear hp
            obtain ⟨u2, hu2⟩ : ∃ u, (atR r x.tn).getD 0 = u := ⟨_, rfl⟩
            obtain ⟨b2, hb2⟩ : ∃ u, (atR r x.tn).isSome = u := ⟨_, rfl⟩
            have HU2 := Lib.hid hu2
            have HB2 := Lib.hid hb2
            clear hu2 hb2
            have HNX : Hid (atR r = rndE size no (l.take (i + 1)) (atR d)) := by
              show atR r = _
              rw [rnd_next hin', HX.out, ← HT.out]
              exact (relE_fail HTT.out HP.out).symm
            go_wp2_with fail
            clear c0 c1 c2 c3 c4 c5 c6 c7
            refine (rpass_no HP.out w2).mono ?_
            rintro e w3 ⟨rfl, hb⟩
            replace hr := hr.up hb
            replace hB := hB.trans (hb.mono hB.size)
            clear hb
            obtain ⟨ad3, hA3, hab3, c0, c1, c2, c3, c4, c5, c6, c7⟩ := (HLE.out _ hB).lst.atEd HDE.out hin
            rw [HX.out] at c0 c1 c2 c3 c4 c5 c6 c7
            injection hA3 with hA3
            subst hA3
            go_wp2_with fail
            clear c0 c1 c2 c3 c4 c5 c6 c7
            refine (rat15_any A' n' c' r x.tn w3 HR.out (by omega) hr u2 b2 HU2.out HB2.out).mono ?_
            rintro e w4 ⟨rfl, hb⟩
            replace hr := hr.up hb
            replace hB := hB.trans (hb.mono hB.size)
            clear hb
            go_wp2_with fail
            go_roundw
            case rel => exact ⟨i + 1, A', n', c', r, rfl, by go_num, by omega, by omega, HR, HS, HNX, hr, hB⟩
            case measure => simp [intOf]; omega
          | some p =>
            obtain ⟨s, a⟩ := p
            have HP := Lib.hid hp
            clear hp
            cases hT2 : atR r x.tn with
            | none =>
              have HU2 := Lib.hid (show (atR r x.tn).getD 0 = 0 by rw [hT2]; rfl)
              have HB2 := Lib.hid (show (atR r x.tn).isSome = false by rw [hT2]; rfl)
              have HLS := Lib.hid (show lessT (atR r) x.tn a = true by unfold lessT; rw [hT2])
              clear hT2
              have HNX : Hid (atR (withR x.tn a r false) = rndE size no (l.take (i + 1)) (atR d)) := by
                show atR (withR x.tn a r false) = _
                rw [rnd_next hin', HX.out, ← HT.out, relE_pass HTT.out (by rw [← HNO.out]; exact HSB.out) HP.out, if_pos HLS.out]
                exact withR_at HS.out x.tn a
              go_wp2_with fail
              clear c0 c1 c2 c3 c4 c5 c6 c7
              refine (rpass_yes HP.out w2).mono ?_
              rintro e w3 ⟨rfl, hb⟩
              replace hr := hr.up hb
              replace hB := hB.trans (hb.mono hB.size)
              clear hb
              obtain ⟨ad3, hA3, hab3, c0, c1, c2, c3, c4, c5, c6, c7⟩ := (HLE.out _ hB).lst.atEd HDE.out hin
              rw [HX.out] at c0 c1 c2 c3 c4 c5 c6 c7
              injection hA3 with hA3
              subst hA3
              go_wp2_with fail
              clear c0 c1 c2 c3 c4 c5 c6 c7
              refine (rat15_any A' n' c' r x.tn w3 HR.out (by omega) hr 0 false HU2.out HB2.out).mono ?_
              rintro e w4 ⟨rfl, hb⟩
              replace hr := hr.up hb
              replace hB := hB.trans (hb.mono hB.size)
              clear hb
              obtain ⟨ad4, hA4, hab4, c0, c1, c2, c3, c4, c5, c6, c7⟩ := (HLE.out _ hB).lst.atEd HDE.out hin
              rw [HX.out] at c0 c1 c2 c3 c4 c5 c6 c7
              injection hA4 with hA4
              subst hA4
              go_wp2_with fail
              clear c0 c1 c2 c3 c4 c5 c6 c7
              refine (rwith15_any A' n' c' r x.tn a w4 HR.out (by omega) hr).mono ?_
              rintro e w5 ⟨v, rfl, hown, hb⟩
              obtain ⟨Av, cv, rfl⟩ := slice_of_own hown
              have hlen := withR_len (n := x.tn) (a := a) r false
              rw [HR.out] at hlen
              replace hB := hB.trans (hb.mono hB.size)
              clear hb hr
              have hr := Sl.of_own hown
              go_wp2_with fail
              go_roundw
              case rel => exact ⟨i + 1, Av, _, cv, withR x.tn a r false, rfl, by go_num, by omega, by omega, rfl, (withR_srt HS.out).2, HNX, hr, hB⟩
              case measure => simp [intOf]; omega
            | some v =>
              have HU2 := Lib.hid (show (atR r x.tn).getD 0 = v by rw [hT2]; rfl)
              have HB2 := Lib.hid (show (atR r x.tn).isSome = true by rw [hT2]; rfl)
              by_cases hlt : a < v
              · have HLS := Lib.hid (show lessT (atR r) x.tn a = true by unfold lessT; rw [hT2]; exact decide_eq_true hlt)
                have g5 : decide (a < v) = true := decide_eq_true hlt
                clear hT2 hlt
                have HNX : Hid (atR (withR x.tn a r false) = rndE size no (l.take (i + 1)) (atR d)) := by
                  show atR (withR x.tn a r false) = _
                  rw [rnd_next hin', HX.out, ← HT.out, relE_pass HTT.out (by rw [← HNO.out]; exact HSB.out) HP.out, if_pos HLS.out]
                  exact withR_at HS.out x.tn a
                go_wp2_with fail
                clear c0 c1 c2 c3 c4 c5 c6 c7
                refine (rpass_yes HP.out w2).mono ?_
                rintro e w3 ⟨rfl, hb⟩
                replace hr := hr.up hb
                replace hB := hB.trans (hb.mono hB.size)
                clear hb
                obtain ⟨ad3, hA3, hab3, c0, c1, c2, c3, c4, c5, c6, c7⟩ := (HLE.out _ hB).lst.atEd HDE.out hin
                rw [HX.out] at c0 c1 c2 c3 c4 c5 c6 c7
                injection hA3 with hA3
                subst hA3
                go_wp2_with fail
                clear c0 c1 c2 c3 c4 c5 c6 c7
                refine (rat15_any A' n' c' r x.tn w3 HR.out (by omega) hr v true HU2.out HB2.out).mono ?_
                rintro e w4 ⟨rfl, hb⟩
                replace hr := hr.up hb
                replace hB := hB.trans (hb.mono hB.size)
                clear hb
                obtain ⟨ad4, hA4, hab4, c0, c1, c2, c3, c4, c5, c6, c7⟩ := (HLE.out _ hB).lst.atEd HDE.out hin
                rw [HX.out] at c0 c1 c2 c3 c4 c5 c6 c7
                injection hA4 with hA4
                subst hA4
                go_wp2_with fail
                clear c0 c1 c2 c3 c4 c5 c6 c7
                refine (rwith15_any A' n' c' r x.tn a w4 HR.out (by omega) hr).mono ?_
                rintro e w5 ⟨v, rfl, hown, hb⟩
                obtain ⟨Av, cv, rfl⟩ := slice_of_own hown
                have hlen := withR_len (n := x.tn) (a := a) r false
                rw [HR.out] at hlen
                replace hB := hB.trans (hb.mono hB.size)
                clear hb hr
                have hr := Sl.of_own hown
                go_wp2_with fail
                go_roundw
                case rel => exact ⟨i + 1, Av, _, cv, withR x.tn a r false, rfl, by go_num, by omega, by omega, rfl, (withR_srt HS.out).2, HNX, hr, hB⟩
                case measure => simp [intOf]; omega
              · have HLS := Lib.hid (show lessT (atR r) x.tn a = false by unfold lessT; rw [hT2]; exact decide_eq_false hlt)
                have g5 : decide (a < v) = false := decide_eq_false hlt
                clear hT2 hlt
                have HNX : Hid (atR r = rndE size no (l.take (i + 1)) (atR d)) := by
                  show atR r = _
                  rw [rnd_next hin', HX.out, ← HT.out, relE_pass HTT.out (by rw [← HNO.out]; exact HSB.out) HP.out, if_neg (by rw [HLS.out]; simp)]
                go_wp2_with fail
                clear c0 c1 c2 c3 c4 c5 c6 c7
                refine (rpass_yes HP.out w2).mono ?_
                rintro e w3 ⟨rfl, hb⟩
                replace hr := hr.up hb
                replace hB := hB.trans (hb.mono hB.size)
                clear hb
                obtain ⟨ad3, hA3, hab3, c0, c1, c2, c3, c4, c5, c6, c7⟩ := (HLE.out _ hB).lst.atEd HDE.out hin
                rw [HX.out] at c0 c1 c2 c3 c4 c5 c6 c7
                injection hA3 with hA3
                subst hA3
                go_wp2_with fail
                clear c0 c1 c2 c3 c4 c5 c6 c7
                refine (rat15_any A' n' c' r x.tn w3 HR.out (by omega) hr v true HU2.out HB2.out).mono ?_
                rintro e w4 ⟨rfl, hb⟩
                replace hr := hr.up hb
                replace hB := hB.trans (hb.mono hB.size)
                clear hb
                go_wp2_with fail
                go_roundw
                case rel => exact ⟨i + 1, A', n', c', r, rfl, by go_num, by omega, by omega, HR, HS, HNX, hr, hB⟩
                case measure => simp [intOf]; omega
    · obtain rfl : i = ne := by omega
      have hf := HT.out
      rw [List.take_of_length_le (by rw [HDE.out]; exact Nat.le_refl _)] at hf
      have HF := Lib.hid hf
      clear hf
      go_wp2_with fail
      go_ret
      exact ⟨A', n', c', r, rfl, HR.out, hn', HS.out, HF.out, hr, hB⟩
end Go.Proofs.Ytblihpghalhjoaa
