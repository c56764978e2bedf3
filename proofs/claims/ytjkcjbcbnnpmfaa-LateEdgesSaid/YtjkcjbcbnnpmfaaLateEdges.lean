/- By each edge one may be ready as late as its end allows, and some edge is why one may be ready so late: LateEdges returns true. No condition. -/
import Derived.Test.YtjkcjbcbnnpmfaaRows
import Derived.Test.YtjkcjbcbnnpmfaaSmall16
import Derived.Test.YtjkcjbcbnnpmfaaLateMath2
import Derived.Test.YtjkcjbcbnnpmfaaOpenS
namespace Go.Proofs.Ytjkcjbcbnnpmfaa
open Go.ChangeShapes Go.WideShapes Go.ChangeAt Go.RowKit Go.Sort Hp
set_option linter.unusedSimpArgs false
set_option linter.unusedVariables false
theorem wf_ints15 {ns : List Int} (hw : ∀ m ∈ ns, (Lit.int .i64 m).wf = true) : ∀ q, q < ns.length → (Lit.int .i64 (ns.getD q 0)).wf = true := fun q hq => by
  rw [List.getD_eq_getElem?_getD, List.getElem?_eq_getElem hq]
  exact hw _ (List.getElem_mem hq)
def whyG (r : List (Int × Int)) (y : Int × Int) (size : Int) (e : Ed) : Bool := match atR r e.tn with | none => false | some t => match e.latest t size with | none => false | some x => e.fr == y.1 && x == y.2
def whyB (r : List (Int × Int)) (l : List Ed) (y : Int × Int) (size : Int) (b : Bool) (j : Nat) : Bool := b || (l.take j).any (whyG r y size)
theorem whyB_next {r : List (Int × Int)} {l : List Ed} {y : Int × Int} {size : Int} {b : Bool} {j : Nat} (h : j < l.length) : whyB r l y size b (j + 1) = (whyB r l y size b j || whyG r y size (gEd l j)) := by
  unfold whyB
  rw [take_nextEd h, List.any_append, List.any_cons, List.any_nil, Bool.or_false, Bool.or_assoc]
theorem whyG_none {r : List (Int × Int)} {y : Int × Int} {size t : Int} {e : Ed} (ht : (atR r e.tn).getD 0 = t) (hp : e.latest t size = none) : whyG r y size e = false := by
  unfold whyG
  cases h : atR r e.tn with
  | none => rfl
  | some z => rw [h] at ht; have : z = t := ht; subst this; simp only [hp]
theorem whyG_some {r : List (Int × Int)} {y : Int × Int} {size t x : Int} {ok : Bool} {e : Ed} (ht : (atR r e.tn).getD 0 = t) (hk : (atR r e.tn).isSome = ok) (hp : e.latest t size = some x) : whyG r y size e = (ok && (e.fr == y.1) && (x == y.2)) := by
  unfold whyG
  cases h : atR r e.tn with
  | none => rw [h] at hk; rw [← hk]; rfl
  | some z => rw [h] at ht hk; have : z = t := ht; subst this; rw [← hk]; simp only [hp, Option.isSome, Bool.true_and]
theorem whyB_all {r : List (Int × Int)} {l : List Ed} {y : Int × Int} {q size : Int} {b : Bool} {j : Nat} (hj : l.length ≤ j) (hb : (y.1 == q) = b) (h : y.1 = q ∨ ∃ e ∈ l, e.fr = y.1 ∧ ∃ t, atR r e.tn = some t ∧ e.latest t size = some y.2) : whyB r l y size b j = true := by
  unfold whyB
  rcases h with h | ⟨e, he, hf, t, ht, hx⟩
  · rw [← hb, beq_iff_eq.2 h, Bool.true_or]
  · rw [List.take_of_length_le hj]
    have : l.any (whyG r y size) = true := List.any_eq_true.2 ⟨e, he, by unfold whyG; rw [ht]; simp only [hx]; rw [beq_iff_eq.2 hf]; simp⟩
    rw [this, Bool.or_true]
set_option maxHeartbeats 8000000 in
set_option maxRecDepth 100000 in
theorem lateEdges_w (A : Option Addr) (n c : Nat) (l : List Ed) (q by_ size hops : Int) (w : World) (hd : l.length = n) (hl : Sl w w.heap.size 8 A n c (flatEd l)) :
    Calls Try.prog 7 #[.slice A n c, .int .i64 q, .int .i64 by_, .int .i64 size, .int .i64 hops] w fun e w' => e = .returned (.bool true) ∧ Below w.heap.size w w' := by
  have HD := Lib.hid hd
  have HL := Lib.hid (fun w' (hb : Below w.heap.size w w') => hl.up hb)
  clear hd hl
  go_enter Try.func7, Try.ntmps7
  go_wp2_with fail
  refine (small16_any w).mono ?_
  rintro e w1 ⟨rfl, hB⟩
  by_cases hn : 30 < n ∨ hops < 1 ∨ 20 < hops
  · have hn' : 30 < n ∨ (n ≤ 30 ∧ hops < 1) ∨ (n ≤ 30 ∧ ¬ hops < 1 ∧ 20 < hops) := by omega
    clear hn
    rcases hn' with hn | ⟨hn, h1⟩ | ⟨hn, h1, h2⟩
    all_goals
      go_wp2_with fail
      go_ret
      exact ⟨rfl, hB⟩
  have hn1 : n ≤ 30 := by omega
  have hn2 : ¬ hops < 1 := by omega
  have hn3 : ¬ 20 < hops := by omega
  clear hn
  have hw1 : IntKind.i64.wrap (hops - 1) = hops - 1 := IntWalk.i64_in _ (by omega)
  go_wp2_with fail
  refine (ltimes_any A n c l q by_ size hops none 0 0 [] w1 HD.out (by omega) rfl (by omega) (fun k hk => by omega) (HL.out _ hB) (Sl.nil0 _ _ _)).mono ?_
  rintro e w2 ⟨Aa, na, ca, ra, rfl, hra, hna, hTa, hSa, hb⟩
  replace hB := hB.trans (hb.mono hB.size)
  have HRa := Lib.hid hra
  have HTa := Lib.hid hTa
  clear hb hra hTa
  go_wp2_with fail
  refine (ltimes_any A n c l q by_ size (hops - 1) none 0 0 [] w2 HD.out (by omega) rfl (by omega) (fun k hk => by omega) (HL.out _ hB) (Sl.nil0 _ _ _)).mono ?_
  rintro e w3 ⟨Ab, nb, cb, rb, rfl, hrb, hnb, hTb, hSb, hb⟩
  replace hB := hB.trans (hb.mono hB.size)
  replace hSa := hSa.up hb
  have HRb := Lib.hid hrb
  have HTb := Lib.hid hTb
  clear hb hrb hTb
  obtain ⟨hJ, hK, hlen⟩ := edges_math (by omega) HTa.out HTb.out
  rw [HRa.out, HRb.out] at hlen
  rw [HRa.out] at hK
  have HJ := Lib.hid hJ
  have HW := Lib.hid hK
  have HSA := Lib.hid (fun w' (hb : Below w3.heap.size w3 w') => hSa.up hb)
  have HSB := Lib.hid (fun w' (hb : Below w3.heap.size w3 w') => hSb.up hb)
  have HB := Lib.hid hB
  have HLE : Hid (∀ w', Below w3.heap.size w3 w' → Sl w' w'.heap.size 8 A n c (flatEd l)) := fun w' hb => HL.out _ (HB.out.trans (hb.mono HB.out.size))
  have g0 : decide ((nb : Int) ≤ (na : Int)) = true := decide_eq_true (by omega)
  clear hJ hK hSa hSb hB hn2 hn3 hw1
  go_wp2_with fail
  go_loopw [14] (fun iv wr => ∃ j : Nat, iv = .int .i64 j ∧ j ≤ n ∧ Below w3.heap.size w3 wr) (fun iv _ => n - (intOf iv).toNat)
  case atStart => exact ⟨0, rfl, by omega, Below.refl _ _⟩
  case round =>
    obtain ⟨j, rfl, hj, hB⟩ := hrel
    by_cases hjn : j < n
    · have hjl : gEd l j ∈ l := gEd_mem (by rw [HD.out]; exact hjn)
      obtain ⟨ad, rfl, hab, e0, e1, e2, e3, e4, e5, e6, e7⟩ := (HLE.out _ hB).lst.atEd HD.out hjn
      obtain ⟨x, hx⟩ : ∃ x, gEd l j = x := ⟨_, rfl⟩
      rw [hx] at e0 e1 e2 e3 e4 e5 e6 e7 hjl
      have HX := Lib.hid hx
      obtain ⟨t, ht⟩ : ∃ v, (atR rb x.tn).getD 0 = v := ⟨_, rfl⟩
      obtain ⟨ok, hok⟩ : ∃ v, (atR rb x.tn).isSome = v := ⟨_, rfl⟩
      obtain ⟨u, hu⟩ : ∃ v, (atR ra x.fr).getD 0 = v := ⟨_, rfl⟩
      obtain ⟨kn, hkn⟩ : ∃ v, (atR ra x.fr).isSome = v := ⟨_, rfl⟩
      have HT1 := Lib.hid ht
      have HT2 := Lib.hid hok
      have HU2 := Lib.hid hu
      have HK2 := Lib.hid hkn
      have HJL := Lib.hid hjl
      clear hx ht hok hu hkn hjl
      go_wp2_with fail
      clear e0 e1 e2 e3 e4 e5 e6 e7 hab
      refine (eat_any Ab nb cb rb x.tn wr HRb.out (by omega) (HSB.out _ hB) t ok HT1.out HT2.out).mono ?_
      rintro e w5 ⟨rfl, hb⟩
      replace hB := hB.trans (hb.mono hB.size)
      clear hb
      obtain ⟨ad1, hA1, hab, e0, e1, e2, e3, e4, e5, e6, e7⟩ := (HLE.out _ hB).lst.atEd HD.out hjn
      injection hA1 with hA1
      subst hA1
      rw [HX.out] at e0 e1 e2 e3 e4 e5 e6 e7
      cases hp : x.latest t size with
      | none =>
        have HP := Lib.hid hp
        clear hp
        go_wp2_with fail
        clear e0 e1 e2 e3 e4 e5 e6 e7 hab
        refine (hlat_no HP.out _).mono ?_
        rintro e w6 ⟨rfl, hb⟩
        replace hB := hB.trans (hb.mono hB.size)
        clear hb
        obtain ⟨ad1, hA1, hab, e0, e1, e2, e3, e4, e5, e6, e7⟩ := (HLE.out _ hB).lst.atEd HD.out hjn
        injection hA1 with hA1
        subst hA1
        rw [HX.out] at e0 e1 e2 e3 e4 e5 e6 e7
        go_wp2_with fail
        clear e0 e1 e2 e3 e4 e5 e6 e7 hab
        refine (eat_any Aa na ca ra x.fr w6 HRa.out (by omega) (HSA.out _ hB) u kn HU2.out HK2.out).mono ?_
        rintro e w7 ⟨rfl, hb⟩
        replace hB := hB.trans (hb.mono hB.size)
        clear hb
        obtain ⟨ad1, hA1, hab, e0, e1, e2, e3, e4, e5, e6, e7⟩ := (HLE.out _ hB).lst.atEd HD.out hjn
        injection hA1 with hA1
        subst hA1
        rw [HX.out] at e0 e1 e2 e3 e4 e5 e6 e7
        cases ok
        all_goals
          go_wp2_with fail
          go_roundw
          case rel => exact ⟨j + 1, by go_num, by omega, hB⟩
          case measure => simp [intOf]; omega
      | some y =>
        have HP := Lib.hid hp
        clear hp
        go_wp2_with fail
        clear e0 e1 e2 e3 e4 e5 e6 e7 hab
        refine (hlat_yes HP.out _).mono ?_
        rintro e w6 ⟨rfl, hb⟩
        replace hB := hB.trans (hb.mono hB.size)
        clear hb
        obtain ⟨ad1, hA1, hab, e0, e1, e2, e3, e4, e5, e6, e7⟩ := (HLE.out _ hB).lst.atEd HD.out hjn
        injection hA1 with hA1
        subst hA1
        rw [HX.out] at e0 e1 e2 e3 e4 e5 e6 e7
        go_wp2_with fail
        clear e0 e1 e2 e3 e4 e5 e6 e7 hab
        refine (eat_any Aa na ca ra x.fr w6 HRa.out (by omega) (HSA.out _ hB) u kn HU2.out HK2.out).mono ?_
        rintro e w7 ⟨rfl, hb⟩
        replace hB := hB.trans (hb.mono hB.size)
        clear hb
        obtain ⟨ad1, hA1, hab, e0, e1, e2, e3, e4, e5, e6, e7⟩ := (HLE.out _ hB).lst.atEd HD.out hjn
        injection hA1 with hA1
        subst hA1
        rw [HX.out] at e0 e1 e2 e3 e4 e5 e6 e7
        cases ok with
        | false =>
          go_wp2_with fail
          go_roundw
          case rel => exact ⟨j + 1, by go_num, by omega, hB⟩
          case measure => simp [intOf]; omega
        | true =>
          by_cases hfq : x.fr = q
          · have g1 : (x.fr != q) = false := by simp [hfq]
            clear hfq
            go_wp2_with fail
            go_roundw
            case rel => exact ⟨j + 1, by go_num, by omega, hB⟩
            case measure => simp [intOf]; omega
          · have g1 : (x.fr != q) = true := by simp [hfq]
            have hTT : atR rb x.tn = some t := by
              have h1 := HT1.out
              have h2 := HT2.out
              cases h : atR rb x.tn with
              | none => rw [h] at h2; cases h2
              | some z => rw [h] at h1; rw [← h1]; rfl
            obtain ⟨z, hz, hle⟩ := HJ.out x HJL.out hfq t y hTT HP.out
            obtain rfl : z = u := by have := HU2.out; rw [hz] at this; exact this
            obtain rfl : kn = true := by rw [← HK2.out, hz]; rfl
            have g2 : decide (z < y) = false := decide_eq_false (by omega)
            clear hfq hTT hz hle
            go_wp2_with fail
            go_roundw
            case rel => exact ⟨j + 1, by go_num, by omega, hB⟩
            case measure => simp [intOf]; omega
    · obtain rfl : n = j := by omega
      have HB5 := Lib.hid hB
      obtain ⟨wO, hwO⟩ : ∃ x, x = wr := ⟨_, rfl⟩
      subst hwO
      clear hB
      go_wp2_with fail
      go_loopw [21] (fun iv wr => ∃ k : Nat, iv = .int .i64 k ∧ k ≤ na ∧ Below w3.heap.size w3 wr) (fun iv _ => na - (intOf iv).toNat)
      case atStart => exact ⟨0, rfl, by omega, HB5.out⟩
      case round =>
        obtain ⟨k, rfl, hk, hB⟩ := hrel
        by_cases hkn : k < na
        · obtain ⟨adr, rfl, habr, c0, c1⟩ := (HSA.out _ hB).lst.fst2 HRa.out hkn
          have hWk := HW.out k hkn
          obtain ⟨y, hy⟩ : ∃ y, gt ra k = y := ⟨_, rfl⟩
          rw [hy] at c0 c1 hWk
          have HY := Lib.hid hy
          have HWK := Lib.hid hWk
          obtain ⟨yq, hyq⟩ : ∃ b, (y.1 == q) = b := ⟨_, rfl⟩
          have HYQ := Lib.hid hyq
          clear hy hWk
          have HW0 : Hid (whyB rb l y size yq 0 = yq) := by show whyB rb l y size yq 0 = yq; unfold whyB; simp
          go_wp2_with fail
          clear c0 c1 habr hyq
          have HB6 := Lib.hid hB
          obtain ⟨wP, hwP⟩ : ∃ x, x = wr := ⟨_, rfl⟩
          subst hwP
          clear hB
          go_loopw [22, 23] (fun bv iv wr => ∃ (j : Nat) (wb : Bool), bv = .bool wb ∧ iv = .int .i64 j ∧ j ≤ n ∧ Hid (whyB rb l y size yq j = wb) ∧ Below w3.heap.size w3 wr) (fun _ iv _ => n - (intOf iv).toNat)
          case atStart => exact ⟨0, yq, rfl, rfl, by omega, HW0, HB6.out⟩
          case round =>
            obtain ⟨j, wb, rfl, rfl, hj, HWB, hB⟩ := hrel
            by_cases hjn : j < n
            · obtain ⟨ad, hA, hab, e0, e1, e2, e3, e4, e5, e6, e7⟩ := (HLE.out _ hB).lst.atEd HD.out hjn
              obtain ⟨x, hx⟩ : ∃ x, gEd l j = x := ⟨_, rfl⟩
              rw [hx] at e0 e1 e2 e3 e4 e5 e6 e7
              subst hA
              have HX := Lib.hid hx
              obtain ⟨t, ht⟩ : ∃ v, (atR rb x.tn).getD 0 = v := ⟨_, rfl⟩
              obtain ⟨ok, hok⟩ : ∃ v, (atR rb x.tn).isSome = v := ⟨_, rfl⟩
              have HT1 := Lib.hid ht
              have HT2 := Lib.hid hok
              have HSTEP := Lib.hid (whyB_next (r := rb) (l := l) (y := y) (size := size) (b := yq) (j := j) (by rw [HD.out]; exact hjn))
              clear hx ht hok
              go_wp2_with fail
              clear e0 e1 e2 e3 e4 e5 e6 e7 hab
              refine (eat_any Ab nb cb rb x.tn wr HRb.out (by omega) (HSB.out _ hB) t ok HT1.out HT2.out).mono ?_
              rintro e w5 ⟨rfl, hb⟩
              replace hB := hB.trans (hb.mono hB.size)
              clear hb
              obtain ⟨ad1, hA1, hab, e0, e1, e2, e3, e4, e5, e6, e7⟩ := (HLE.out _ hB).lst.atEd HD.out hjn
              injection hA1 with hA1
              subst hA1
              rw [HX.out] at e0 e1 e2 e3 e4 e5 e6 e7
              cases hp : x.latest t size with
              | none =>
                have HP := Lib.hid hp
                clear hp
                go_wp2_with fail
                clear e0 e1 e2 e3 e4 e5 e6 e7 hab
                refine (hlat_no HP.out _).mono ?_
                rintro e w6 ⟨rfl, hb⟩
                replace hB := hB.trans (hb.mono hB.size)
                clear hb
                obtain ⟨ad1, hA1, hab, e0, e1, e2, e3, e4, e5, e6, e7⟩ := (HLE.out _ hB).lst.atEd HD.out hjn
                injection hA1 with hA1
                subst hA1
                rw [HX.out] at e0 e1 e2 e3 e4 e5 e6 e7
                have HNW : Hid (whyB rb l y size yq (j + 1) = wb) := by
                  show whyB rb l y size yq (j + 1) = wb
                  rw [HSTEP.out, HX.out, HWB.out, whyG_none HT1.out HP.out, Bool.or_false]
                cases wb with
                | true =>
                  go_wp2_with fail
                  obtain ⟨ad2, hA2, hab2, c0, c1⟩ := (HSA.out _ hB).lst.fst2 HRa.out hkn
                  injection hA2 with hA2
                  subst hA2
                  rw [HY.out] at c0 c1
                  have hs9 := hB.size
                  have q_e0 := fun d os => cell_regrown e0 d os
                  have q_e1 := fun d os => cell_regrown e1 d os
                  have q_e2 := fun d os => cell_regrown e2 d os
                  have q_e3 := fun d os => cell_regrown e3 d os
                  have q_e4 := fun d os => cell_regrown e4 d os
                  have q_e5 := fun d os => cell_regrown e5 d os
                  have q_e6 := fun d os => cell_regrown e6 d os
                  have q_e7 := fun d os => cell_regrown e7 d os
                  have q_c0 := fun d os => cell_regrown c0 d os
                  have q_c1 := fun d os => cell_regrown c1 d os
                  try simp only [List.append]
                  first | refine wp_region_text_below ?_ | refine wp_region_quiet_below (by kernel_rfl) (by kernel_rfl) ?_
                  repeat (go_big_quiet_step ((fail)))
                  refine wpQuiet_nil ?_
                  intro _ hqw
                  obtain ⟨pq, hqw⟩ := hqw
                  subst hqw
                  clear q_e0 q_e1 q_e2 q_e3 q_e4 q_e5 q_e6 q_e7 q_c0 q_c1
                  have hbel := below_regrown w6 pq.d pq.os
                  replace hB := hB.trans (hbel.mono hs9)
                  clear hbel e0 e1 e2 e3 e4 e5 e6 e7 c0 c1 hab hab2
                  generalize grow (redrawn w6 pq.d) pq.os = wq at *
                  go_wp2_with fail
                  go_roundw
                  case rel => exact ⟨j + 1, _, rfl, by go_num, by omega, HNW, hB⟩
                  case measure => simp [intOf]; omega
                | false =>
                  cases ok with
                  | true =>
                    go_wp2_with fail
                    obtain ⟨ad2, hA2, hab2, c0, c1⟩ := (HSA.out _ hB).lst.fst2 HRa.out hkn
                    injection hA2 with hA2
                    subst hA2
                    rw [HY.out] at c0 c1
                    have hs9 := hB.size
                    have q_e0 := fun d os => cell_regrown e0 d os
                    have q_e1 := fun d os => cell_regrown e1 d os
                    have q_e2 := fun d os => cell_regrown e2 d os
                    have q_e3 := fun d os => cell_regrown e3 d os
                    have q_e4 := fun d os => cell_regrown e4 d os
                    have q_e5 := fun d os => cell_regrown e5 d os
                    have q_e6 := fun d os => cell_regrown e6 d os
                    have q_e7 := fun d os => cell_regrown e7 d os
                    have q_c0 := fun d os => cell_regrown c0 d os
                    have q_c1 := fun d os => cell_regrown c1 d os
                    try simp only [List.append]
                    first | refine wp_region_text_below ?_ | refine wp_region_quiet_below (by kernel_rfl) (by kernel_rfl) ?_
                    repeat (go_big_quiet_step ((fail)))
                    refine wpQuiet_nil ?_
                    intro _ hqw
                    obtain ⟨pq, hqw⟩ := hqw
                    subst hqw
                    clear q_e0 q_e1 q_e2 q_e3 q_e4 q_e5 q_e6 q_e7 q_c0 q_c1
                    have hbel := below_regrown w6 pq.d pq.os
                    replace hB := hB.trans (hbel.mono hs9)
                    clear hbel e0 e1 e2 e3 e4 e5 e6 e7 c0 c1 hab hab2
                    generalize grow (redrawn w6 pq.d) pq.os = wq at *
                    go_wp2_with fail
                    go_roundw
                    case rel => exact ⟨j + 1, _, rfl, by go_num, by omega, HNW, hB⟩
                    case measure => simp [intOf]; omega
                  | false =>
                    go_wp2_with fail
                    obtain ⟨ad2, hA2, hab2, c0, c1⟩ := (HSA.out _ hB).lst.fst2 HRa.out hkn
                    injection hA2 with hA2
                    subst hA2
                    rw [HY.out] at c0 c1
                    have hs9 := hB.size
                    have q_e0 := fun d os => cell_regrown e0 d os
                    have q_e1 := fun d os => cell_regrown e1 d os
                    have q_e2 := fun d os => cell_regrown e2 d os
                    have q_e3 := fun d os => cell_regrown e3 d os
                    have q_e4 := fun d os => cell_regrown e4 d os
                    have q_e5 := fun d os => cell_regrown e5 d os
                    have q_e6 := fun d os => cell_regrown e6 d os
                    have q_e7 := fun d os => cell_regrown e7 d os
                    have q_c0 := fun d os => cell_regrown c0 d os
                    have q_c1 := fun d os => cell_regrown c1 d os
                    try simp only [List.append]
                    first | refine wp_region_text_below ?_ | refine wp_region_quiet_below (by kernel_rfl) (by kernel_rfl) ?_
                    repeat (go_big_quiet_step ((fail)))
                    refine wpQuiet_nil ?_
                    intro _ hqw
                    obtain ⟨pq, hqw⟩ := hqw
                    subst hqw
                    clear q_e0 q_e1 q_e2 q_e3 q_e4 q_e5 q_e6 q_e7 q_c0 q_c1
                    have hbel := below_regrown w6 pq.d pq.os
                    replace hB := hB.trans (hbel.mono hs9)
                    clear hbel e0 e1 e2 e3 e4 e5 e6 e7 c0 c1 hab hab2
                    generalize grow (redrawn w6 pq.d) pq.os = wq at *
                    go_wp2_with fail
                    go_roundw
                    case rel => exact ⟨j + 1, _, rfl, by go_num, by omega, HNW, hB⟩
                    case measure => simp [intOf]; omega
              | some a =>
                have HP := Lib.hid hp
                clear hp
                go_wp2_with fail
                clear e0 e1 e2 e3 e4 e5 e6 e7 hab
                refine (hlat_yes HP.out _).mono ?_
                rintro e w6 ⟨rfl, hb⟩
                replace hB := hB.trans (hb.mono hB.size)
                clear hb
                obtain ⟨ad1, hA1, hab, e0, e1, e2, e3, e4, e5, e6, e7⟩ := (HLE.out _ hB).lst.atEd HD.out hjn
                injection hA1 with hA1
                subst hA1
                rw [HX.out] at e0 e1 e2 e3 e4 e5 e6 e7
                have hG := whyG_some (y := y) HT1.out HT2.out HP.out
                have HG := Lib.hid hG
                clear hG
                cases wb with
                | true =>
                  have HNW : Hid (whyB rb l y size yq (j + 1) = true) := by
                    show whyB rb l y size yq (j + 1) = true
                    rw [HSTEP.out, HX.out, HWB.out, Bool.true_or]
                  go_wp2_with fail
                  obtain ⟨ad2, hA2, hab2, c0, c1⟩ := (HSA.out _ hB).lst.fst2 HRa.out hkn
                  injection hA2 with hA2
                  subst hA2
                  rw [HY.out] at c0 c1
                  have hs9 := hB.size
                  have q_e0 := fun d os => cell_regrown e0 d os
                  have q_e1 := fun d os => cell_regrown e1 d os
                  have q_e2 := fun d os => cell_regrown e2 d os
                  have q_e3 := fun d os => cell_regrown e3 d os
                  have q_e4 := fun d os => cell_regrown e4 d os
                  have q_e5 := fun d os => cell_regrown e5 d os
                  have q_e6 := fun d os => cell_regrown e6 d os
                  have q_e7 := fun d os => cell_regrown e7 d os
                  have q_c0 := fun d os => cell_regrown c0 d os
                  have q_c1 := fun d os => cell_regrown c1 d os
                  try simp only [List.append]
                  first | refine wp_region_text_below ?_ | refine wp_region_quiet_below (by kernel_rfl) (by kernel_rfl) ?_
                  repeat (go_big_quiet_step ((fail)))
                  refine wpQuiet_nil ?_
                  intro _ hqw
                  obtain ⟨pq, hqw⟩ := hqw
                  subst hqw
                  clear q_e0 q_e1 q_e2 q_e3 q_e4 q_e5 q_e6 q_e7 q_c0 q_c1
                  have hbel := below_regrown w6 pq.d pq.os
                  replace hB := hB.trans (hbel.mono hs9)
                  clear hbel e0 e1 e2 e3 e4 e5 e6 e7 c0 c1 hab hab2
                  generalize grow (redrawn w6 pq.d) pq.os = wq at *
                  go_wp2_with fail
                  go_roundw
                  case rel => exact ⟨j + 1, _, rfl, by go_num, by omega, HNW, hB⟩
                  case measure => simp [intOf]; omega
                | false =>
                  cases ok with
                  | false =>
                    have HNW : Hid (whyB rb l y size yq (j + 1) = false) := by
                      show whyB rb l y size yq (j + 1) = false
                      rw [HSTEP.out, HX.out, HWB.out, HG.out, Bool.false_and, Bool.false_and, Bool.or_false]
                    go_wp2_with fail
                    obtain ⟨ad2, hA2, hab2, c0, c1⟩ := (HSA.out _ hB).lst.fst2 HRa.out hkn
                    injection hA2 with hA2
                    subst hA2
                    rw [HY.out] at c0 c1
                    have hs9 := hB.size
                    have q_e0 := fun d os => cell_regrown e0 d os
                    have q_e1 := fun d os => cell_regrown e1 d os
                    have q_e2 := fun d os => cell_regrown e2 d os
                    have q_e3 := fun d os => cell_regrown e3 d os
                    have q_e4 := fun d os => cell_regrown e4 d os
                    have q_e5 := fun d os => cell_regrown e5 d os
                    have q_e6 := fun d os => cell_regrown e6 d os
                    have q_e7 := fun d os => cell_regrown e7 d os
                    have q_c0 := fun d os => cell_regrown c0 d os
                    have q_c1 := fun d os => cell_regrown c1 d os
                    try simp only [List.append]
                    first | refine wp_region_text_below ?_ | refine wp_region_quiet_below (by kernel_rfl) (by kernel_rfl) ?_
                    repeat (go_big_quiet_step ((fail)))
                    refine wpQuiet_nil ?_
                    intro _ hqw
                    obtain ⟨pq, hqw⟩ := hqw
                    subst hqw
                    clear q_e0 q_e1 q_e2 q_e3 q_e4 q_e5 q_e6 q_e7 q_c0 q_c1
                    have hbel := below_regrown w6 pq.d pq.os
                    replace hB := hB.trans (hbel.mono hs9)
                    clear hbel e0 e1 e2 e3 e4 e5 e6 e7 c0 c1 hab hab2
                    generalize grow (redrawn w6 pq.d) pq.os = wq at *
                    go_wp2_with fail
                    go_roundw
                    case rel => exact ⟨j + 1, _, rfl, by go_num, by omega, HNW, hB⟩
                    case measure => simp [intOf]; omega
                  | true =>
                    obtain ⟨b1, hb1⟩ : ∃ b, (x.fr == y.1) = b := ⟨_, rfl⟩
                    obtain ⟨b2, hb2⟩ : ∃ b, (a == y.2) = b := ⟨_, rfl⟩
                    have HNW : Hid (whyB rb l y size yq (j + 1) = (b1 && b2)) := by
                      show whyB rb l y size yq (j + 1) = (b1 && b2)
                      rw [HSTEP.out, HX.out, HWB.out, HG.out, hb1, hb2, Bool.true_and, Bool.false_or]
                    cases b1 with
                    | false =>
                      go_wp2_with fail
                      obtain ⟨ad2, hA2, hab2, c0, c1⟩ := (HSA.out _ hB).lst.fst2 HRa.out hkn
                      injection hA2 with hA2
                      subst hA2
                      rw [HY.out] at c0 c1
                      have hs9 := hB.size
                      have q_e0 := fun d os => cell_regrown e0 d os
                      have q_e1 := fun d os => cell_regrown e1 d os
                      have q_e2 := fun d os => cell_regrown e2 d os
                      have q_e3 := fun d os => cell_regrown e3 d os
                      have q_e4 := fun d os => cell_regrown e4 d os
                      have q_e5 := fun d os => cell_regrown e5 d os
                      have q_e6 := fun d os => cell_regrown e6 d os
                      have q_e7 := fun d os => cell_regrown e7 d os
                      have q_c0 := fun d os => cell_regrown c0 d os
                      have q_c1 := fun d os => cell_regrown c1 d os
                      try simp only [List.append]
                      first | refine wp_region_text_below ?_ | refine wp_region_quiet_below (by kernel_rfl) (by kernel_rfl) ?_
                      repeat (go_big_quiet_step ((fail)))
                      refine wpQuiet_nil ?_
                      intro _ hqw
                      obtain ⟨pq, hqw⟩ := hqw
                      subst hqw
                      clear q_e0 q_e1 q_e2 q_e3 q_e4 q_e5 q_e6 q_e7 q_c0 q_c1
                      have hbel := below_regrown w6 pq.d pq.os
                      replace hB := hB.trans (hbel.mono hs9)
                      clear hbel e0 e1 e2 e3 e4 e5 e6 e7 c0 c1 hab hab2
                      generalize grow (redrawn w6 pq.d) pq.os = wq at *
                      go_wp2_with fail
                      go_roundw
                      case rel => exact ⟨j + 1, _, rfl, by go_num, by omega, HNW, hB⟩
                      case measure => simp [intOf]; omega
                    | true =>
                      go_wp2_with fail
                      obtain ⟨ad2, hA2, hab2, c0, c1⟩ := (HSA.out _ hB).lst.fst2 HRa.out hkn
                      injection hA2 with hA2
                      subst hA2
                      rw [HY.out] at c0 c1
                      have hs9 := hB.size
                      have q_e0 := fun d os => cell_regrown e0 d os
                      have q_e1 := fun d os => cell_regrown e1 d os
                      have q_e2 := fun d os => cell_regrown e2 d os
                      have q_e3 := fun d os => cell_regrown e3 d os
                      have q_e4 := fun d os => cell_regrown e4 d os
                      have q_e5 := fun d os => cell_regrown e5 d os
                      have q_e6 := fun d os => cell_regrown e6 d os
                      have q_e7 := fun d os => cell_regrown e7 d os
                      have q_c0 := fun d os => cell_regrown c0 d os
                      have q_c1 := fun d os => cell_regrown c1 d os
                      try simp only [List.append]
                      first | refine wp_region_text_below ?_ | refine wp_region_quiet_below (by kernel_rfl) (by kernel_rfl) ?_
                      repeat (go_big_quiet_step ((fail)))
                      refine wpQuiet_nil ?_
                      intro _ hqw
                      obtain ⟨pq, hqw⟩ := hqw
                      subst hqw
                      clear q_e0 q_e1 q_e2 q_e3 q_e4 q_e5 q_e6 q_e7 q_c0 q_c1
                      have hbel := below_regrown w6 pq.d pq.os
                      replace hB := hB.trans (hbel.mono hs9)
                      clear hbel e0 e1 e2 e3 e4 e5 e6 e7 c0 c1 hab hab2
                      generalize grow (redrawn w6 pq.d) pq.os = wq at *
                      go_wp2_with fail
                      go_roundw
                      case rel => exact ⟨j + 1, _, rfl, by go_num, by omega, HNW, hB⟩
                      case measure => simp [intOf]; omega
            · obtain rfl : n = j := by omega
              have hall : whyB rb l y size yq n = true := whyB_all (by rw [HD.out]; exact Nat.le_refl _) (by rw [HYQ.out]) HWK.out
              have hwb : wb = true := by rw [← HWB.out]; exact hall
              subst hwb
              clear hall
              go_wp2_with fail
              go_roundw
              case rel => exact ⟨k + 1, by go_num, by omega, hB⟩
              case measure => simp [intOf]; omega
        · obtain rfl : k = na := by omega
          go_wp2_with fail
          go_ret
          exact ⟨rfl, HB.out.trans (hB.mono HB.out.size)⟩
theorem lateEdges_walk (A : Option Addr) (n k : Nat) (ns : List Int) (q by_ size hops : Int) (hnl : ns.length = n * 8) (_ : ∀ m ∈ ns, (Lit.int .i64 m).wf = true) (_ : (Lit.int .i64 q).wf = true) (_ : (Lit.int .i64 by_).wf = true) (_ : (Lit.int .i64 size).wf = true) (_ : (Lit.int .i64 hops).wf = true) (w : World) (hl : Sl w w.heap.size 8 A n k (ns.map (Value.int .i64))) :
    Calls Try.prog 7 #[.slice A n k, .int .i64 q, .int .i64 by_, .int .i64 size, .int .i64 hops] w fun e w' => e = .returned (.bool true) ∧ Below w.heap.size w w' := by
  obtain ⟨d, hd, hlf⟩ := rowsEd_of n ns hnl
  rw [hlf] at hl
  exact lateEdges_w A n k d q by_ size hops w hd hl
theorem lateEdges_own : ownKnob Try.prog.godebug = none := by kernel_rfl
theorem lateEdges_laidOut : laidOutB Try.prog = true := by kernel_rfl

set_option maxHeartbeats 1000000 in
set_option maxRecDepth 100000 in
theorem lateEdges_lifted (os : Os) (started : os.Started) (H : Type) (enc : TypeId × Value → H) :
    ReturnsInHanded {} Try.checked os 7 .any (Rows.lateEdgesSpec.pre6 enc Try.prog Try.f7 Rows.lateEdgesRow.domain false) (Rows.lateEdgesSpec.post enc Try.prog Try.f7 false true false false) := by
  refine returnsInHanded_of_change (C := Try.checked) lateEdges_own started (by kernel_rfl) Try.func7
    (ChangeSpec.witness6 (enc := enc) (C := Try.checked) false ⟨#[], #[.slice none 0 0, .int .i64 0, .int .i64 0, .int .i64 0, .int .i64 0], []⟩ 8 (by kernel_rfl) (by kernel_rfl) (by kernel_rfl) (by kernel_rfl)) ?_
  intro W base args ds gs before hval0 hW hcnd _
  have hval : ∀ (j : Nat) t v, Try.f7.params[j]? = some t → args[j]? = some v → Value.okWide Try.prog W .any base t v := hval0
  have hW' := hW
  obtain ⟨p, q, hA0, hV, rfl, hfz, hnd⟩ := hW
  have hA : DataW.TrodAll enc Try.prog W 0 (fun _ => true) true Try.f7.params.toList args.toList ds p := hA0
  rw [Try.params7] at hA hval
  obtain ⟨v0, vs0, d0, ds0, p0, q0, hargs, rfl, rfl, h0, r0⟩ := trodAll_cons hA
  obtain ⟨v1, vs1, d1, ds1, p1, q1, rfl, rfl, rfl, h1, r1⟩ := trodAll_cons r0
  obtain ⟨v2, vs2, d2, ds2, p2, q2, rfl, rfl, rfl, h2, r2⟩ := trodAll_cons r1
  obtain ⟨v3, vs3, d3, ds3, p3, q3, rfl, rfl, rfl, h3, r3⟩ := trodAll_cons r2
  obtain ⟨v4, vs4, d4, ds4, p4, q4, rfl, rfl, rfl, h4, r4⟩ := trodAll_cons r3
  obtain ⟨rfl, rfl, rfl⟩ := trodAll_nil r4
  obtain rfl : args = #[v0, v1, v2, v3, v4] := by cases args; simp_all
  obtain ⟨rfl, rfl⟩ := trodVars_none hV
  obtain ⟨A0, n0, c0, ns0, rfl, hl0, nl0, w0⟩ := open_rowsS 4 (K := 8) Try.underlying22 (by kernel_rfl) (by kernel_rfl) (by omega) (hval 0 22 v0 rfl rfl) h0
  obtain ⟨a1, rfl, rfl, rfl, w1⟩ := open_int Try.underlying3 (hval 1 3 v1 rfl rfl) h1
  obtain ⟨a2, rfl, rfl, rfl, w2⟩ := open_int Try.underlying3 (hval 2 3 v2 rfl rfl) h2
  obtain ⟨a3, rfl, rfl, rfl, w3⟩ := open_int Try.underlying3 (hval 3 3 v3 rfl rfl) h3
  obtain ⟨a4, rfl, rfl, rfl, w4⟩ := open_int Try.underlying3 (hval 4 3 v4 rfl rfl) h4
  clear hA0 hval0
  refine (lateEdges_walk A0 n0 c0 ns0 a1 a2 a3 a4 nl0 w0 w1 w2 w3 w4 W hl0).mono fun e W' ⟨he, bel⟩ => ?_
  subst he
  exact ⟨_, rfl, law_post lateEdges_laidOut (by kernel_rfl) rfl Try.underlying4 rfl rfl hW' bel⟩

theorem lateEdges_proved : Rows.LateEdgesSaid :=
  OpenClaim.holds_of_wide 7 Try.f7 rfl rfl rfl rfl rfl rfl rfl ⟨rfl, rfl, rfl, rfl, rfl⟩ rfl rfl rfl rfl rfl (by kernel_rfl) Try.func7 (by kernel_rfl)
    (of_decide_eq_true (by kernel_rfl)) (by unfold Func.isWrapper; first | (rw [if_pos (by decide +kernel)]; kernel_rfl) | (rw [if_neg (by decide +kernel)]; exact ⟨rfl, rfl⟩))
    (fun os started H enc _ => lateEdges_lifted os started H enc)
#print axioms lateEdges_proved
end Go.Proofs.Ytjkcjbcbnnpmfaa
