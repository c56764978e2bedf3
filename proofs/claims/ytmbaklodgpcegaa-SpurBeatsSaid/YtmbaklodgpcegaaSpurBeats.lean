/- No route that goes on from root without bans is ahead of the best way on: SpurBeats returns true. No condition. -/
import Derived.Test.YtmbaklodgpcegaaRows
import Derived.Test.YtmbaklodgpcegaaSmall18
import Derived.Test.YtmbaklodgpcegaaGQ26
import Derived.BigQuiet
import Derived.Deep.QuietTactic
import Derived.Test.YtmbaklodgpcegaaGQ20
namespace Go.Proofs.Ytmbaklodgpcegaa
open Go.ChangeShapes Go.WideShapes Go.ChangeAt Go.RowKit Go.Sort Hp
set_option linter.unusedSimpArgs false
set_option linter.unusedVariables false
set_option maxHeartbeats 8000000 in
set_option maxRecDepth 100000 in
theorem spurBeats_w (A : Option Addr) (n c : Nat) (l : List Ed) (Ai : Option Addr) (ni ci : Nat) (ids : List Int) (m : Int) (Ab : Option Addr) (nb cb : Nat) (bans : List Int) (f q now size by_ : Int) (w : World) (hd : l.length = n) (hdi : ids.length = ni) (hwi : ∀ k, k < ni → (Lit.int .i64 (ids.getD k 0)).wf = true) (hdb : bans.length = nb) (hwb : ∀ k, k < nb → (Lit.int .i64 (bans.getD k 0)).wf = true) (hl : Sl w w.heap.size 8 A n c (flatEd l)) (hli : Sl w w.heap.size 1 Ai ni ci (ids.map (Value.int .i64))) (hlb : Sl w w.heap.size 1 Ab nb cb (bans.map (Value.int .i64))) :
    Calls Try.prog 4 #[.slice A n c, .slice Ai ni ci, .int .i64 m, .slice Ab nb cb, .int .i64 f, .int .i64 q, .int .i64 now, .int .i64 size, .int .i64 by_] w fun e w' => e = .returned (.bool true) ∧ Below w.heap.size w w' := by
  have HD := Lib.hid hd
  have HL := Lib.hid (fun w' (hb : Below w.heap.size w w') => hl.up hb)
  clear hd hl
  have HDI := Lib.hid hdi
  have HWI := Lib.hid hwi
  have HLI := Lib.hid (fun w' (hb : Below w.heap.size w w') => hli.up hb)
  clear hli hdi hwi
  have HDB := Lib.hid hdb
  have HWB := Lib.hid hwb
  have HLB := Lib.hid (fun w' (hb : Below w.heap.size w w') => hlb.up hb)
  clear hlb hdb hwb
  go_enter Try.func4, Try.ntmps4
  go_wp2_with fail
  refine (small18_any w).mono ?_
  rintro e w1 ⟨rfl, hB⟩
  by_cases hG : 20 < n ∨ 20 < ni ∨ 20 < nb ∨ m < 0 ∨ (ni : Int) < m
  · have hG' : (20 < n) ∨ (n ≤ 20 ∧ 20 < ni) ∨ (n ≤ 20 ∧ ni ≤ 20 ∧ 20 < nb) ∨ (n ≤ 20 ∧ ni ≤ 20 ∧ nb ≤ 20 ∧ m < 0) ∨ (n ≤ 20 ∧ ni ≤ 20 ∧ nb ≤ 20 ∧ ¬ m < 0 ∧ (ni : Int) < m) := by omega
    clear hG
    rcases hG' with g0 | ⟨g0, g1⟩ | ⟨g0, g1, g2⟩ | ⟨g0, g1, g2, g3⟩ | ⟨g0, g1, g2, g3, g4⟩
    all_goals
      go_wp2_with fail
      go_ret
      exact ⟨rfl, hB⟩
  have hn1 : n ≤ 20 := by omega
  have hn2 : ni ≤ 20 := by omega
  have hn3 : nb ≤ 20 := by omega
  have hn4 : ¬ m < 0 := by omega
  have hn5 : m ≤ (ni : Int) := by omega
  clear hG
  obtain ⟨km, rfl⟩ : ∃ k : Nat, m = (k : Int) := ⟨m.toNat, by omega⟩
  have hkm : km ≤ ni := by omega
  have hn4' : ¬ (km : Int) < 0 := hn4
  have hn5' : ¬ (ni : Int) < (km : Int) := by omega
  obtain ⟨p, hp⟩ : ∃ p, routeE l ids f q now size = p := ⟨_, rfl⟩
  obtain ⟨ar, har⟩ : ∃ z, arrO p = z := ⟨_, rfl⟩
  obtain ⟨hs, hhs⟩ : ∃ z, hopsO p = z := ⟨_, rfl⟩
  obtain ⟨is, his⟩ : ∃ b, p.isSome = b := ⟨_, rfl⟩
  have HP := Lib.hid hp
  have HAR := Lib.hid har
  have HHS := Lib.hid hhs
  have HIS := Lib.hid his
  clear hp har hhs his
  obtain ⟨or, hor⟩ : ∃ o, spurX l (ids.take km) bans f q now size by_ = o := ⟨_, rfl⟩
  obtain ⟨tr, htr⟩ : ∃ t, bestV or = t := ⟨_, rfl⟩
  obtain ⟨Hr, hHr⟩ : ∃ H, bestH or = H := ⟨_, rfl⟩
  obtain ⟨kr, hkr⟩ : ∃ b, or.isSome = b := ⟨_, rfl⟩
  have HOr := Lib.hid hor
  have HTr := Lib.hid htr
  have HHr := Lib.hid hHr
  have HKr := Lib.hid hkr
  clear hor htr hHr hkr
  go_wp2_with fail
  refine (proute_v A n c l Ai ni ci ids f q now size w1 HD.out (by omega) HDI.out (by omega) HWI.out (HL.out _ hB) (HLI.out _ hB) p HP.out hs HHS.out ar HAR.out is HIS.out).mono ?_
  rintro e wk1 ⟨As, ns, cs, rfl, hns, hms, ss, hb⟩
  replace hB := hB.trans (hb.mono hB.size)
  clear hb
  have HNS := Lib.hid hns
  clear hns
  have hc : is = false ∨ (is = true ∧ by_ < ar) ∨ (is = true ∧ ar ≤ by_) := by cases is with | false => exact .inl rfl | true => by_cases h : by_ < ar <;> simp [h] <;> omega
  rcases hc with rfl | ⟨rfl, hlt⟩ | ⟨rfl, hle⟩
  · go_wp2_with fail
    have hb : Below wk1.heap.size wk1 (wk1.alloc (.cells #[.slice As ns cs, .int .i64 ar] 27)) := (Below.refl _ _).alloc (Nat.le_refl _) _
    have xs := Blok.new wk1 27 #[.slice As ns cs, .int .i64 ar]
    obtain ⟨bxs, hbxs⟩ : ∃ q, wk1.heap.size = q := ⟨_, rfl⟩
    have hsxs : (wk1.alloc (.cells #[.slice As ns cs, .int .i64 ar] 27)).heap.size = bxs + 1 := by rw [← hbxs]; simp
    replace ss := ss.up hb
    replace hB := hB.trans (hb.mono hB.size)
    clear hb
    generalize wk1.alloc (.cells #[.slice As ns cs, .int .i64 ar] 27) = wk2 at *
    rw [hbxs] at xs
    try rw [hbxs]
    clear hbxs
    go_ret
    exact ⟨rfl, hB⟩
  · go_wp2_with fail
    have hb : Below wk1.heap.size wk1 (wk1.alloc (.cells #[.slice As ns cs, .int .i64 ar] 27)) := (Below.refl _ _).alloc (Nat.le_refl _) _
    have xs := Blok.new wk1 27 #[.slice As ns cs, .int .i64 ar]
    obtain ⟨bxs, hbxs⟩ : ∃ q, wk1.heap.size = q := ⟨_, rfl⟩
    have hsxs : (wk1.alloc (.cells #[.slice As ns cs, .int .i64 ar] 27)).heap.size = bxs + 1 := by rw [← hbxs]; simp
    replace ss := ss.up hb
    replace hB := hB.trans (hb.mono hB.size)
    clear hb
    generalize wk1.alloc (.cells #[.slice As ns cs, .int .i64 ar] 27) = wk2 at *
    rw [hbxs] at xs
    try rw [hbxs]
    clear hbxs
    go_ret
    exact ⟨rfl, hB⟩
  · obtain ⟨p0, hp0⟩ : ∃ p0, p = some p0 := Option.isSome_iff_exists.1 HIS.out
    have hpa : p0.2 = ar := by have h := HAR.out; rw [hp0] at h; exact h
    have hph : p0.1 = hs := by have h := HHS.out; rw [hp0] at h; exact h
    have hP := HP.out
    rw [hp0] at hP
    have HP0 := Lib.hid hP
    have HPA := Lib.hid hpa
    have HPH := Lib.hid hph
    clear hp0 hpa hph hP
    have HLE := Lib.hid hle
    have g9 : decide (by_ < ar) = false := decide_eq_false (by omega)
    go_upto_region 7 with fail
    have hb : Below wk1.heap.size wk1 (wk1.alloc (.cells #[.slice As ns cs, .int .i64 ar] 27)) := (Below.refl _ _).alloc (Nat.le_refl _) _
    have xs := Blok.new wk1 27 #[.slice As ns cs, .int .i64 ar]
    obtain ⟨bxs, hbxs⟩ : ∃ q, wk1.heap.size = q := ⟨_, rfl⟩
    have hsxs : (wk1.alloc (.cells #[.slice As ns cs, .int .i64 ar] 27)).heap.size = bxs + 1 := by rw [← hbxs]; simp
    replace ss := ss.up hb
    replace hB := hB.trans (hb.mono hB.size)
    clear hb
    generalize wk1.alloc (.cells #[.slice As ns cs, .int .i64 ar] 27) = wk2 at *
    rw [hbxs] at xs
    try rw [hbxs]
    clear hbxs
    try clear hsxs
    clear g9
    have hli_ := HLI.out _ hB
    have hlb_ := HLB.out _ hB
    have Fss := Lib.hid (fun w' (hb : Below wk2.heap.size wk2 w') => ss.up hb)
    have Fhli_ := Lib.hid (fun w' (hb : Below wk2.heap.size wk2 w') => hli_.up hb)
    have Fhlb_ := Lib.hid (fun w' (hb : Below wk2.heap.size wk2 w') => hlb_.up hb)
    have Fxs := Lib.hid (fun w' (hb : Below wk2.heap.size wk2 w') => xs.below hb xs.lt)
    have HBA := Lib.hid hB
    clear ss hli_ hlb_ xs hB
    go_wp2_with fail
    go_loopw [22] (fun iv wr => ∃ (i : Nat), iv = .int .i64 i ∧ i ≤ nb ∧ Hid (km < ni → ids.getD km 0 ∉ bans.take i) ∧ Below wk2.heap.size wk2 wr) (fun iv _ => nb - (intOf iv).toNat)
    case atStart => exact ⟨0, rfl, by omega, (fun _ h => by simp at h), Below.refl _ _⟩
    case round =>
      obtain ⟨i, rfl, hi, HI, hBr⟩ := hrel
      have hs5 := hBr.size
      by_cases him : i < nb
      · have htk := take_nextI (l := bans) (k := i) (by rw [HDB.out]; exact him)
        obtain ⟨y, hy⟩ : ∃ y, bans.getD i 0 = y := ⟨_, rfl⟩
        rw [hy] at htk
        have HY := Lib.hid hy
        have HTK := Lib.hid htk
        clear hy htk
        have hmi : (i : Int) < (nb : Int) := by omega
        by_cases hrn : km < ni
        · obtain ⟨x, hx⟩ : ∃ x, ids.getD km 0 = x := ⟨_, rfl⟩
          obtain ⟨ad, hA, hab, c0⟩ := (Fhli_.out _ hBr).lst.atI HDI.out hrn
          obtain ⟨ae, hA2, hab2, d0⟩ := (Fhlb_.out _ hBr).lst.atI HDB.out him
          subst hA hA2
          rw [hx] at c0
          rw [HY.out] at d0
          have HX := Lib.hid hx
          have hrI : (km : Int) < (ni : Int) := by omega
          have g1 : decide (km < ni) = true := decide_eq_true hrn
          have g2 : decide ((km : Int) < (ni : Int)) = true := decide_eq_true hrI
          obtain ⟨z, hz⟩ : ∃ z, (x == y) = z := ⟨_, rfl⟩
          have HZ := Lib.hid hz
          clear hx
          go_wp2_with fail
          have q_c0 := fun d os => cell_regrown c0 d os
          have q_d0 := fun d os => cell_regrown d0 d os
          try simp only [List.append]
          first | refine wp_region_text_below ?_ | refine wp_region_quiet_below (by kernel_rfl) (by kernel_rfl) ?_
          repeat (go_big_quiet_step ((fail)))
          refine wpQuiet_nil ?_
          intro _ hqw
          obtain ⟨pq, hqw⟩ := hqw
          subst hqw
          clear q_c0 q_d0
          have hbel := below_regrown wr pq.d pq.os
          replace hBr := hBr.trans (hbel.mono hs5)
          clear hbel c0 d0 hab hab2 g1 g2 hz
          generalize grow (redrawn wr pq.d) pq.os = wq at *
          cases z with
          | false =>
            have HI2 : Hid (km < ni → ids.getD km 0 ∉ bans.take (i + 1)) := fun hh hc => by
              rw [HTK.out, List.mem_append] at hc
              rcases hc with h1 | h1
              · exact HI.out hh h1
              · have h2 : ids.getD km 0 = y := by simpa using h1
                rw [HX.out] at h2
                have := HZ.out
                rw [h2] at this
                simp at this
            go_wp2_with fail
            go_roundw
            case rel => exact ⟨i + 1, by go_num, by omega, HI2, hBr⟩
            case measure => simp [intOf]; omega
          | true =>
            have hB := HBA.out.trans (hBr.mono HBA.out.size)
            go_wp2_with fail
            go_ret
            exact ⟨rfl, hB⟩
        · have g1 : decide (km < ni) = false := decide_eq_false hrn
          have g2 : decide ((km : Int) < (ni : Int)) = false := decide_eq_false (by omega)
          have HI2 : Hid (km < ni → ids.getD km 0 ∉ bans.take (i + 1)) := fun hh => absurd hh hrn
          go_wp2_with fail
          try simp only [List.append]
          first | refine wp_region_text_below ?_ | refine wp_region_quiet_below (by kernel_rfl) (by kernel_rfl) ?_
          repeat (go_big_quiet_step ((fail)))
          refine wpQuiet_nil ?_
          intro _ hqw
          obtain ⟨pq, hqw⟩ := hqw
          subst hqw
          have hbel := below_regrown wr pq.d pq.os
          replace hBr := hBr.trans (hbel.mono hs5)
          clear hbel g1 g2
          generalize grow (redrawn wr pq.d) pq.os = wq at *
          go_wp2_with fail
          go_roundw
          case rel => exact ⟨i + 1, by go_num, by omega, HI2, hBr⟩
          case measure => simp [intOf]; omega
      · obtain rfl : nb = i := by omega
        have hgo : goesB (ids.take km) bans ids = true := by
          refine goesB_spec.2 ⟨ids.drop km, (List.take_append_drop _ _).symm, fun j hj hc => ?_⟩
          have hlt : km < ids.length := by
            rcases Nat.lt_or_ge km ids.length with h1 | h1
            · exact h1
            · rw [List.drop_of_length_le h1] at hj; cases hj
          rw [List.drop_eq_getElem_cons hlt, List.head?_cons] at hj
          have hje : ids[km] = j := Option.some.inj (Option.mem_def.1 hj)
          have h2 := HI.out (by rw [← HDI.out]; exact hlt)
          rw [List.take_of_length_le (by rw [HDB.out]; omega), List.getD_eq_getElem?_getD, List.getElem?_eq_getElem hlt] at h2
          exact h2 (by show ids[km] ∈ bans; rw [hje]; exact hc)
        obtain ⟨p', hp', hcm⟩ := spur_beats HP0.out (by rw [HPA.out]; exact HLE.out) hgo
        rw [HOr.out] at hp'
        subst hp'
        obtain rfl : tr = p'.2 := HTr.out.symm
        obtain rfl : Hr = p'.1 := HHr.out.symm
        obtain rfl : kr = true := HKr.out.symm
        rw [HPA.out, HPH.out] at hcm
        obtain ⟨z, hz⟩ : ∃ z, cmpR p'.2 p'.1 ar hs = z := ⟨_, rfl⟩
        rw [hz] at hcm
        have HZ := Lib.hid hz
        have ss := Fss.out _ hBr
        have xs := Fxs.out _ hBr
        have hli_ := Fhli_.out _ hBr
        have hB := HBA.out.trans (hBr.mono HBA.out.size)
        have hru := hli_.upto hkm
        rw [Nat.mul_one, ← List.map_take] at hru
        have hcap : km ≤ ci := by have := hli_.cap; omega
        have hrun : ∀ w0, (Instr.slice 23 (.slice Ai ni ci) none (some (.int .i64 (km : Int))) none).run Try.prog w0 = .ok (.slice Ai km ci) w0 := fun w0 => run_hiI w0 Ai ni ci km hcap
        have hdr : (ids.take km).length = km := by rw [List.length_take, HDI.out]; omega
        have hwr : ∀ k, k < km → (Lit.int .i64 ((ids.take km).getD k 0)).wf = true := fun k hk => by
          have := HWI.out k (by omega)
          rw [List.getD_eq_getElem?_getD] at this ⊢
          rw [List.getElem?_take_of_lt hk]
          exact this
        have HDR := Lib.hid hdr
        have HWR := Lib.hid hwr
        clear hgo hz hBr hdr hwr hli_
        obtain ⟨wA, hwA⟩ : ∃ x, x = wr := ⟨_, rfl⟩
        subst hwA
        go_wp2_with fail
        try clear hrun
        have ho2 : spurX l (ids.take km) bans f q now size by_ = some p' := HOr.out
        have HO2 := Lib.hid ho2
        clear ho2
        refine (sproute_v A n c l Ai km ci (ids.take km) Ab nb cb bans f q now size by_ wA HD.out (by omega) HDR.out (by omega) HWR.out HDB.out (by omega) HWB.out (HL.out _ hB) hru (HLB.out _ hB) (some p') HO2.out p'.2 rfl p'.1 rfl true rfl).mono ?_
        rintro e wk3 ⟨Ar, nr, cr, rfl, hnr, hmr, sr, hb⟩
        replace ss := ss.up hb
        replace hru := hru.up hb
        replace xs := xs.below hb xs.lt
        replace hB := hB.trans (hb.mono hB.size)
        clear hb
        have HNR := Lib.hid hnr
        clear hnr
        have xs_c0 := (xs.cell 0 : wk3.cell? ⟨bxs, 0, none⟩ = some (.slice As ns cs))
        have xs_c1 := (xs.cell 1 : wk3.cell? ⟨bxs, 1, none⟩ = some (.int .i64 ar))
        have xs_lt := xs.lt
        go_wp2_with fail
        try clear xs_c0 xs_c1 xs_lt
        have hb : Below wk3.heap.size wk3 (wk3.alloc (.cells #[.slice Ar nr cr, .int .i64 p'.2] 27)) := (Below.refl _ _).alloc (Nat.le_refl _) _
        have xr := Blok.new wk3 27 #[.slice Ar nr cr, .int .i64 p'.2]
        obtain ⟨bxr, hbxr⟩ : ∃ q, wk3.heap.size = q := ⟨_, rfl⟩
        have hsxr : (wk3.alloc (.cells #[.slice Ar nr cr, .int .i64 p'.2] 27)).heap.size = bxr + 1 := by rw [← hbxr]; simp
        replace ss := ss.up hb
        replace hru := hru.up hb
        replace sr := sr.up hb
        replace xs := xs.below hb xs.lt
        replace hB := hB.trans (hb.mono hB.size)
        clear hb
        generalize wk3.alloc (.cells #[.slice Ar nr cr, .int .i64 p'.2] 27) = wk4 at *
        rw [hbxr] at xr
        try rw [hbxr]
        clear hbxr
        try clear hsxr
        refine (ocmp_any Ar As nr cr ns cs p'.1 hs p'.2 ar wk4 HNR.out HNS.out (by omega) (by omega) sr ss z HZ.out).mono ?_
        rintro e wk5 ⟨rfl, hb⟩
        replace ss := ss.up hb
        replace hru := hru.up hb
        replace sr := sr.up hb
        replace xs := xs.below hb xs.lt
        replace xr := xr.below hb xr.lt
        replace hB := hB.trans (hb.mono hB.size)
        clear hb
        go_wp2_with fail
        go_ret
        exact ⟨rfl, hB⟩
theorem spurBeats_walk (A : Option Addr) (n k : Nat) (ns : List Int) (Ai : Option Addr) (ni ki : Nat) (nsi : List Int) (m : Int) (Ab : Option Addr) (nb kb : Nat) (nsb : List Int) (f : Int) (q : Int) (now : Int) (size : Int) (by_ : Int) (hnl : ns.length = n * 8) (_ : ∀ m ∈ ns, (Lit.int .i64 m).wf = true) (hni : nsi.length = ni * 1) (hwi : ∀ m ∈ nsi, (Lit.int .i64 m).wf = true) (_ : (Lit.int .i64 m).wf = true) (hnb : nsb.length = nb * 1) (hwb : ∀ m ∈ nsb, (Lit.int .i64 m).wf = true) (_ : (Lit.int .i64 f).wf = true) (_ : (Lit.int .i64 q).wf = true) (_ : (Lit.int .i64 now).wf = true) (_ : (Lit.int .i64 size).wf = true) (_ : (Lit.int .i64 by_).wf = true) (w : World) (hl : Sl w w.heap.size 8 A n k (ns.map (Value.int .i64))) (hli : Sl w w.heap.size 1 Ai ni ki (nsi.map (Value.int .i64))) (hlb : Sl w w.heap.size 1 Ab nb kb (nsb.map (Value.int .i64))) :
    Calls Try.prog 4 #[.slice A n k, .slice Ai ni ki, .int .i64 m, .slice Ab nb kb, .int .i64 f, .int .i64 q, .int .i64 now, .int .i64 size, .int .i64 by_] w fun e w' => e = .returned (.bool true) ∧ Below w.heap.size w w' := by
  obtain ⟨d, hd, hlf⟩ := rowsEd_of n ns hnl
  have hii : nsi.length = ni := by omega
  have hib : nsb.length = nb := by omega
  rw [hlf] at hl
  exact spurBeats_w A n k d Ai ni ki nsi m Ab nb kb nsb f q now size by_ w hd hii (wf_getD hii hwi) hib (wf_getD hib hwb) hl hli hlb
theorem spurBeats_own : ownKnob Try.prog.godebug = none := by kernel_rfl
theorem spurBeats_laidOut : laidOutB Try.prog = true := by kernel_rfl

set_option maxHeartbeats 1000000 in
set_option maxRecDepth 100000 in
theorem spurBeats_lifted (os : Os) (started : os.Started) (H : Type) (enc : TypeId × Value → H) :
    ReturnsInHanded {} Try.checked os 4 .any (Rows.spurBeatsSpec.pre6 enc Try.prog Try.f4 Rows.spurBeatsRow.domain false) (Rows.spurBeatsSpec.post enc Try.prog Try.f4 false true false false) := by
  refine returnsInHanded_of_change (C := Try.checked) spurBeats_own started (by kernel_rfl) Try.func4
    (ChangeSpec.witness6 (enc := enc) (C := Try.checked) false ⟨#[], #[.slice none 0 0, .slice none 0 0, .int .i64 0, .slice none 0 0, .int .i64 0, .int .i64 0, .int .i64 0, .int .i64 0, .int .i64 0], []⟩ 8 (by kernel_rfl) (by kernel_rfl) (by kernel_rfl) (by kernel_rfl)) ?_
  intro W base args ds gs before hval0 hW hcnd _
  have hval : ∀ (j : Nat) t v, Try.f4.params[j]? = some t → args[j]? = some v → Value.okWide Try.prog W .any base t v := hval0
  have hW' := hW
  obtain ⟨p, q, hA0, hV, rfl, hfz, hnd⟩ := hW
  have hA : DataW.TrodAll enc Try.prog W 0 (fun _ => true) true Try.f4.params.toList args.toList ds p := hA0
  rw [Try.params4] at hA hval
  obtain ⟨v0, vs0, d0, ds0, p0, q0, hargs, rfl, rfl, h0, r0⟩ := trodAll_cons hA
  obtain ⟨v1, vs1, d1, ds1, p1, q1, rfl, rfl, rfl, h1, r1⟩ := trodAll_cons r0
  obtain ⟨v2, vs2, d2, ds2, p2, q2, rfl, rfl, rfl, h2, r2⟩ := trodAll_cons r1
  obtain ⟨v3, vs3, d3, ds3, p3, q3, rfl, rfl, rfl, h3, r3⟩ := trodAll_cons r2
  obtain ⟨v4, vs4, d4, ds4, p4, q4, rfl, rfl, rfl, h4, r4⟩ := trodAll_cons r3
  obtain ⟨v5, vs5, d5, ds5, p5, q5, rfl, rfl, rfl, h5, r5⟩ := trodAll_cons r4
  obtain ⟨v6, vs6, d6, ds6, p6, q6, rfl, rfl, rfl, h6, r6⟩ := trodAll_cons r5
  obtain ⟨v7, vs7, d7, ds7, p7, q7, rfl, rfl, rfl, h7, r7⟩ := trodAll_cons r6
  obtain ⟨v8, vs8, d8, ds8, p8, q8, rfl, rfl, rfl, h8, r8⟩ := trodAll_cons r7
  obtain ⟨rfl, rfl, rfl⟩ := trodAll_nil r8
  obtain rfl : args = #[v0, v1, v2, v3, v4, v5, v6, v7, v8] := by cases args; simp_all
  obtain ⟨rfl, rfl⟩ := trodVars_none hV
  obtain ⟨A0, n0, c0, ns0, rfl, hl0, nl0, w0⟩ := open_rowsS 4 (K := 8) Try.underlying22 (by kernel_rfl) (by kernel_rfl) (by omega) (hval 0 22 v0 rfl rfl) h0
  obtain ⟨A1, n1, c1, ns1, rfl, hl1, nl1, w1⟩ := open_rowsS 4 (K := 1) Try.underlying23 (by kernel_rfl) (by kernel_rfl) (by omega) (hval 1 23 v1 rfl rfl) h1
  obtain ⟨a2, rfl, rfl, rfl, w2⟩ := open_int Try.underlying3 (hval 2 3 v2 rfl rfl) h2
  obtain ⟨A3, n3, c3, ns3, rfl, hl3, nl3, w3⟩ := open_rowsS 4 (K := 1) Try.underlying23 (by kernel_rfl) (by kernel_rfl) (by omega) (hval 3 23 v3 rfl rfl) h3
  obtain ⟨a4, rfl, rfl, rfl, w4⟩ := open_int Try.underlying3 (hval 4 3 v4 rfl rfl) h4
  obtain ⟨a5, rfl, rfl, rfl, w5⟩ := open_int Try.underlying3 (hval 5 3 v5 rfl rfl) h5
  obtain ⟨a6, rfl, rfl, rfl, w6⟩ := open_int Try.underlying3 (hval 6 3 v6 rfl rfl) h6
  obtain ⟨a7, rfl, rfl, rfl, w7⟩ := open_int Try.underlying3 (hval 7 3 v7 rfl rfl) h7
  obtain ⟨a8, rfl, rfl, rfl, w8⟩ := open_int Try.underlying3 (hval 8 3 v8 rfl rfl) h8
  clear hA0 hval0
  refine (spurBeats_walk A0 n0 c0 ns0 A1 n1 c1 ns1 a2 A3 n3 c3 ns3 a4 a5 a6 a7 a8 nl0 w0 nl1 w1 w2 nl3 w3 w4 w5 w6 w7 w8 W hl0 hl1 hl3).mono fun e W' ⟨he, bel⟩ => ?_
  subst he
  exact ⟨_, rfl, law_post spurBeats_laidOut (by kernel_rfl) rfl Try.underlying4 rfl rfl hW' bel⟩

theorem spurBeats_proved : Rows.SpurBeatsSaid :=
  OpenClaim.holds_of_wide 4 Try.f4 rfl rfl rfl rfl rfl rfl rfl ⟨rfl, rfl, rfl, rfl, rfl⟩ rfl rfl rfl rfl rfl (by kernel_rfl) Try.func4 (by kernel_rfl)
    (of_decide_eq_true (by kernel_rfl)) (by unfold Func.isWrapper; first | (rw [if_pos (by decide +kernel)]; kernel_rfl) | (rw [if_neg (by decide +kernel)]; exact ⟨rfl, rfl⟩))
    (fun os started H enc _ => spurBeats_lifted os started H enc)
#print axioms spurBeats_proved
end Go.Proofs.Ytmbaklodgpcegaa
