/- The best route enters no node that is shut, and is the best one of all, if that does not either: LeastShuts returns true. No condition. -/
import Derived.Test.YtmibgfenobekjaaRows
import Derived.Test.YtmibgfenobekjaaSmall17
import Derived.Test.YtmibgfenobekjaaLeastLaw
import Derived.Test.YtmibgfenobekjaaGQ22
import Derived.Test.YtmibgfenobekjaaGQ18
import Derived.Test.YtmibgfenobekjaaGQ5
import Derived.BigQuiet
import Derived.Deep.QuietTactic
namespace Go.Proofs.Ytmibgfenobekjaa
open Go.ChangeShapes Go.WideShapes Go.ChangeAt Go.RowKit Go.Sort Hp
set_option linter.unusedSimpArgs false
set_option linter.unusedVariables false
set_option maxHeartbeats 8000000 in
set_option maxRecDepth 100000 in
theorem leastShuts_w (A : Option Addr) (n c : Nat) (l : List Ed) (f q now size by_ : Int) (Ai : Option Addr) (m ci : Nat) (sh : List Int) (w : World) (hd : l.length = n) (hi : sh.length = m) (hwf : ∀ q, q < m → (Lit.int .i64 (sh.getD q 0)).wf = true) (hl : Sl w w.heap.size 8 A n c (flatEd l)) (hli : Sl w w.heap.size 1 Ai m ci (sh.map (Value.int .i64))) :
    Calls Try.prog 6 #[.slice A n c, .int .i64 f, .int .i64 q, .int .i64 now, .int .i64 size, .int .i64 by_, .slice Ai m ci] w fun e w' => e = .returned (.bool true) ∧ Below w.heap.size w w' := by
  have HD := Lib.hid hd
  have HI := Lib.hid hi
  have HWF := Lib.hid hwf
  have HL := Lib.hid (fun w' (hb : Below w.heap.size w w') => hl.up hb)
  have HLI := Lib.hid (fun w' (hb : Below w.heap.size w w') => hli.up hb)
  clear hd hi hwf hl hli
  go_enter Try.func6, Try.ntmps6
  go_wp2_with fail
  refine (small17_any w).mono ?_
  rintro e w1 ⟨rfl, hB⟩
  by_cases hG : 30 < n ∨ 20 < m
  · have hG' : (30 < n) ∨ (n ≤ 30 ∧ 20 < m) := by omega
    clear hG
    rcases hG' with g0 | ⟨g0, g1⟩
    all_goals
      go_wp2_with fail
      go_ret
      exact ⟨rfl, hB⟩
  have hn1 : n ≤ 30 := by omega
  have hn2 : m ≤ 20 := by omega
  clear hG
  obtain ⟨or, hor⟩ : ∃ o, bestX l f q now size by_ sh = o := ⟨_, rfl⟩
  obtain ⟨tr, htr⟩ : ∃ t, bestV or = t := ⟨_, rfl⟩
  obtain ⟨Hr, hHr⟩ : ∃ H, bestH or = H := ⟨_, rfl⟩
  obtain ⟨kr, hkr⟩ : ∃ b, or.isSome = b := ⟨_, rfl⟩
  have HOr := Lib.hid hor
  have HTr := Lib.hid htr
  have HHr := Lib.hid hHr
  have HKr := Lib.hid hkr
  clear hor htr hHr hkr
  obtain ⟨os, hos⟩ : ∃ o, bestX l f q now size by_ [] = o := ⟨_, rfl⟩
  obtain ⟨ts, hts⟩ : ∃ t, bestV os = t := ⟨_, rfl⟩
  obtain ⟨Hs, hHs⟩ : ∃ H, bestH os = H := ⟨_, rfl⟩
  obtain ⟨ks, hks⟩ : ∃ b, os.isSome = b := ⟨_, rfl⟩
  have HOs := Lib.hid hos
  have HTs := Lib.hid hts
  have HHs := Lib.hid hHs
  have HKs := Lib.hid hks
  clear hos hts hHs hks
  obtain ⟨ids, hids⟩ : ∃ z, Hs.map Hp.id = z := ⟨_, rfl⟩
  obtain ⟨E, hE⟩ : ∃ z, endsE l ids f = z := ⟨_, rfl⟩
  obtain ⟨kE, hkE⟩ : ∃ z, E.isSome = z := ⟨_, rfl⟩
  obtain ⟨N, hN⟩ : ∃ z, E.getD [] = z := ⟨_, rfl⟩
  have hwfs : ∀ i ∈ ids, (Lit.int .i64 i).wf = true := by rw [← hids, ← HHs.out]; exact bestX_wf HOs.out
  have HIDS := Lib.hid hids
  have HE := Lib.hid hE
  have HKE := Lib.hid hkE
  have HN := Lib.hid hN
  have HWFS := Lib.hid hwfs
  clear hids hE hkE hN hwfs
  go_wp2_with fail
  refine (lroute_v A n c l f q now size by_ Ai m ci sh w1 HD.out (by omega) HI.out (by omega) HWF.out (HL.out _ hB) (HLI.out _ hB) or HOr.out tr HTr.out Hr HHr.out kr HKr.out).mono ?_
  rintro e wk1 ⟨Ar, nr, cr, rfl, hnr, hmr, sr, hb⟩
  replace hB := hB.trans (hb.mono hB.size)
  clear hb
  have HNr := Lib.hid hnr
  clear hnr
  go_wp2_with fail
  have hb : Below wk1.heap.size wk1 (wk1.alloc (.cells #[.slice Ar nr cr, .int .i64 tr] 27)) := (Below.refl _ _).alloc (Nat.le_refl _) _
  have xr := Blok.new wk1 27 #[.slice Ar nr cr, .int .i64 tr]
  obtain ⟨bxr, hbxr⟩ : ∃ q, wk1.heap.size = q := ⟨_, rfl⟩
  have hsxr : (wk1.alloc (.cells #[.slice Ar nr cr, .int .i64 tr] 27)).heap.size = bxr + 1 := by rw [← hbxr]; simp
  replace sr := sr.up hb
  replace hB := hB.trans (hb.mono hB.size)
  clear hb
  generalize wk1.alloc (.cells #[.slice Ar nr cr, .int .i64 tr] 27) = wk2 at *
  rw [hbxr] at xr
  try rw [hbxr]
  clear hbxr
  refine (lroute_v A n c l f q now size by_ none 0 0 [] wk2 HD.out (by omega) rfl (by omega) (fun k hk => by omega) (HL.out _ hB) (Sl.nil0 _ _ _) os HOs.out ts HTs.out Hs HHs.out ks HKs.out).mono ?_
  rintro e wk3 ⟨As, ns, cs, rfl, hns, hms, ss, hb⟩
  replace sr := sr.up hb
  replace xr := xr.below hb xr.lt
  replace hB := hB.trans (hb.mono hB.size)
  clear hb
  have HNs := Lib.hid hns
  clear hns
  go_wp2_with fail
  have hb : Below wk3.heap.size wk3 (wk3.alloc (.cells #[.slice As ns cs, .int .i64 ts] 27)) := (Below.refl _ _).alloc (Nat.le_refl _) _
  have xs := Blok.new wk3 27 #[.slice As ns cs, .int .i64 ts]
  obtain ⟨bxs, hbxs⟩ : ∃ q, wk3.heap.size = q := ⟨_, rfl⟩
  have hsxs : (wk3.alloc (.cells #[.slice As ns cs, .int .i64 ts] 27)).heap.size = bxs + 1 := by rw [← hbxs]; simp
  replace sr := sr.up hb
  replace ss := ss.up hb
  replace xr := xr.below hb xr.lt
  replace hB := hB.trans (hb.mono hB.size)
  clear hb
  generalize wk3.alloc (.cells #[.slice As ns cs, .int .i64 ts] 27) = wk4 at *
  rw [hbxs] at xs
  try rw [hbxs]
  clear hbxs
  refine (pids_v As ns cs Hs ts wk4 HNs.out (by omega) ss ids HIDS.out).mono ?_
  rintro e wk5 ⟨Ad, cd, rfl, hil, sd, hb⟩
  replace sr := sr.up hb
  replace ss := ss.up hb
  replace xr := xr.below hb xr.lt
  replace xs := xs.below hb xs.lt
  replace hB := hB.trans (hb.mono hB.size)
  clear hb
  have HIL := Lib.hid hil
  clear hil
  go_wp2_with fail
  refine (pEnds_v A n c l Ad ns cd ids f wk5 HD.out (by omega) HIL.out (by omega) (wf_getD HIL.out HWFS.out) (HL.out _ hB) sd E HE.out kE HKE.out N HN.out).mono ?_
  rintro e wk6 ⟨An, nn, cn, rfl, hnn, hnm, sn, hb⟩
  replace sr := sr.up hb
  replace ss := ss.up hb
  replace sd := sd.up hb
  replace xr := xr.below hb xr.lt
  replace xs := xs.below hb xs.lt
  replace hB := hB.trans (hb.mono hB.size)
  clear hb
  have HNN := Lib.hid hnn
  clear hnn
  clear sd
  cases ks with
  | false =>
    have hon : os = none := by have h := HKs.out; cases os with | none => rfl | some p => cases h
    have hrn := shuts_none HOr.out HOs.out hon
    subst hrn
    obtain rfl : kr = false := HKr.out.symm
    obtain rfl : Hr = [] := HHr.out.symm
    obtain rfl : nr = 0 := HNr.out.symm
    have xr_c0 := (xr.cell 0 : wk6.cell? ⟨bxr, 0, none⟩ = some (.slice Ar 0 cr))
    have xr_c1 := (xr.cell 1 : wk6.cell? ⟨bxr, 1, none⟩ = some (.int .i64 tr))
    have xr_lt := xr.lt
    go_wp2_with fail
    try clear xr_c0 xr_c1 xr_lt
    go_ret
    exact ⟨rfl, hB⟩
  | true =>
    obtain ⟨p0, hp0⟩ : ∃ p0, os = some p0 := Option.isSome_iff_exists.1 HKs.out
    subst hp0
    obtain ⟨hask, es, hp1, hB1⟩ := bestX_some HOs.out
    have hp2 : p0.2 = ts := HTs.out
    have hp3 : p0.1 = Hs := HHs.out
    rw [hp2] at hB1
    rw [hp3] at hp1
    have hen := hB1.ends hask
    rw [← hp1, HIDS.out, HE.out] at hen
    subst hen
    obtain rfl : kE = true := HKE.out.symm
    have hNd : N = nodesE f es := HN.out.symm
    have hnn1 : 1 ≤ nn := by have := HNN.out; rw [hNd, nodesE_len] at this; omega
    have HND := Lib.hid hNd
    have HASK := Lib.hid hask
    have HB1 := Lib.hid hB1
    have HP1 := Lib.hid hp1
    clear hp1 hB1 hp2 hp3 hNd hask
    have Fsr := Lib.hid (fun w' (hb : Below wk6.heap.size wk6 w') => sr.up hb)
    have Fss := Lib.hid (fun w' (hb : Below wk6.heap.size wk6 w') => ss.up hb)
    have Fsn := Lib.hid (fun w' (hb : Below wk6.heap.size wk6 w') => sn.up hb)
    have Fxr := Lib.hid (fun w' (hb : Below wk6.heap.size wk6 w') => xr.below hb xr.lt)
    have Fxs := Lib.hid (fun w' (hb : Below wk6.heap.size wk6 w') => xs.below hb xs.lt)
    have HBA := Lib.hid hB
    have HLIA : Hid (∀ w', Below wk6.heap.size wk6 w' → Sl w' w'.heap.size 1 Ai m ci (sh.map (Value.int .i64))) := fun w' hb => HLI.out _ (HBA.out.trans (hb.mono HBA.out.size))
    clear sr ss sn xr xs hB
    go_wp2_with fail
    go_loopw [22, 23] (fun fv iv wr => ∃ (fb : Bool) (i : Nat), fv = .bool fb ∧ iv = .int .i64 i ∧ 1 ≤ i ∧ i ≤ nn ∧ Hid (fb = true → ∀ p, 1 ≤ p → p < i → N.getD p 0 ∉ sh) ∧ Below wk6.heap.size wk6 wr) (fun _ iv _ => nn - (intOf iv).toNat)
    case atStart => exact ⟨true, 1, rfl, rfl, by omega, hnn1, (fun _ p h1 h2 => by omega), Below.refl _ _⟩
    case round =>
      obtain ⟨fb, i, rfl, rfl, hi1, hi2, HF, hB⟩ := hrel
      by_cases hin : i < nn
      · obtain ⟨x, hx⟩ : ∃ x, N.getD i 0 = x := ⟨_, rfl⟩
        have HX := Lib.hid hx
        have HBO := Lib.hid hB
        have HFO := Lib.hid HF
        clear hx hB HF
        obtain ⟨wO, hwO⟩ : ∃ x, x = wr := ⟨_, rfl⟩
        subst hwO
        go_wp2_with fail
        go_loopw [22, 24] (fun fv jv wr => ∃ (gb : Bool) (j : Nat), fv = .bool gb ∧ jv = .int .i64 j ∧ j ≤ m ∧ Hid (gb = true → fb = true ∧ ∀ p, p < j → x ≠ sh.getD p 0) ∧ Below wk6.heap.size wk6 wr) (fun _ jv _ => m - (intOf jv).toNat)
        case atStart => exact ⟨fb, 0, rfl, rfl, by omega, (fun h => ⟨h, fun p hp => by omega⟩), HBO.out⟩
        case round =>
          obtain ⟨gb, j, rfl, rfl, hj, HG, hB⟩ := hrel
          have hs5 := hB.size
          by_cases hjm : j < m
          · obtain ⟨y, hy⟩ : ∃ y, sh.getD j 0 = y := ⟨_, rfl⟩
            have HY := Lib.hid hy
            clear hy
            cases gb with
            | false =>
              go_wp2_with fail
              go_region
              replace hB := hB.drew
              generalize wr.drew = wq at *
              go_wp2_with fail
              go_roundw
              case rel => exact ⟨false, j + 1, rfl, by go_num, by omega, (fun h => by cases h), hB⟩
              case measure => simp [intOf]; omega
            | true =>
              obtain ⟨ad, hA, hab, c0⟩ := (Fsn.out _ hB).lst.atI HNN.out hin
              obtain ⟨ae, hA2, hab2, d0⟩ := (HLIA.out _ hB).lst.atI HI.out hjm
              subst hA hA2
              rw [HX.out] at c0
              rw [HY.out] at d0
              have hiI : (i : Int) < (nn : Int) := by omega
              have hjI : (j : Int) < (m : Int) := by omega
              go_wp2_with fail
              have q_c0 := fun d os => cell_regrown c0 d os
              have q_d0 := fun d os => cell_regrown d0 d os
              try simp only [List.append]
              first | refine wp_region_text_below ?_ | refine wp_region_quiet_below (by kernel_rfl) (by kernel_rfl) ?_
              repeat (go_big_quiet_step ((fail)))
              refine wpQuiet_nil ?_
              intro _ hqw
              obtain ⟨pq, hqw⟩ := hqw
              subst hqw
              clear q_c0 q_d0
              have hbel := below_regrown wr pq.d pq.os
              replace hB := hB.trans (hbel.mono hs5)
              clear hbel c0 d0 hab hab2
              generalize grow (redrawn wr pq.d) pq.os = wq at *
              go_wp2_with fail
              go_roundw
              case rel => exact ⟨(x != y), j + 1, rfl, by go_num, by omega, (fun h => ⟨(HG.out (by trivial)).1, fun p hp => by
                rcases Nat.lt_or_ge p j with h1 | h1
                · exact (HG.out (by trivial)).2 p h1
                · obtain rfl : p = j := by omega
                  rw [HY.out]; simpa using h⟩), hB⟩
              case measure => simp [intOf]; omega
          · obtain rfl : j = m := by omega
            go_wp2_with fail
            go_roundw
            case rel => exact ⟨gb, i + 1, rfl, by go_num, by omega, by omega, (fun h p hp1 hp2 => by
              rcases Nat.lt_or_ge p i with h1 | h1
              · exact HFO.out (HG.out h).1 p hp1 h1
              · obtain rfl : p = i := by omega
                intro hc
                obtain ⟨k, hk, he⟩ := mem_getDI hc
                exact (HG.out h).2 k (by rw [← HI.out]; exact hk) (by rw [he]; exact HX.out.symm)), hB⟩
            case measure => simp [intOf]; omega
      · obtain rfl : nn = i := by omega
        have hfree : fb = true → or = some (Hs, ts) := fun h => by
          have h1 := HF.out h
          rw [HP1.out]
          refine shuts_same HOr.out HASK.out HB1.out (nodes_all (f := f) fun p hp1 hp2 => ?_)
          have h2 := h1 p hp1 (by have := HNN.out; rw [HND.out] at this; omega)
          rw [HND.out] at h2
          exact h2
        have HFR := Lib.hid hfree
        have hBr := hB
        have sr := Fsr.out _ hBr
        have ss := Fss.out _ hBr
        have xr := Fxr.out _ hBr
        have xs := Fxs.out _ hBr
        replace hB := HBA.out.trans (hBr.mono HBA.out.size)
        clear hfree hBr HF
        obtain ⟨jds, hjds⟩ : ∃ z, Hr.map Hp.id = z := ⟨_, rfl⟩
        obtain ⟨G, hG⟩ : ∃ z, endsE l jds f = z := ⟨_, rfl⟩
        obtain ⟨kG, hkG⟩ : ∃ z, G.isSome = z := ⟨_, rfl⟩
        obtain ⟨M, hM⟩ : ∃ z, G.getD [] = z := ⟨_, rfl⟩
        have hwfr : ∀ i ∈ jds, (Lit.int .i64 i).wf = true := by rw [← hjds, ← HHr.out]; exact bestX_wf HOr.out
        have HJDS := Lib.hid hjds
        have HG := Lib.hid hG
        have HKG := Lib.hid hkG
        have HM := Lib.hid hM
        have HWFR := Lib.hid hwfr
        clear hjds hG hkG hM hwfr
        obtain ⟨wA, hwA⟩ : ∃ x, x = wr := ⟨_, rfl⟩
        subst hwA
        have xr_c0 := (xr.cell 0 : wA.cell? ⟨bxr, 0, none⟩ = some (.slice Ar nr cr))
        have xr_c1 := (xr.cell 1 : wA.cell? ⟨bxr, 1, none⟩ = some (.int .i64 tr))
        have xr_lt := xr.lt
        go_wp2_with fail
        try clear xr_c0 xr_c1 xr_lt
        refine (pids_v Ar nr cr Hr tr wA HNr.out (by omega) sr jds HJDS.out).mono ?_
        rintro e wk7 ⟨Ae, ce, rfl, hjl, se, hb⟩
        replace sr := sr.up hb
        replace ss := ss.up hb
        replace xr := xr.below hb xr.lt
        replace xs := xs.below hb xs.lt
        replace hB := hB.trans (hb.mono hB.size)
        clear hb
        have HJL := Lib.hid hjl
        clear hjl
        go_wp2_with fail
        refine (pEnds_v A n c l Ae nr ce jds f wk7 HD.out (by omega) HJL.out (by omega) (wf_getD HJL.out HWFR.out) (HL.out _ hB) se G HG.out kG HKG.out M HM.out).mono ?_
        rintro e wk8 ⟨Am, nM, cM, rfl, hnM, hnM2, sm, hb⟩
        replace sr := sr.up hb
        replace ss := ss.up hb
        replace se := se.up hb
        replace xr := xr.below hb xr.lt
        replace xs := xs.below hb xs.lt
        replace hB := hB.trans (hb.mono hB.size)
        clear hb
        have HNM := Lib.hid hnM
        clear hnM
        clear se
        have hmath : kr = true → kG = true ∧ (∀ p, 1 ≤ p → p < nM → M.getD p 0 ∉ sh) ∧ cmpR ts Hs tr Hr ≤ 0 := fun h => by
          subst h
          obtain ⟨p1, hp1⟩ : ∃ p1, or = some p1 := Option.isSome_iff_exists.1 HKr.out
          have h0 := HOr.out
          rw [hp1] at h0
          obtain ⟨ha, e2, g1, g2⟩ := bestX_some h0
          have g3 : p1.2 = tr := by have := HTr.out; rw [hp1] at this; exact this
          have g4 : p1.1 = Hr := by have := HHr.out; rw [hp1] at this; exact this
          rw [g3] at g2
          rw [g4] at g1
          have hen := g2.ends ha
          rw [← g1, HJDS.out, HG.out] at hen
          have hkg := HKG.out
          have hmm := HM.out
          rw [hen] at hkg hmm
          have hmm' : nodesE f e2 = M := hmm
          refine ⟨hkg.symm, fun p hp1 hp2 => ?_, ?_⟩
          · rw [← hmm']
            exact g2.rte.no _ (nodes_at hp1 (by rw [hmm', HNM.out]; exact hp2))
          · rw [HP1.out, g1]
            exact shuts_cmp HB1.out g2
        have HMA := Lib.hid hmath
        clear hmath
        have Fsr := Lib.hid (fun w' (hb : Below wk8.heap.size wk8 w') => sr.up hb)
        have Fss := Lib.hid (fun w' (hb : Below wk8.heap.size wk8 w') => ss.up hb)
        have Fsm := Lib.hid (fun w' (hb : Below wk8.heap.size wk8 w') => sm.up hb)
        have Fxr := Lib.hid (fun w' (hb : Below wk8.heap.size wk8 w') => xr.below hb xr.lt)
        have Fxs := Lib.hid (fun w' (hb : Below wk8.heap.size wk8 w') => xs.below hb xs.lt)
        have HBC := Lib.hid hB
        have HLIB : Hid (∀ w', Below wk8.heap.size wk8 w' → Sl w' w'.heap.size 1 Ai m ci (sh.map (Value.int .i64))) := fun w' hb => HLI.out _ (HBC.out.trans (hb.mono HBC.out.size))
        clear sr ss sm xr xs hB
        go_wp2_with fail
        go_loopw [27] (fun iv wr => ∃ (i : Nat), iv = .int .i64 i ∧ 1 ≤ i ∧ i ≤ nM + 1 ∧ Below wk8.heap.size wk8 wr) (fun iv _ => nM + 1 - (intOf iv).toNat)
        case atStart => exact ⟨1, rfl, by omega, by omega, Below.refl _ _⟩
        case round =>
          obtain ⟨i, rfl, hi1, hi2, hB⟩ := hrel
          have hBr := hB
          have sr := Fsr.out _ hBr
          have ss := Fss.out _ hBr
          have xr := Fxr.out _ hBr
          have xs := Fxs.out _ hBr
          replace hB := HBC.out.trans (hBr.mono HBC.out.size)
          cases kr with
          | false =>
            have hfb : fb = false := by
              cases fb with
              | false => rfl
              | true => have h1 := HFR.out rfl; have h2 := HKr.out; rw [h1] at h2; cases h2
            subst hfb
            clear xr xs sr ss hBr
            go_wp2_with fail
            go_ret
            exact ⟨rfl, hB⟩
          | true =>
            obtain ⟨hkg, hno, hle⟩ := HMA.out rfl
            subst hkg
            have HNO := Lib.hid hno
            clear hno
            by_cases hin : i < nM
            · clear xr xs sr ss hB
              obtain ⟨x, hx⟩ : ∃ x, M.getD i 0 = x := ⟨_, rfl⟩
              have HX := Lib.hid hx
              have HBO := Lib.hid hBr
              clear hx hBr
              obtain ⟨wO, hwO⟩ : ∃ x, x = wr := ⟨_, rfl⟩
              subst hwO
              go_wp2_with fail
              go_loopw [28] (fun jv wr => ∃ (j : Nat), jv = .int .i64 j ∧ j ≤ m ∧ Below wk8.heap.size wk8 wr) (fun jv _ => m - (intOf jv).toNat)
              case atStart => exact ⟨0, rfl, by omega, HBO.out⟩
              case round =>
                obtain ⟨j, rfl, hj, hB⟩ := hrel
                have hs5 := hB.size
                by_cases hjm : j < m
                · obtain ⟨y, hy⟩ : ∃ y, sh.getD j 0 = y := ⟨_, rfl⟩
                  have hxy : (x == y) = false := by
                    rw [beq_eq_false_iff_ne, ← HX.out, ← hy]
                    exact fun e => HNO.out i hi1 hin (by rw [e]; exact getD_memI (by rw [HI.out]; exact hjm))
                  have HY := Lib.hid hy
                  clear hy
                  obtain ⟨ad, hA, hab, c0⟩ := (Fsm.out _ hB).lst.atI HNM.out hin
                  obtain ⟨ae, hA2, hab2, d0⟩ := (HLIB.out _ hB).lst.atI HI.out hjm
                  subst hA hA2
                  rw [HX.out] at c0
                  rw [HY.out] at d0
                  have hiI : (i : Int) < (nM : Int) := by omega
                  have hjI : (j : Int) < (m : Int) := by omega
                  go_wp2_with fail
                  have q_c0 := fun d os => cell_regrown c0 d os
                  have q_d0 := fun d os => cell_regrown d0 d os
                  try simp only [List.append]
                  first | refine wp_region_text_below ?_ | refine wp_region_quiet_below (by kernel_rfl) (by kernel_rfl) ?_
                  repeat (go_big_quiet_step ((fail)))
                  refine wpQuiet_nil ?_
                  intro _ hqw
                  obtain ⟨pq, hqw⟩ := hqw
                  subst hqw
                  clear q_c0 q_d0
                  have hbel := below_regrown wr pq.d pq.os
                  replace hB := hB.trans (hbel.mono hs5)
                  clear hbel c0 d0 hab hab2
                  generalize grow (redrawn wr pq.d) pq.os = wq at *
                  go_wp2_with fail
                  go_roundw
                  case rel => exact ⟨j + 1, by go_num, by omega, hB⟩
                  case measure => simp [intOf]; omega
                · obtain rfl : j = m := by omega
                  go_wp2_with fail
                  go_roundw
                  case rel => exact ⟨i + 1, by go_num, by omega, by omega, hB⟩
                  case measure => simp [intOf]; omega
            · obtain ⟨z, hz⟩ : ∃ z, cmpR ts Hs tr Hr = z := ⟨_, rfl⟩
              rw [hz] at hle
              have HZ := Lib.hid hz
              have hiI : ¬ (i : Int) < (nM : Int) := by omega
              clear hz hBr
              cases fb with
            | false =>
                obtain ⟨wA2, hwA⟩ : ∃ x, x = wr := ⟨_, rfl⟩
                subst hwA
                have xr_c0 := (xr.cell 0 : wA2.cell? ⟨bxr, 0, none⟩ = some (.slice Ar nr cr))
                have xr_c1 := (xr.cell 1 : wA2.cell? ⟨bxr, 1, none⟩ = some (.int .i64 tr))
                have xr_lt := xr.lt
                have xs_c0 := (xs.cell 0 : wA2.cell? ⟨bxs, 0, none⟩ = some (.slice As ns cs))
                have xs_c1 := (xs.cell 1 : wA2.cell? ⟨bxs, 1, none⟩ = some (.int .i64 ts))
                have xs_lt := xs.lt
                go_wp2_with fail
                try clear xr_c0 xr_c1 xr_lt xs_c0 xs_c1 xs_lt
                refine (ocmp_any As Ar ns cs nr cr Hs Hr ts tr wA2 HNs.out HNr.out (by omega) (by omega) ss sr z HZ.out).mono ?_
                rintro e wk9 ⟨rfl, hb⟩
                replace sr := sr.up hb
                replace ss := ss.up hb
                replace xr := xr.below hb xr.lt
                replace xs := xs.below hb xs.lt
                replace hB := hB.trans (hb.mono hB.size)
                clear hb
                go_wp2_with fail
                go_ret
                exact ⟨rfl, hB⟩
            | true =>
                obtain ⟨wA2, hwA⟩ : ∃ x, x = wr := ⟨_, rfl⟩
                subst hwA
                have hor := HFR.out rfl
                have hh1 : Hs = Hr := by have := HHr.out; rw [hor] at this; exact this
                have hh2 : ts = tr := by have := HTr.out; rw [hor] at this; exact this
                have HH1 := Lib.hid hh1
                have HH2 := Lib.hid hh2
                clear hor hh1 hh2
                have xr_c0 := (xr.cell 0 : wA2.cell? ⟨bxr, 0, none⟩ = some (.slice Ar nr cr))
                have xr_c1 := (xr.cell 1 : wA2.cell? ⟨bxr, 1, none⟩ = some (.int .i64 tr))
                have xr_lt := xr.lt
                have xs_c0 := (xs.cell 0 : wA2.cell? ⟨bxs, 0, none⟩ = some (.slice As ns cs))
                have xs_c1 := (xs.cell 1 : wA2.cell? ⟨bxs, 1, none⟩ = some (.int .i64 ts))
                have xs_lt := xs.lt
                go_wp2_with fail
                try clear xr_c0 xr_c1 xr_lt xs_c0 xs_c1 xs_lt
                refine (psame_any Ar As nr cr ns cs Hr Hs tr ts wA2 HNr.out HNs.out (by omega) (by omega) sr ss true (by rw [HH1.out, HH2.out]; simp)).mono ?_
                rintro e wk9 ⟨rfl, hb⟩
                replace sr := sr.up hb
                replace ss := ss.up hb
                replace xr := xr.below hb xr.lt
                replace xs := xs.below hb xs.lt
                replace hB := hB.trans (hb.mono hB.size)
                clear hb
                have xr_c0 := (xr.cell 0 : wk9.cell? ⟨bxr, 0, none⟩ = some (.slice Ar nr cr))
                have xr_c1 := (xr.cell 1 : wk9.cell? ⟨bxr, 1, none⟩ = some (.int .i64 tr))
                have xr_lt := xr.lt
                have xs_c0 := (xs.cell 0 : wk9.cell? ⟨bxs, 0, none⟩ = some (.slice As ns cs))
                have xs_c1 := (xs.cell 1 : wk9.cell? ⟨bxs, 1, none⟩ = some (.int .i64 ts))
                have xs_lt := xs.lt
                go_wp2_with fail
                try clear xr_c0 xr_c1 xr_lt xs_c0 xs_c1 xs_lt
                refine (ocmp_any As Ar ns cs nr cr Hs Hr ts tr wk9 HNs.out HNr.out (by omega) (by omega) ss sr z HZ.out).mono ?_
                rintro e wk10 ⟨rfl, hb⟩
                replace sr := sr.up hb
                replace ss := ss.up hb
                replace xr := xr.below hb xr.lt
                replace xs := xs.below hb xs.lt
                replace hB := hB.trans (hb.mono hB.size)
                clear hb
                go_wp2_with fail
                go_ret
                exact ⟨rfl, hB⟩
theorem leastShuts_walk (A : Option Addr) (n k : Nat) (ns : List Int) (f q now size by_ : Int) (A' : Option Addr) (n' k' : Nat) (ns' : List Int) (hnl : ns.length = n * 8) (_ : ∀ m ∈ ns, (Lit.int .i64 m).wf = true) (_ : (Lit.int .i64 f).wf = true) (_ : (Lit.int .i64 q).wf = true) (_ : (Lit.int .i64 now).wf = true) (_ : (Lit.int .i64 size).wf = true) (_ : (Lit.int .i64 by_).wf = true) (hnl' : ns'.length = n' * 1) (hw' : ∀ m ∈ ns', (Lit.int .i64 m).wf = true) (w : World) (hl : Sl w w.heap.size 8 A n k (ns.map (Value.int .i64))) (hl' : Sl w w.heap.size 1 A' n' k' (ns'.map (Value.int .i64))) :
    Calls Try.prog 6 #[.slice A n k, .int .i64 f, .int .i64 q, .int .i64 now, .int .i64 size, .int .i64 by_, .slice A' n' k'] w fun e w' => e = .returned (.bool true) ∧ Below w.heap.size w w' := by
  obtain ⟨d, hd, hlf⟩ := rowsEd_of n ns hnl
  have hi : ns'.length = n' := by omega
  rw [hlf] at hl
  exact leastShuts_w A n k d f q now size by_ A' n' k' ns' w hd hi (wf_getD hi hw') hl hl'
theorem leastShuts_own : ownKnob Try.prog.godebug = none := by kernel_rfl
theorem leastShuts_laidOut : laidOutB Try.prog = true := by kernel_rfl

set_option maxHeartbeats 1000000 in
set_option maxRecDepth 100000 in
theorem leastShuts_lifted (os : Os) (started : os.Started) (H : Type) (enc : TypeId × Value → H) :
    ReturnsInHanded {} Try.checked os 6 .any (Rows.leastShutsSpec.pre6 enc Try.prog Try.f6 Rows.leastShutsRow.domain false) (Rows.leastShutsSpec.post enc Try.prog Try.f6 false true false false) := by
  refine returnsInHanded_of_change (C := Try.checked) leastShuts_own started (by kernel_rfl) Try.func6
    (ChangeSpec.witness6 (enc := enc) (C := Try.checked) false ⟨#[], #[.slice none 0 0, .int .i64 0, .int .i64 0, .int .i64 0, .int .i64 0, .int .i64 0, .slice none 0 0], []⟩ 8 (by kernel_rfl) (by kernel_rfl) (by kernel_rfl) (by kernel_rfl)) ?_
  intro W base args ds gs before hval0 hW hcnd _
  have hval : ∀ (j : Nat) t v, Try.f6.params[j]? = some t → args[j]? = some v → Value.okWide Try.prog W .any base t v := hval0
  have hW' := hW
  obtain ⟨p, q, hA0, hV, rfl, hfz, hnd⟩ := hW
  have hA : DataW.TrodAll enc Try.prog W 0 (fun _ => true) true Try.f6.params.toList args.toList ds p := hA0
  rw [Try.params6] at hA hval
  obtain ⟨v0, vs0, d0, ds0, p0, q0, hargs, rfl, rfl, h0, r0⟩ := trodAll_cons hA
  obtain ⟨v1, vs1, d1, ds1, p1, q1, rfl, rfl, rfl, h1, r1⟩ := trodAll_cons r0
  obtain ⟨v2, vs2, d2, ds2, p2, q2, rfl, rfl, rfl, h2, r2⟩ := trodAll_cons r1
  obtain ⟨v3, vs3, d3, ds3, p3, q3, rfl, rfl, rfl, h3, r3⟩ := trodAll_cons r2
  obtain ⟨v4, vs4, d4, ds4, p4, q4, rfl, rfl, rfl, h4, r4⟩ := trodAll_cons r3
  obtain ⟨v5, vs5, d5, ds5, p5, q5, rfl, rfl, rfl, h5, r5⟩ := trodAll_cons r4
  obtain ⟨v6, vs6, d6, ds6, p6, q6, rfl, rfl, rfl, h6, r6⟩ := trodAll_cons r5
  obtain ⟨rfl, rfl, rfl⟩ := trodAll_nil r6
  obtain rfl : args = #[v0, v1, v2, v3, v4, v5, v6] := by cases args; simp_all
  obtain ⟨rfl, rfl⟩ := trodVars_none hV
  obtain ⟨A0, n0, c0, ns0, rfl, hl0, nl0, w0⟩ := open_rowsS 4 (K := 8) Try.underlying22 (by kernel_rfl) (by kernel_rfl) (by omega) (hval 0 22 v0 rfl rfl) h0
  obtain ⟨a1, rfl, rfl, rfl, w1⟩ := open_int Try.underlying3 (hval 1 3 v1 rfl rfl) h1
  obtain ⟨a2, rfl, rfl, rfl, w2⟩ := open_int Try.underlying3 (hval 2 3 v2 rfl rfl) h2
  obtain ⟨a3, rfl, rfl, rfl, w3⟩ := open_int Try.underlying3 (hval 3 3 v3 rfl rfl) h3
  obtain ⟨a4, rfl, rfl, rfl, w4⟩ := open_int Try.underlying3 (hval 4 3 v4 rfl rfl) h4
  obtain ⟨a5, rfl, rfl, rfl, w5⟩ := open_int Try.underlying3 (hval 5 3 v5 rfl rfl) h5
  obtain ⟨A6, n6, c6, ns6, rfl, hl6, nl6, w6⟩ := open_rowsS 4 (K := 1) Try.underlying23 (by kernel_rfl) (by kernel_rfl) (by omega) (hval 6 23 v6 rfl rfl) h6
  clear hA0 hval0
  refine (leastShuts_walk A0 n0 c0 ns0 a1 a2 a3 a4 a5 A6 n6 c6 ns6 nl0 w0 w1 w2 w3 w4 w5 nl6 w6 W hl0 hl6).mono fun e W' ⟨he, bel⟩ => ?_
  subst he
  exact ⟨_, rfl, law_post leastShuts_laidOut (by kernel_rfl) rfl Try.underlying4 rfl rfl hW' bel⟩

theorem leastShuts_proved : Rows.LeastShutsSaid :=
  OpenClaim.holds_of_wide 6 Try.f6 rfl rfl rfl rfl rfl rfl rfl ⟨rfl, rfl, rfl, rfl, rfl⟩ rfl rfl rfl rfl rfl (by kernel_rfl) Try.func6 (by kernel_rfl)
    (of_decide_eq_true (by kernel_rfl)) (by unfold Func.isWrapper; first | (rw [if_pos (by decide +kernel)]; kernel_rfl) | (rw [if_neg (by decide +kernel)]; exact ⟨rfl, rfl⟩))
    (fun os started H enc _ => leastShuts_lifted os started H enc)
#print axioms leastShuts_proved
end Go.Proofs.Ytmibgfenobekjaa
