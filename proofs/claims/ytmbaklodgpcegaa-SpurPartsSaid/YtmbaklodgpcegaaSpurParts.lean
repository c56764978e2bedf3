/- The best way on is the one by its next ID, or the best of all others, and without a root, and bans, it is the best route: SpurParts returns true. No condition. -/
import Derived.Test.YtmbaklodgpcegaaRows
import Derived.Test.YtmbaklodgpcegaaSmall18
import Derived.Test.YtmbaklodgpcegaaGQ26
import Derived.BigQuiet
import Derived.Deep.QuietTactic
import Derived.Test.YtmbaklodgpcegaaGQ20
namespace Go.Proofs.Ytmbaklodgpcegaa
open Go.ChangeShapes Go.WideShapes Go.ChangeAt Go.RowKit Go.Sort Hp
set_option linter.unusedSimpArgs false
set_option linter.unusedVariables false
set_option maxHeartbeats 8000000 in
set_option maxRecDepth 100000 in
theorem spurParts_w (A : Option Addr) (n c : Nat) (l : List Ed) (Ar : Option Addr) (nr cr : Nat) (root : List Int) (Ab : Option Addr) (nb cb : Nat) (bans : List Int) (f q now size by_ : Int) (w : World) (hd : l.length = n) (hdr : root.length = nr) (hwr : ∀ k, k < nr → (Lit.int .i64 (root.getD k 0)).wf = true) (hdb : bans.length = nb) (hwb : ∀ k, k < nb → (Lit.int .i64 (bans.getD k 0)).wf = true) (hl : Sl w w.heap.size 8 A n c (flatEd l)) (hlr : Sl w w.heap.size 1 Ar nr cr (root.map (Value.int .i64))) (hlb : Sl w w.heap.size 1 Ab nb cb (bans.map (Value.int .i64))) :
    Calls Try.prog 3 #[.slice A n c, .slice Ar nr cr, .slice Ab nb cb, .int .i64 f, .int .i64 q, .int .i64 now, .int .i64 size, .int .i64 by_] w fun e w' => e = .returned (.bool true) ∧ Below w.heap.size w w' := by
  have HD := Lib.hid hd
  have HL := Lib.hid (fun w' (hb : Below w.heap.size w w') => hl.up hb)
  clear hd hl
  have HDR := Lib.hid hdr
  have HWR := Lib.hid hwr
  have HLR := Lib.hid (fun w' (hb : Below w.heap.size w w') => hlr.up hb)
  clear hlr hdr hwr
  have HDB := Lib.hid hdb
  have HWB := Lib.hid hwb
  have HLB := Lib.hid (fun w' (hb : Below w.heap.size w w') => hlb.up hb)
  clear hlb hdb hwb
  go_enter Try.func3, Try.ntmps3
  go_wp2_with fail
  refine (small18_any w).mono ?_
  rintro e w1 ⟨rfl, hB⟩
  by_cases hG : 20 < n ∨ 20 < nr ∨ 20 < nb
  · have hG' : (20 < n) ∨ (n ≤ 20 ∧ 20 < nr) ∨ (n ≤ 20 ∧ nr ≤ 20 ∧ 20 < nb) := by omega
    clear hG
    rcases hG' with g0 | ⟨g0, g1⟩ | ⟨g0, g1, g2⟩
    all_goals
      go_wp2_with fail
      go_ret
      exact ⟨rfl, hB⟩
  have hn1 : n ≤ 20 := by omega
  have hn2 : nr ≤ 20 := by omega
  have hn3 : nb ≤ 20 := by omega
  clear hG
  obtain ⟨oa, hoa⟩ : ∃ o, bestX l f q now size by_ [] = o := ⟨_, rfl⟩
  obtain ⟨ta, hta⟩ : ∃ t, bestV oa = t := ⟨_, rfl⟩
  obtain ⟨Ha, hHa⟩ : ∃ H, bestH oa = H := ⟨_, rfl⟩
  obtain ⟨ka, hka⟩ : ∃ b, oa.isSome = b := ⟨_, rfl⟩
  have HOa := Lib.hid hoa
  have HTa := Lib.hid hta
  have HHa := Lib.hid hHa
  have HKa := Lib.hid hka
  clear hoa hta hHa hka
  obtain ⟨og, hog⟩ : ∃ o, spurX l root bans f q now size by_ = o := ⟨_, rfl⟩
  obtain ⟨tg, htg⟩ : ∃ t, bestV og = t := ⟨_, rfl⟩
  obtain ⟨Hg, hHg⟩ : ∃ H, bestH og = H := ⟨_, rfl⟩
  obtain ⟨kg, hkg⟩ : ∃ b, og.isSome = b := ⟨_, rfl⟩
  have HOg := Lib.hid hog
  have HTg := Lib.hid htg
  have HHg := Lib.hid hHg
  have HKg := Lib.hid hkg
  clear hog htg hHg hkg
  go_wp2_with fail
  refine (lroute_v A n c l f q now size by_ none 0 0 [] w1 HD.out (by omega) rfl (by omega) (fun k hk => by omega) (HL.out _ hB) (Sl.nil0 _ _ _) oa HOa.out ta HTa.out Ha HHa.out ka HKa.out).mono ?_
  rintro e wk1 ⟨Aa, na, ca, rfl, hna, hma, sa, hb⟩
  replace hB := hB.trans (hb.mono hB.size)
  clear hb
  have HNa := Lib.hid hna
  clear hna
  go_wp2_with fail
  have hb : Below wk1.heap.size wk1 (wk1.alloc (.cells #[.slice Aa na ca, .int .i64 ta] 27)) := (Below.refl _ _).alloc (Nat.le_refl _) _
  have xa := Blok.new wk1 27 #[.slice Aa na ca, .int .i64 ta]
  obtain ⟨bxa, hbxa⟩ : ∃ q, wk1.heap.size = q := ⟨_, rfl⟩
  have hsxa : (wk1.alloc (.cells #[.slice Aa na ca, .int .i64 ta] 27)).heap.size = bxa + 1 := by rw [← hbxa]; simp
  replace sa := sa.up hb
  replace hB := hB.trans (hb.mono hB.size)
  clear hb
  generalize wk1.alloc (.cells #[.slice Aa na ca, .int .i64 ta] 27) = wk2 at *
  rw [hbxa] at xa
  try rw [hbxa]
  clear hbxa
  try clear hsxa
  refine (sproute_v A n c l none 0 0 [] none 0 0 [] f q now size by_ wk2 HD.out (by omega) rfl (by omega) (fun k hk => by omega) rfl (by omega) (fun k hk => by omega) (HL.out _ hB) (Sl.nil0 _ _ _) (Sl.nil0 _ _ _) oa (spur_bare.trans HOa.out) ta HTa.out Ha HHa.out ka HKa.out).mono ?_
  rintro e wk3 ⟨Ab2, nb2, cb2, rfl, hn2, hm2, sb2, hb⟩
  obtain rfl : na = nb2 := HNa.out.symm.trans hn2
  clear hn2 hm2
  replace sa := sa.up hb
  replace xa := xa.below hb xa.lt
  replace hB := hB.trans (hb.mono hB.size)
  clear hb
  have xa_c0 := (xa.cell 0 : wk3.cell? ⟨bxa, 0, none⟩ = some (.slice Aa na ca))
  have xa_c1 := (xa.cell 1 : wk3.cell? ⟨bxa, 1, none⟩ = some (.int .i64 ta))
  have xa_lt := xa.lt
  have gk : (ka != ka) = false := by simp
  have gk2 : (ka == ka) = true := by simp
  go_wp2_with fail
  try clear xa_c0 xa_c1 xa_lt gk gk2
  have hb : Below wk3.heap.size wk3 (wk3.alloc (.cells #[.slice Ab2 na cb2, .int .i64 ta] 27)) := (Below.refl _ _).alloc (Nat.le_refl _) _
  have xb := Blok.new wk3 27 #[.slice Ab2 na cb2, .int .i64 ta]
  obtain ⟨bxb, hbxb⟩ : ∃ q, wk3.heap.size = q := ⟨_, rfl⟩
  have hsxb : (wk3.alloc (.cells #[.slice Ab2 na cb2, .int .i64 ta] 27)).heap.size = bxb + 1 := by rw [← hbxb]; simp
  replace sa := sa.up hb
  replace sb2 := sb2.up hb
  replace xa := xa.below hb xa.lt
  replace hB := hB.trans (hb.mono hB.size)
  clear hb
  generalize wk3.alloc (.cells #[.slice Ab2 na cb2, .int .i64 ta] 27) = wk4 at *
  rw [hbxb] at xb
  try rw [hbxb]
  clear hbxb
  try clear hsxb
  refine (psame_any Aa Ab2 na ca na cb2 Ha Ha ta ta wk4 HNa.out HNa.out (by omega) (by omega) sa sb2 true (by simp)).mono ?_
  rintro e wk5 ⟨rfl, hb⟩
  replace sa := sa.up hb
  replace sb2 := sb2.up hb
  replace xa := xa.below hb xa.lt
  replace xb := xb.below hb xb.lt
  replace hB := hB.trans (hb.mono hB.size)
  clear hb
  clear xa
  clear xb
  clear sa
  clear sb2
  go_wp2_with fail
  refine (sproute_v A n c l Ar nr cr root Ab nb cb bans f q now size by_ wk5 HD.out (by omega) HDR.out (by omega) HWR.out HDB.out (by omega) HWB.out (HL.out _ hB) (HLR.out _ hB) (HLB.out _ hB) og HOg.out tg HTg.out Hg HHg.out kg HKg.out).mono ?_
  rintro e wk6 ⟨Ag, ng, cg, rfl, hng, hmg, sg, hb⟩
  replace hB := hB.trans (hb.mono hB.size)
  clear hb
  have HNg := Lib.hid hng
  clear hng
  cases kg with
  | false =>
    have hon : og = none := by have h := HKg.out; cases og with | none => rfl | some p => cases h
    subst hon
    obtain rfl : tg = 0 := HTg.out.symm
    obtain rfl : Hg = [] := HHg.out.symm
    obtain rfl : ng = 0 := HNg.out.symm
    go_wp2_with fail
    have hb : Below wk6.heap.size wk6 (wk6.alloc (.cells #[.slice Ag 0 cg, .int .i64 0] 27)) := (Below.refl _ _).alloc (Nat.le_refl _) _
    have xg := Blok.new wk6 27 #[.slice Ag 0 cg, .int .i64 0]
    obtain ⟨bxg, hbxg⟩ : ∃ q, wk6.heap.size = q := ⟨_, rfl⟩
    have hsxg : (wk6.alloc (.cells #[.slice Ag 0 cg, .int .i64 0] 27)).heap.size = bxg + 1 := by rw [← hbxg]; simp
    replace sg := sg.up hb
    replace hB := hB.trans (hb.mono hB.size)
    clear hb
    generalize wk6.alloc (.cells #[.slice Ag 0 cg, .int .i64 0] 27) = wk7 at *
    rw [hbxg] at xg
    try rw [hbxg]
    clear hbxg
    try clear hsxg
    refine (psame_any Ag none 0 cg 0 0 [] [] 0 0 wk7 rfl rfl (by omega) (by omega) sg (Sl.nil0 _ _ _) true (by decide)).mono ?_
    rintro e wk8 ⟨rfl, hb⟩
    replace sg := sg.up hb
    replace xg := xg.below hb xg.lt
    replace hB := hB.trans (hb.mono hB.size)
    clear hb
    go_wp2_with fail
    go_ret
    exact ⟨rfl, hB⟩
  | true =>
    obtain ⟨p, hp⟩ : ∃ p, og = some p := Option.isSome_iff_exists.1 HKg.out
    have hp1 : p.1 = Hg := by have h := HHg.out; rw [hp] at h; exact h
    have hp2 : p.2 = tg := by have h := HTg.out; rw [hp] at h; exact h
    obtain ⟨hrt, hby, hgo⟩ := spurX_route (HOg.out.trans hp)
    obtain ⟨ids, hids⟩ : ∃ z, Hg.map Hp.id = z := ⟨_, rfl⟩
    rw [hp1, hids] at hrt hgo
    rw [hp2] at hby
    obtain ⟨r, hir, hrb⟩ := goesB_spec.1 hgo
    have hwi : ∀ m ∈ ids, (Lit.int .i64 m).wf = true := by rw [← hids, ← HHg.out]; exact spurX_wf HOg.out
    have HP := Lib.hid hp
    have HP1 := Lib.hid hp1
    have HP2 := Lib.hid hp2
    have HIDS := Lib.hid hids
    have HRT := Lib.hid hrt
    have HIR := Lib.hid hir
    have HRB := Lib.hid hrb
    have HWI := Lib.hid hwi
    clear hp hp1 hp2 hids hrt hir hrb hwi
    clear hgo
    go_wp2_with fail
    have hb : Below wk6.heap.size wk6 (wk6.alloc (.cells #[.slice Ag ng cg, .int .i64 tg] 27)) := (Below.refl _ _).alloc (Nat.le_refl _) _
    have xg := Blok.new wk6 27 #[.slice Ag ng cg, .int .i64 tg]
    obtain ⟨bxg, hbxg⟩ : ∃ q, wk6.heap.size = q := ⟨_, rfl⟩
    have hsxg : (wk6.alloc (.cells #[.slice Ag ng cg, .int .i64 tg] 27)).heap.size = bxg + 1 := by rw [← hbxg]; simp
    replace sg := sg.up hb
    replace hB := hB.trans (hb.mono hB.size)
    clear hb
    generalize wk6.alloc (.cells #[.slice Ag ng cg, .int .i64 tg] 27) = wk7 at *
    rw [hbxg] at xg
    try rw [hbxg]
    clear hbxg
    try clear hsxg
    refine (pids_v Ag ng cg Hg tg wk7 HNg.out (by omega) sg ids HIDS.out).mono ?_
    rintro e wk8 ⟨Ai, ci, rfl, hil, si, hb⟩
    replace sg := sg.up hb
    replace xg := xg.below hb xg.lt
    replace hB := hB.trans (hb.mono hB.size)
    clear hb
    have HIL := Lib.hid hil
    clear hil
    have hrn : nr ≤ ng := by have h1 := HIL.out; rw [HIR.out, List.length_append, HDR.out] at h1; omega
    have hcap : nr ≤ ci := by have := si.cap; omega
    have hrun : ∀ w0, (Instr.slice 23 (.slice Ai ng ci) none (some (.int .i64 (nr : Int))) none).run Try.prog w0 = .ok (.slice Ai nr ci) w0 := fun w0 => run_hiI w0 Ai ng ci nr hcap
    have hru := si.upto hrn
    rw [Nat.mul_one, ← List.map_take] at hru
    have htk : ids.take nr = root := by rw [HIR.out, ← HDR.out, List.take_left]
    rw [htk] at hru
    have g1 : ¬ ng < nr := by omega
    have g2 : decide ((ng : Int) < (nr : Int)) = false := decide_eq_false (by omega)
    go_wp2_with fail
    try clear hrun
    clear g1 g2 htk
    refine (ints_yes Ai Ar nr ci nr cr root root wk8 HDR.out HDR.out (by omega) (by omega) hru (HLR.out _ hB) rfl).mono ?_
    rintro e wk9 ⟨rfl, hb⟩
    replace sg := sg.up hb
    replace si := si.up hb
    replace hru := hru.up hb
    replace xg := xg.below hb xg.lt
    replace hB := hB.trans (hb.mono hB.size)
    clear hb
    clear hru
    go_wp2_with fail
    refine (proute_v A n c l Ai ng ci ids f q now size wk9 HD.out (by omega) HIL.out (by omega) (wf_getD HIL.out HWI.out) (HL.out _ hB) si _ HRT.out Hg HP1.out tg HP2.out true rfl).mono ?_
    rintro e wk10 ⟨As, ns, cs, rfl, hs1, hs2, ss, hb⟩
    obtain rfl : ng = ns := HNg.out.symm.trans hs1
    clear hs1 hs2
    replace sg := sg.up hb
    replace si := si.up hb
    replace xg := xg.below hb xg.lt
    replace hB := hB.trans (hb.mono hB.size)
    clear hb
    have xg_c0 := (xg.cell 0 : wk10.cell? ⟨bxg, 0, none⟩ = some (.slice Ag ng cg))
    have xg_c1 := (xg.cell 1 : wk10.cell? ⟨bxg, 1, none⟩ = some (.int .i64 tg))
    have xg_lt := xg.lt
    go_wp2_with fail
    try clear xg_c0 xg_c1 xg_lt
    have hb : Below wk10.heap.size wk10 (wk10.alloc (.cells #[.slice As ng cs, .int .i64 tg] 27)) := (Below.refl _ _).alloc (Nat.le_refl _) _
    have xs := Blok.new wk10 27 #[.slice As ng cs, .int .i64 tg]
    obtain ⟨bxs, hbxs⟩ : ∃ q, wk10.heap.size = q := ⟨_, rfl⟩
    have hsxs : (wk10.alloc (.cells #[.slice As ng cs, .int .i64 tg] 27)).heap.size = bxs + 1 := by rw [← hbxs]; simp
    replace sg := sg.up hb
    replace si := si.up hb
    replace ss := ss.up hb
    replace xg := xg.below hb xg.lt
    replace hB := hB.trans (hb.mono hB.size)
    clear hb
    generalize wk10.alloc (.cells #[.slice As ng cs, .int .i64 tg] 27) = wk11 at *
    rw [hbxs] at xs
    try rw [hbxs]
    clear hbxs
    try clear hsxs
    refine (psame_any Ag As ng cg ng cs Hg Hg tg tg wk11 HNg.out HNg.out (by omega) (by omega) sg ss true (by simp)).mono ?_
    rintro e wk12 ⟨rfl, hb⟩
    replace sg := sg.up hb
    replace si := si.up hb
    replace ss := ss.up hb
    replace xg := xg.below hb xg.lt
    replace xs := xs.below hb xs.lt
    replace hB := hB.trans (hb.mono hB.size)
    clear hb
    clear xs
    clear ss
    have g1 : decide (by_ < tg) = false := decide_eq_false (by omega)
    by_cases hE : ng = nr
    · subst hE
      clear hcap
      have xg_c0 := (xg.cell 0 : wk12.cell? ⟨bxg, 0, none⟩ = some (.slice Ag ng cg))
      have xg_c1 := (xg.cell 1 : wk12.cell? ⟨bxg, 1, none⟩ = some (.int .i64 tg))
      have xg_lt := xg.lt
      go_wp2_with fail
      try clear xg_c0 xg_c1 xg_lt
      go_ret
      exact ⟨rfl, hB⟩
    · have hlt : nr < ng := by omega
      have gE : ((ng : Int) == (nr : Int)) = false := by simp; omega
      have hltI : (nr : Int) < (ng : Int) := by omega
      obtain ⟨k, r2, hr2⟩ : ∃ k r2, r = k :: r2 := by
        cases hrr : r with
        | nil => have h1 := HIL.out; rw [HIR.out, hrr, List.length_append, HDR.out] at h1; simp at h1; omega
        | cons k r2 => exact ⟨k, r2, rfl⟩
      have hk : ids.getD nr 0 = k := by rw [HIR.out, hr2, ← HDR.out]; simp [List.getD_eq_getElem?_getD]
      have hkb : k ∉ bans := HRB.out k (by rw [hr2]; simp)
      have hwk : (Lit.int .i64 k).wf = true := HWI.out k (by rw [HIR.out, hr2]; simp)
      have hik : p.1.map Hp.id = root ++ k :: r2 := by rw [HP1.out, HIDS.out, HIR.out, hr2]
      have hnx := parts_next (HOg.out.trans HP.out) hik
      obtain ⟨ad, hA, hab, c0⟩ := si.lst.atI HIL.out hlt
      rw [hk] at c0
      have HKB := Lib.hid hkb
      have HWK := Lib.hid hwk
      have HIK := Lib.hid hik
      have HNX := Lib.hid hnx
      subst hA
      clear hE hk hkb hwk hik hnx hr2
      have xg_c0 := (xg.cell 0 : wk12.cell? ⟨bxg, 0, none⟩ = some (.slice Ag ng cg))
      have xg_c1 := (xg.cell 1 : wk12.cell? ⟨bxg, 1, none⟩ = some (.int .i64 tg))
      have xg_lt := xg.lt
      go_wp2_with fail
      try clear xg_c0 xg_c1 xg_lt c0 hab gE g1
      clear si
      have hlb_ := HLB.out _ hB
      have Fsg := Lib.hid (fun w' (hb : Below wk12.heap.size wk12 w') => sg.up hb)
      have Fhlb_ := Lib.hid (fun w' (hb : Below wk12.heap.size wk12 w') => hlb_.up hb)
      have Fxg := Lib.hid (fun w' (hb : Below wk12.heap.size wk12 w') => xg.below hb xg.lt)
      have HBA := Lib.hid hB
      clear sg hlb_ xg hB
      go_loopw [28] (fun iv wr => ∃ (i : Nat), iv = .int .i64 i ∧ i ≤ nb ∧ Below wk12.heap.size wk12 wr) (fun iv _ => nb - (intOf iv).toNat)
      case atStart => exact ⟨0, rfl, by omega, Below.refl _ _⟩
      case round =>
        obtain ⟨i, rfl, hi, hBr⟩ := hrel
        by_cases him : i < nb
        · obtain ⟨y, hy⟩ : ∃ y, bans.getD i 0 = y := ⟨_, rfl⟩
          have hyk : (y == k) = false := by
            rw [beq_eq_false_iff_ne, ← hy]
            intro e
            refine HKB.out ?_
            rw [← e, List.getD_eq_getElem?_getD, List.getElem?_eq_getElem (by rw [HDB.out]; exact him)]
            exact List.getElem_mem _
          obtain ⟨ae, hA2, hab2, d0⟩ := (Fhlb_.out _ hBr).lst.atI HDB.out him
          subst hA2
          rw [hy] at d0
          clear hy
          go_wp2_with fail
          go_roundw
          case rel => exact ⟨i + 1, by go_num, by omega, hBr⟩
          case measure => simp [intOf]; omega
        · obtain rfl : nb = i := by omega
          have sg := Fsg.out _ hBr
          have xg := Fxg.out _ hBr
          have hlb_ := Fhlb_.out _ hBr
          have hB := HBA.out.trans (hBr.mono HBA.out.size)
          have hlr_ := HLR.out _ hB
          clear hBr
          obtain ⟨wA0, hwA⟩ : ∃ x, x = wr := ⟨_, rfl⟩
          subst hwA
          have hnbI : ¬ (nb : Int) < (nb : Int) := by omega
          have hE_ : (wA0.alloc (.cells #[] 3)).ownsRow wA0.heap.size 3 1 (.slice (some ⟨wA0.heap.size, 0, none⟩) 0 0) 0 [] := own_lit wA0 wA0.heap.size 3 1 0 #[] (Nat.le_refl _) rfl (by simp)
          have hbE : Below wA0.heap.size wA0 (wA0.alloc (.cells #[] 3)) := (Below.refl _ _).alloc (Nat.le_refl _) _
          have hl1_ := (hlr_).up hbE
          obtain ⟨i0, hi0, hz0, hz1, hz2⟩ := info_parts infoI17
          go_wp2_with (first
            | (at_builtin; refine wpList_append_lst _ rfl (.tmp 162) (.tmp 163) 23 rfl wA0.heap.size 3 i0 _ 1 8 Try.underlying23 hi0 hz0 hz1 hz2 rfl (by decide) (.slice (some ⟨wA0.heap.size, 0, none⟩) 0 0) 0 [] rfl hE_ _ Ar nr cr (root.map (Value.int .i64)) rfl hl1_.lst (ints_one17 _) (by unfold maxLen; omega) (by omega) (by simp) ?_; intro vA wA hownA hgA hlA; clear hlA; have hbA : Below wA0.heap.size wA0 wA := hbE.grown hgA hbE.size (fun g hg => (hE_.lt g hg).1); clear hgA; have hsA := hbA.size)
            | (at_builtin; refine wpList_append_own _ rfl (.tmp 164) (.tmp 166) 23 rfl wA0.heap.size 3 i0 _ 1 8 Try.underlying23 hi0 hz0 hz1 hz2 rfl (by decide) _ _ _ rfl (hownA.alloc _) ⟨wA.heap.size, 0, none⟩ 1 1 [.int .i64 k] rfl rfl (by exact lit_cells wA #[.int .i64 k] _ _ rfl) (by simp [Value.oneCell']) (by unfold maxLen; omega) (by omega) (by simp; omega) ?_; intro vB wB hownB hgB hnB; clear hnB; have hb : Below wA0.heap.size wA0 wB := (hbA.alloc hsA _).grown hgB (by simp; omega) (fun g hg => (hownA.lt g hg).1); clear hgB))
          clear hE_ hbE hl1_ hi0 hz0 hz1 hz2 hownA hbA hsA
          simp only [Nat.zero_add] at hownB
          obtain ⟨Au, cu, hvu⟩ := slice_of_own hownB
          subst hvu
          have su : Sl wB wB.heap.size 1 Au (nr + 1) cu ((root ++ [k]).map (Value.int .i64)) := by
            have h := Sl.of_own hownB
            simpa using h
          clear hownB
          replace sg := sg.up hb
          replace hlb_ := hlb_.up hb
          replace hlr_ := hlr_.up hb
          replace xg := xg.below hb xg.lt
          replace hB := hB.trans (hb.mono hB.size)
          clear hb
          generalize wB = wk13 at *
          have hdu : (root ++ [k]).length = nr + 1 := by simp [HDR.out]
          have hwu : ∀ j, j < nr + 1 → (Lit.int .i64 ((root ++ [k]).getD j 0)).wf = true := wf_getD hdu (fun m hm => by
            rcases List.mem_append.1 hm with h1 | h1
            · obtain ⟨j, hj, rfl⟩ := List.getElem_of_mem h1
              have := HWR.out j (by rw [← HDR.out]; exact hj)
              rwa [List.getD_eq_getElem?_getD, List.getElem?_eq_getElem hj] at this
            · have : m = k := by simpa using h1
              subst this; exact HWK.out)
          have HDU := Lib.hid hdu
          have HWU := Lib.hid hwu
          clear hdu hwu
          refine (sproute_v A n c l Au (nr + 1) cu (root ++ [k]) none 0 0 [] f q now size by_ wk13 HD.out (by omega) HDU.out (by omega) HWU.out rfl (by omega) (fun k hk => by omega) (HL.out _ hB) su (Sl.nil0 _ _ _) (some p) HNX.out tg HP2.out Hg HP1.out true rfl).mono ?_
          rintro e wk14 ⟨Ax, nx, cx, rfl, hx1, hx2, sx, hb⟩
          obtain rfl : ng = nx := HNg.out.symm.trans hx1
          clear hx1 hx2
          replace sg := sg.up hb
          replace hlb_ := hlb_.up hb
          replace hlr_ := hlr_.up hb
          replace su := su.up hb
          replace xg := xg.below hb xg.lt
          replace hB := hB.trans (hb.mono hB.size)
          clear hb
          clear su
          obtain ⟨oy, hoy⟩ : ∃ o, spurX l root (bans ++ [k]) f q now size by_ = o := ⟨_, rfl⟩
          obtain ⟨ty, hty⟩ : ∃ t, bestV oy = t := ⟨_, rfl⟩
          obtain ⟨Hy, hHy⟩ : ∃ H, bestH oy = H := ⟨_, rfl⟩
          obtain ⟨ky, hky⟩ : ∃ b, oy.isSome = b := ⟨_, rfl⟩
          have HOy := Lib.hid hoy
          have HTy := Lib.hid hty
          have HHy := Lib.hid hHy
          have HKy := Lib.hid hky
          clear hoy hty hHy hky
          go_upto_region 26 with fail
          have hb : Below wk14.heap.size wk14 (wk14.alloc (.cells #[.slice Ax ng cx, .int .i64 tg] 27)) := (Below.refl _ _).alloc (Nat.le_refl _) _
          have xx := Blok.new wk14 27 #[.slice Ax ng cx, .int .i64 tg]
          obtain ⟨bxx, hbxx⟩ : ∃ q, wk14.heap.size = q := ⟨_, rfl⟩
          have hsxx : (wk14.alloc (.cells #[.slice Ax ng cx, .int .i64 tg] 27)).heap.size = bxx + 1 := by rw [← hbxx]; simp
          replace sg := sg.up hb
          replace hlb_ := hlb_.up hb
          replace hlr_ := hlr_.up hb
          replace sx := sx.up hb
          replace xg := xg.below hb xg.lt
          replace hB := hB.trans (hb.mono hB.size)
          clear hb
          generalize wk14.alloc (.cells #[.slice Ax ng cx, .int .i64 tg] 27) = wk15 at *
          rw [hbxx] at xx
          try rw [hbxx]
          clear hbxx
          try clear hsxx
          have hE_ : (wk15.alloc (.cells #[] 3)).ownsRow wk15.heap.size 3 1 (.slice (some ⟨wk15.heap.size, 0, none⟩) 0 0) 0 [] := own_lit wk15 wk15.heap.size 3 1 0 #[] (Nat.le_refl _) rfl (by simp)
          have hbE : Below wk15.heap.size wk15 (wk15.alloc (.cells #[] 3)) := (Below.refl _ _).alloc (Nat.le_refl _) _
          have hl1_ := (hlb_).up hbE
          obtain ⟨i0, hi0, hz0, hz1, hz2⟩ := info_parts infoI17
          go_wp2_with (first
            | (at_builtin; refine wpList_append_lst _ rfl (.tmp 179) (.tmp 180) 23 rfl wk15.heap.size 3 i0 _ 1 8 Try.underlying23 hi0 hz0 hz1 hz2 rfl (by decide) (.slice (some ⟨wk15.heap.size, 0, none⟩) 0 0) 0 [] rfl hE_ _ Ab nb cb (bans.map (Value.int .i64)) rfl hl1_.lst (ints_one17 _) (by unfold maxLen; omega) (by omega) (by simp) ?_; intro vA wA hownA hgA hlA; clear hlA; have hbA : Below wk15.heap.size wk15 wA := hbE.grown hgA hbE.size (fun g hg => (hE_.lt g hg).1); clear hgA; have hsA := hbA.size)
            | (at_builtin; refine wpList_append_own _ rfl (.tmp 181) (.tmp 183) 23 rfl wk15.heap.size 3 i0 _ 1 8 Try.underlying23 hi0 hz0 hz1 hz2 rfl (by decide) _ _ _ rfl (hownA.alloc _) ⟨wA.heap.size, 0, none⟩ 1 1 [.int .i64 k] rfl rfl (by exact lit_cells wA #[.int .i64 k] _ _ rfl) (by simp [Value.oneCell']) (by unfold maxLen; omega) (by omega) (by simp; omega) ?_; intro vB wB hownB hgB hnB; clear hnB; have hb : Below wk15.heap.size wk15 wB := (hbA.alloc hsA _).grown hgB (by simp; omega) (fun g hg => (hownA.lt g hg).1); clear hgB))
          clear hE_ hbE hl1_ hi0 hz0 hz1 hz2 hownA hbA hsA
          simp only [Nat.zero_add] at hownB
          obtain ⟨Av, cv, hvv⟩ := slice_of_own hownB
          subst hvv
          have sv : Sl wB wB.heap.size 1 Av (nb + 1) cv ((bans ++ [k]).map (Value.int .i64)) := by
            have h := Sl.of_own hownB
            simpa using h
          clear hownB
          replace sg := sg.up hb
          replace hlb_ := hlb_.up hb
          replace hlr_ := hlr_.up hb
          replace sx := sx.up hb
          replace xg := xg.below hb xg.lt
          replace xx := xx.below hb xx.lt
          replace hB := hB.trans (hb.mono hB.size)
          clear hb
          generalize wB = wk16 at *
          have hdv : (bans ++ [k]).length = nb + 1 := by simp [HDB.out]
          have hwv : ∀ j, j < nb + 1 → (Lit.int .i64 ((bans ++ [k]).getD j 0)).wf = true := wf_getD hdv (fun m hm => by
            rcases List.mem_append.1 hm with h1 | h1
            · obtain ⟨j, hj, rfl⟩ := List.getElem_of_mem h1
              have := HWB.out j (by rw [← HDB.out]; exact hj)
              rwa [List.getD_eq_getElem?_getD, List.getElem?_eq_getElem hj] at this
            · have : m = k := by simpa using h1
              subst this; exact HWK.out)
          have HDV := Lib.hid hdv
          have HWV := Lib.hid hwv
          clear hdv hwv
          refine (sproute_v A n c l Ar nr cr root Av (nb + 1) cv (bans ++ [k]) f q now size by_ wk16 HD.out (by omega) HDR.out (by omega) HWR.out HDV.out (by omega) HWV.out (HL.out _ hB) hlr_ sv oy HOy.out ty HTy.out Hy HHy.out ky HKy.out).mono ?_
          rintro e wk17 ⟨Ay, ny, cy, rfl, hny, hmy, sy, hb⟩
          replace sg := sg.up hb
          replace hlb_ := hlb_.up hb
          replace hlr_ := hlr_.up hb
          replace sx := sx.up hb
          replace sv := sv.up hb
          replace xg := xg.below hb xg.lt
          replace xx := xx.below hb xx.lt
          replace hB := hB.trans (hb.mono hB.size)
          clear hb
          have HNY := Lib.hid hny
          clear hny
          clear sv
          have xg_c0 := (xg.cell 0 : wk17.cell? ⟨bxg, 0, none⟩ = some (.slice Ag ng cg))
          have xg_c1 := (xg.cell 1 : wk17.cell? ⟨bxg, 1, none⟩ = some (.int .i64 tg))
          have xg_lt := xg.lt
          have xx_c0 := (xx.cell 0 : wk17.cell? ⟨bxx, 0, none⟩ = some (.slice Ax ng cx))
          have xx_c1 := (xx.cell 1 : wk17.cell? ⟨bxx, 1, none⟩ = some (.int .i64 tg))
          have xx_lt := xx.lt
          go_wp2_with fail
          try clear xg_c0 xg_c1 xg_lt xx_c0 xx_c1 xx_lt
          have hb : Below wk17.heap.size wk17 (wk17.alloc (.cells #[.slice Ay ny cy, .int .i64 ty] 27)) := (Below.refl _ _).alloc (Nat.le_refl _) _
          have xy := Blok.new wk17 27 #[.slice Ay ny cy, .int .i64 ty]
          obtain ⟨bxy, hbxy⟩ : ∃ q, wk17.heap.size = q := ⟨_, rfl⟩
          have hsxy : (wk17.alloc (.cells #[.slice Ay ny cy, .int .i64 ty] 27)).heap.size = bxy + 1 := by rw [← hbxy]; simp
          replace sg := sg.up hb
          replace hlb_ := hlb_.up hb
          replace hlr_ := hlr_.up hb
          replace sx := sx.up hb
          replace sy := sy.up hb
          replace xg := xg.below hb xg.lt
          replace xx := xx.below hb xx.lt
          replace hB := hB.trans (hb.mono hB.size)
          clear hb
          generalize wk17.alloc (.cells #[.slice Ay ny cy, .int .i64 ty] 27) = wk18 at *
          rw [hbxy] at xy
          try rw [hbxy]
          clear hbxy
          try clear hsxy
          refine (psame_any Ax Ag ng cx ng cg Hg Hg tg tg wk18 HNg.out HNg.out (by omega) (by omega) sx sg true (by simp)).mono ?_
          rintro e wk19 ⟨rfl, hb⟩
          replace sg := sg.up hb
          replace hlb_ := hlb_.up hb
          replace hlr_ := hlr_.up hb
          replace sx := sx.up hb
          replace sy := sy.up hb
          replace xg := xg.below hb xg.lt
          replace xx := xx.below hb xx.lt
          replace xy := xy.below hb xy.lt
          replace hB := hB.trans (hb.mono hB.size)
          clear hb
          cases ky with
          | false =>
            go_wp2_with fail
            go_ret
            exact ⟨rfl, hB⟩
          | true =>
            obtain ⟨p', hp'⟩ : ∃ p', oy = some p' := Option.isSome_iff_exists.1 HKy.out
            have h1 : p'.1 = Hy := by have h := HHy.out; rw [hp'] at h; exact h
            have h2 : p'.2 = ty := by have h := HTy.out; rw [hp'] at h; exact h
            have hcm := parts_other (HOg.out.trans HP.out) HIK.out (HOy.out.trans hp')
            rw [HP1.out, HP2.out, h1, h2] at hcm
            obtain ⟨z, hz⟩ : ∃ z, cmpR tg Hg ty Hy = z := ⟨_, rfl⟩
            rw [hz] at hcm
            have HZ := Lib.hid hz
            clear hp' h1 h2 hz
            have xg_c0 := (xg.cell 0 : wk19.cell? ⟨bxg, 0, none⟩ = some (.slice Ag ng cg))
            have xg_c1 := (xg.cell 1 : wk19.cell? ⟨bxg, 1, none⟩ = some (.int .i64 tg))
            have xg_lt := xg.lt
            have xy_c0 := (xy.cell 0 : wk19.cell? ⟨bxy, 0, none⟩ = some (.slice Ay ny cy))
            have xy_c1 := (xy.cell 1 : wk19.cell? ⟨bxy, 1, none⟩ = some (.int .i64 ty))
            have xy_lt := xy.lt
            go_wp2_with fail
            try clear xg_c0 xg_c1 xg_lt xy_c0 xy_c1 xy_lt
            refine (ocmp_any Ag Ay ng cg ny cy Hg Hy tg ty wk19 HNg.out HNY.out (by omega) (by omega) sg sy z HZ.out).mono ?_
            rintro e wk20 ⟨rfl, hb⟩
            replace sg := sg.up hb
            replace hlb_ := hlb_.up hb
            replace hlr_ := hlr_.up hb
            replace sx := sx.up hb
            replace sy := sy.up hb
            replace xg := xg.below hb xg.lt
            replace xx := xx.below hb xx.lt
            replace xy := xy.below hb xy.lt
            replace hB := hB.trans (hb.mono hB.size)
            clear hb
            go_wp2_with fail
            go_ret
            exact ⟨rfl, hB⟩
theorem spurParts_walk (A : Option Addr) (n k : Nat) (ns : List Int) (Ar : Option Addr) (nr kr : Nat) (nsr : List Int) (Ab : Option Addr) (nb kb : Nat) (nsb : List Int) (f : Int) (q : Int) (now : Int) (size : Int) (by_ : Int) (hnl : ns.length = n * 8) (_ : ∀ m ∈ ns, (Lit.int .i64 m).wf = true) (hnr : nsr.length = nr * 1) (hwr : ∀ m ∈ nsr, (Lit.int .i64 m).wf = true) (hnb : nsb.length = nb * 1) (hwb : ∀ m ∈ nsb, (Lit.int .i64 m).wf = true) (_ : (Lit.int .i64 f).wf = true) (_ : (Lit.int .i64 q).wf = true) (_ : (Lit.int .i64 now).wf = true) (_ : (Lit.int .i64 size).wf = true) (_ : (Lit.int .i64 by_).wf = true) (w : World) (hl : Sl w w.heap.size 8 A n k (ns.map (Value.int .i64))) (hlr : Sl w w.heap.size 1 Ar nr kr (nsr.map (Value.int .i64))) (hlb : Sl w w.heap.size 1 Ab nb kb (nsb.map (Value.int .i64))) :
    Calls Try.prog 3 #[.slice A n k, .slice Ar nr kr, .slice Ab nb kb, .int .i64 f, .int .i64 q, .int .i64 now, .int .i64 size, .int .i64 by_] w fun e w' => e = .returned (.bool true) ∧ Below w.heap.size w w' := by
  obtain ⟨d, hd, hlf⟩ := rowsEd_of n ns hnl
  have hir : nsr.length = nr := by omega
  have hib : nsb.length = nb := by omega
  rw [hlf] at hl
  exact spurParts_w A n k d Ar nr kr nsr Ab nb kb nsb f q now size by_ w hd hir (wf_getD hir hwr) hib (wf_getD hib hwb) hl hlr hlb
theorem spurParts_own : ownKnob Try.prog.godebug = none := by kernel_rfl
theorem spurParts_laidOut : laidOutB Try.prog = true := by kernel_rfl

set_option maxHeartbeats 1000000 in
set_option maxRecDepth 100000 in
theorem spurParts_lifted (os : Os) (started : os.Started) (H : Type) (enc : TypeId × Value → H) :
    ReturnsInHanded {} Try.checked os 3 .any (Rows.spurPartsSpec.pre6 enc Try.prog Try.f3 Rows.spurPartsRow.domain false) (Rows.spurPartsSpec.post enc Try.prog Try.f3 false true false false) := by
  refine returnsInHanded_of_change (C := Try.checked) spurParts_own started (by kernel_rfl) Try.func3
    (ChangeSpec.witness6 (enc := enc) (C := Try.checked) false ⟨#[], #[.slice none 0 0, .slice none 0 0, .slice none 0 0, .int .i64 0, .int .i64 0, .int .i64 0, .int .i64 0, .int .i64 0], []⟩ 8 (by kernel_rfl) (by kernel_rfl) (by kernel_rfl) (by kernel_rfl)) ?_
  intro W base args ds gs before hval0 hW hcnd _
  have hval : ∀ (j : Nat) t v, Try.f3.params[j]? = some t → args[j]? = some v → Value.okWide Try.prog W .any base t v := hval0
  have hW' := hW
  obtain ⟨p, q, hA0, hV, rfl, hfz, hnd⟩ := hW
  have hA : DataW.TrodAll enc Try.prog W 0 (fun _ => true) true Try.f3.params.toList args.toList ds p := hA0
  rw [Try.params3] at hA hval
  obtain ⟨v0, vs0, d0, ds0, p0, q0, hargs, rfl, rfl, h0, r0⟩ := trodAll_cons hA
  obtain ⟨v1, vs1, d1, ds1, p1, q1, rfl, rfl, rfl, h1, r1⟩ := trodAll_cons r0
  obtain ⟨v2, vs2, d2, ds2, p2, q2, rfl, rfl, rfl, h2, r2⟩ := trodAll_cons r1
  obtain ⟨v3, vs3, d3, ds3, p3, q3, rfl, rfl, rfl, h3, r3⟩ := trodAll_cons r2
  obtain ⟨v4, vs4, d4, ds4, p4, q4, rfl, rfl, rfl, h4, r4⟩ := trodAll_cons r3
  obtain ⟨v5, vs5, d5, ds5, p5, q5, rfl, rfl, rfl, h5, r5⟩ := trodAll_cons r4
  obtain ⟨v6, vs6, d6, ds6, p6, q6, rfl, rfl, rfl, h6, r6⟩ := trodAll_cons r5
  obtain ⟨v7, vs7, d7, ds7, p7, q7, rfl, rfl, rfl, h7, r7⟩ := trodAll_cons r6
  obtain ⟨rfl, rfl, rfl⟩ := trodAll_nil r7
  obtain rfl : args = #[v0, v1, v2, v3, v4, v5, v6, v7] := by cases args; simp_all
  obtain ⟨rfl, rfl⟩ := trodVars_none hV
  obtain ⟨A0, n0, c0, ns0, rfl, hl0, nl0, w0⟩ := open_rowsS 4 (K := 8) Try.underlying22 (by kernel_rfl) (by kernel_rfl) (by omega) (hval 0 22 v0 rfl rfl) h0
  obtain ⟨A1, n1, c1, ns1, rfl, hl1, nl1, w1⟩ := open_rowsS 4 (K := 1) Try.underlying23 (by kernel_rfl) (by kernel_rfl) (by omega) (hval 1 23 v1 rfl rfl) h1
  obtain ⟨A2, n2, c2, ns2, rfl, hl2, nl2, w2⟩ := open_rowsS 4 (K := 1) Try.underlying23 (by kernel_rfl) (by kernel_rfl) (by omega) (hval 2 23 v2 rfl rfl) h2
  obtain ⟨a3, rfl, rfl, rfl, w3⟩ := open_int Try.underlying3 (hval 3 3 v3 rfl rfl) h3
  obtain ⟨a4, rfl, rfl, rfl, w4⟩ := open_int Try.underlying3 (hval 4 3 v4 rfl rfl) h4
  obtain ⟨a5, rfl, rfl, rfl, w5⟩ := open_int Try.underlying3 (hval 5 3 v5 rfl rfl) h5
  obtain ⟨a6, rfl, rfl, rfl, w6⟩ := open_int Try.underlying3 (hval 6 3 v6 rfl rfl) h6
  obtain ⟨a7, rfl, rfl, rfl, w7⟩ := open_int Try.underlying3 (hval 7 3 v7 rfl rfl) h7
  clear hA0 hval0
  refine (spurParts_walk A0 n0 c0 ns0 A1 n1 c1 ns1 A2 n2 c2 ns2 a3 a4 a5 a6 a7 nl0 w0 nl1 w1 nl2 w2 w3 w4 w5 w6 w7 W hl0 hl1 hl2).mono fun e W' ⟨he, bel⟩ => ?_
  subst he
  exact ⟨_, rfl, law_post spurParts_laidOut (by kernel_rfl) rfl Try.underlying4 rfl rfl hW' bel⟩

theorem spurParts_proved : Rows.SpurPartsSaid :=
  OpenClaim.holds_of_wide 3 Try.f3 rfl rfl rfl rfl rfl rfl rfl ⟨rfl, rfl, rfl, rfl, rfl⟩ rfl rfl rfl rfl rfl (by kernel_rfl) Try.func3 (by kernel_rfl)
    (of_decide_eq_true (by kernel_rfl)) (by unfold Func.isWrapper; first | (rw [if_pos (by decide +kernel)]; kernel_rfl) | (rw [if_neg (by decide +kernel)]; exact ⟨rfl, rfl⟩))
    (fun os started H enc _ => spurParts_lifted os started H enc)
#print axioms spurParts_proved
end Go.Proofs.Ytmbaklodgpcegaa
