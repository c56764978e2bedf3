/- With more bans there is no better way on, and without those that it goes by it is the same: SpurBans returns true. No condition. -/
import Derived.Test.YtmbaklodgpcegaaRows
import Derived.Test.YtmbaklodgpcegaaSmall18
import Derived.Test.YtmbaklodgpcegaaGQ26
import Derived.BigQuiet
import Derived.Deep.QuietTactic
import Derived.Test.YtmbaklodgpcegaaGQ20
namespace Go.Proofs.Ytmbaklodgpcegaa
open Go.ChangeShapes Go.WideShapes Go.ChangeAt Go.RowKit Go.Sort Hp
set_option linter.unusedSimpArgs false
set_option linter.unusedVariables false
set_option maxHeartbeats 8000000 in
set_option maxRecDepth 100000 in
theorem spurBans_w (A : Option Addr) (n c : Nat) (l : List Ed) (Ar : Option Addr) (nr cr : Nat) (root : List Int) (Ab : Option Addr) (nb cb : Nat) (bans : List Int) (Am : Option Addr) (nm cm : Nat) (more : List Int) (f q now size by_ : Int) (w : World) (hd : l.length = n) (hdr : root.length = nr) (hwr : ∀ k, k < nr → (Lit.int .i64 (root.getD k 0)).wf = true) (hdb : bans.length = nb) (hwb : ∀ k, k < nb → (Lit.int .i64 (bans.getD k 0)).wf = true) (hdm : more.length = nm) (hwm : ∀ k, k < nm → (Lit.int .i64 (more.getD k 0)).wf = true) (hl : Sl w w.heap.size 8 A n c (flatEd l)) (hlr : Sl w w.heap.size 1 Ar nr cr (root.map (Value.int .i64))) (hlb : Sl w w.heap.size 1 Ab nb cb (bans.map (Value.int .i64))) (hlm : Sl w w.heap.size 1 Am nm cm (more.map (Value.int .i64))) :
    Calls Try.prog 5 #[.slice A n c, .slice Ar nr cr, .slice Ab nb cb, .slice Am nm cm, .int .i64 f, .int .i64 q, .int .i64 now, .int .i64 size, .int .i64 by_] w fun e w' => e = .returned (.bool true) ∧ Below w.heap.size w w' := by
  have HD := Lib.hid hd
  have HL := Lib.hid (fun w' (hb : Below w.heap.size w w') => hl.up hb)
  clear hd hl
  have HDR := Lib.hid hdr
  have HWR := Lib.hid hwr
  have HLR := Lib.hid (fun w' (hb : Below w.heap.size w w') => hlr.up hb)
  clear hlr hdr hwr
  have HDB := Lib.hid hdb
  have HWB := Lib.hid hwb
  have HLB := Lib.hid (fun w' (hb : Below w.heap.size w w') => hlb.up hb)
  clear hlb hdb hwb
  have HDM := Lib.hid hdm
  have HWM := Lib.hid hwm
  have HLM := Lib.hid (fun w' (hb : Below w.heap.size w w') => hlm.up hb)
  clear hlm hdm hwm
  go_enter Try.func5, Try.ntmps5
  go_wp2_with fail
  refine (small18_any w).mono ?_
  rintro e w1 ⟨rfl, hB⟩
  by_cases hG : 20 < n ∨ 20 < nr ∨ 20 < nb ∨ 20 < nm
  · have hG' : (20 < n) ∨ (n ≤ 20 ∧ 20 < nr) ∨ (n ≤ 20 ∧ nr ≤ 20 ∧ 20 < nb) ∨ (n ≤ 20 ∧ nr ≤ 20 ∧ nb ≤ 20 ∧ 20 < nm) := by omega
    clear hG
    rcases hG' with g0 | ⟨g0, g1⟩ | ⟨g0, g1, g2⟩ | ⟨g0, g1, g2, g3⟩
    all_goals
      go_wp2_with fail
      go_ret
      exact ⟨rfl, hB⟩
  have hn1 : n ≤ 20 := by omega
  have hn2 : nr ≤ 20 := by omega
  have hn3 : nb ≤ 20 := by omega
  have hn4 : nm ≤ 20 := by omega
  clear hG
  obtain ⟨oa, hoa⟩ : ∃ o, spurX l root bans f q now size by_ = o := ⟨_, rfl⟩
  obtain ⟨ta, hta⟩ : ∃ t, bestV oa = t := ⟨_, rfl⟩
  obtain ⟨Ha, hHa⟩ : ∃ H, bestH oa = H := ⟨_, rfl⟩
  obtain ⟨ka, hka⟩ : ∃ b, oa.isSome = b := ⟨_, rfl⟩
  have HOa := Lib.hid hoa
  have HTa := Lib.hid hta
  have HHa := Lib.hid hHa
  have HKa := Lib.hid hka
  clear hoa hta hHa hka
  obtain ⟨oy, hoy⟩ : ∃ o, spurX l root (bans ++ more) f q now size by_ = o := ⟨_, rfl⟩
  obtain ⟨ty, hty⟩ : ∃ t, bestV oy = t := ⟨_, rfl⟩
  obtain ⟨Hy, hHy⟩ : ∃ H, bestH oy = H := ⟨_, rfl⟩
  obtain ⟨ky, hky⟩ : ∃ b, oy.isSome = b := ⟨_, rfl⟩
  have HOy := Lib.hid hoy
  have HTy := Lib.hid hty
  have HHy := Lib.hid hHy
  have HKy := Lib.hid hky
  clear hoy hty hHy hky
  go_wp2_with fail
  refine (sproute_v A n c l Ar nr cr root Ab nb cb bans f q now size by_ w1 HD.out (by omega) HDR.out (by omega) HWR.out HDB.out (by omega) HWB.out (HL.out _ hB) (HLR.out _ hB) (HLB.out _ hB) oa HOa.out ta HTa.out Ha HHa.out ka HKa.out).mono ?_
  rintro e wk1 ⟨Aa, na, ca, rfl, hna, hma, sa, hb⟩
  replace hB := hB.trans (hb.mono hB.size)
  clear hb
  have HNa := Lib.hid hna
  clear hna
  have hlb_ := HLB.out _ hB
  have hlm_ := HLM.out _ hB
  go_upto_region 5 with fail
  have hb : Below wk1.heap.size wk1 (wk1.alloc (.cells #[.slice Aa na ca, .int .i64 ta] 27)) := (Below.refl _ _).alloc (Nat.le_refl _) _
  have xa := Blok.new wk1 27 #[.slice Aa na ca, .int .i64 ta]
  obtain ⟨bxa, hbxa⟩ : ∃ q, wk1.heap.size = q := ⟨_, rfl⟩
  have hsxa : (wk1.alloc (.cells #[.slice Aa na ca, .int .i64 ta] 27)).heap.size = bxa + 1 := by rw [← hbxa]; simp
  replace sa := sa.up hb
  replace hlb_ := hlb_.up hb
  replace hlm_ := hlm_.up hb
  replace hB := hB.trans (hb.mono hB.size)
  clear hb
  generalize wk1.alloc (.cells #[.slice Aa na ca, .int .i64 ta] 27) = wk2 at *
  rw [hbxa] at xa
  try rw [hbxa]
  clear hbxa
  try clear hsxa
  have hE_ : (wk2.alloc (.cells #[] 3)).ownsRow wk2.heap.size 3 1 (.slice (some ⟨wk2.heap.size, 0, none⟩) 0 0) 0 [] := own_lit wk2 wk2.heap.size 3 1 0 #[] (Nat.le_refl _) rfl (by simp)
  have hbE : Below wk2.heap.size wk2 (wk2.alloc (.cells #[] 3)) := (Below.refl _ _).alloc (Nat.le_refl _) _
  have hl1_ := (hlb_).up hbE
  have hl2_ := (hlm_).up hbE
  obtain ⟨i0, hi0, hz0, hz1, hz2⟩ := info_parts infoI17
  go_wp2_with (first
    | (at_builtin; refine wpList_append_lst _ rfl (.tmp 61) (.tmp 62) 23 rfl wk2.heap.size 3 i0 _ 1 8 Try.underlying23 hi0 hz0 hz1 hz2 rfl (by decide) (.slice (some ⟨wk2.heap.size, 0, none⟩) 0 0) 0 [] rfl hE_ _ Ab nb cb (bans.map (Value.int .i64)) rfl hl1_.lst (ints_one17 _) (by unfold maxLen; omega) (by omega) (by simp) ?_; intro vA wA hownA hgA hlA; clear hlA; have hbA : Below wk2.heap.size wk2 wA := hbE.grown hgA hbE.size (fun g hg => (hE_.lt g hg).1); clear hgA; have hsA := hbA.size)
    | (at_builtin; refine wpList_append_lst _ rfl (.tmp 63) (.tmp 64) 23 rfl wk2.heap.size 3 i0 _ 1 8 Try.underlying23 hi0 hz0 hz1 hz2 rfl (by decide) vA _ _ rfl hownA _ Am nm cm (more.map (Value.int .i64)) rfl ((hlm_).up hbA).lst (ints_one17 _) (by unfold maxLen; omega) (by omega) hsA ?_; intro vB wB hownB hgB hnB; clear hnB; have hb : Below wk2.heap.size wk2 wB := hbA.grown hgB hsA (fun g hg => (hownA.lt g hg).1); clear hgB))
  clear hE_ hbE hl1_ hl2_ hi0 hz0 hz1 hz2 hownA hbA hsA
  simp only [Nat.zero_add] at hownB
  obtain ⟨Aq, cq, hvq⟩ := slice_of_own hownB
  subst hvq
  have sq : Sl wB wB.heap.size 1 Aq (nb + nm) cq ((bans ++ more).map (Value.int .i64)) := by
    have h := Sl.of_own hownB
    simpa using h
  clear hownB
  replace sa := sa.up hb
  replace hlb_ := hlb_.up hb
  replace hlm_ := hlm_.up hb
  replace xa := xa.below hb xa.lt
  replace hB := hB.trans (hb.mono hB.size)
  clear hb
  generalize wB = wk3 at *
  have hdq : (bans ++ more).length = nb + nm := by rw [List.length_append, HDB.out, HDM.out]
  have hwq : ∀ k, k < nb + nm → (Lit.int .i64 ((bans ++ more).getD k 0)).wf = true := fun k hk => by
    rw [List.getD_eq_getElem?_getD, List.getElem?_append]
    split
    · have := HWB.out k (by rw [← HDB.out]; assumption); rwa [List.getD_eq_getElem?_getD] at this
    · have := HWM.out (k - bans.length) (by have h9 := HDB.out; omega); rwa [List.getD_eq_getElem?_getD] at this
  have HDQ := Lib.hid hdq
  have HWQ := Lib.hid hwq
  clear hdq hwq
  refine (sproute_v A n c l Ar nr cr root Aq (nb + nm) cq (bans ++ more) f q now size by_ wk3 HD.out (by omega) HDR.out (by omega) HWR.out HDQ.out (by omega) HWQ.out (HL.out _ hB) (HLR.out _ hB) sq oy HOy.out ty HTy.out Hy HHy.out ky HKy.out).mono ?_
  rintro e wk4 ⟨Ay, ny, cy, rfl, hny, hmy, sy, hb⟩
  replace sa := sa.up hb
  replace hlb_ := hlb_.up hb
  replace hlm_ := hlm_.up hb
  replace sq := sq.up hb
  replace xa := xa.below hb xa.lt
  replace hB := hB.trans (hb.mono hB.size)
  clear hb
  have HNy := Lib.hid hny
  clear hny
  clear sq
  clear hlb_
  clear hlm_
  cases ka with
  | false =>
    have hon : oa = none := by have h := HKa.out; cases oa with | none => rfl | some p => cases h
    have hyn : oy = none := HOy.out.symm.trans (bans_none (HOa.out.trans hon))
    subst hyn
    obtain rfl : ky = false := HKy.out.symm
    go_wp2_with fail
    have hb : Below wk4.heap.size wk4 (wk4.alloc (.cells #[.slice Ay ny cy, .int .i64 ty] 27)) := (Below.refl _ _).alloc (Nat.le_refl _) _
    have xy := Blok.new wk4 27 #[.slice Ay ny cy, .int .i64 ty]
    obtain ⟨bxy, hbxy⟩ : ∃ q, wk4.heap.size = q := ⟨_, rfl⟩
    have hsxy : (wk4.alloc (.cells #[.slice Ay ny cy, .int .i64 ty] 27)).heap.size = bxy + 1 := by rw [← hbxy]; simp
    replace sa := sa.up hb
    replace sy := sy.up hb
    replace xa := xa.below hb xa.lt
    replace hB := hB.trans (hb.mono hB.size)
    clear hb
    generalize wk4.alloc (.cells #[.slice Ay ny cy, .int .i64 ty] 27) = wk5 at *
    rw [hbxy] at xy
    try rw [hbxy]
    clear hbxy
    go_ret
    exact ⟨rfl, hB⟩
  | true =>
    obtain ⟨p, hp⟩ : ∃ p, oa = some p := Option.isSome_iff_exists.1 HKa.out
    have hp1 : p.1 = Ha := by have h := HHa.out; rw [hp] at h; exact h
    have hp2 : p.2 = ta := by have h := HTa.out; rw [hp] at h; exact h
    obtain ⟨ids, hids⟩ : ∃ z, Ha.map Hp.id = z := ⟨_, rfl⟩
    have HP := Lib.hid hp
    have HP1 := Lib.hid hp1
    have HP2 := Lib.hid hp2
    have HIDS := Lib.hid hids
    clear hp hp1 hp2 hids
    have xa_c0 := (xa.cell 0 : wk4.cell? ⟨bxa, 0, none⟩ = some (.slice Aa na ca))
    have xa_c1 := (xa.cell 1 : wk4.cell? ⟨bxa, 1, none⟩ = some (.int .i64 ta))
    have xa_lt := xa.lt
    go_wp2_with fail
    try clear xa_c0 xa_c1 xa_lt
    have hb : Below wk4.heap.size wk4 (wk4.alloc (.cells #[.slice Ay ny cy, .int .i64 ty] 27)) := (Below.refl _ _).alloc (Nat.le_refl _) _
    have xy := Blok.new wk4 27 #[.slice Ay ny cy, .int .i64 ty]
    obtain ⟨bxy, hbxy⟩ : ∃ q, wk4.heap.size = q := ⟨_, rfl⟩
    have hsxy : (wk4.alloc (.cells #[.slice Ay ny cy, .int .i64 ty] 27)).heap.size = bxy + 1 := by rw [← hbxy]; simp
    replace sa := sa.up hb
    replace sy := sy.up hb
    replace xa := xa.below hb xa.lt
    replace hB := hB.trans (hb.mono hB.size)
    clear hb
    generalize wk4.alloc (.cells #[.slice Ay ny cy, .int .i64 ty] 27) = wk5 at *
    rw [hbxy] at xy
    try rw [hbxy]
    clear hbxy
    try clear hsxy
    refine (pids_v Aa na ca Ha ta wk5 HNa.out (by omega) sa ids HIDS.out).mono ?_
    rintro e wk6 ⟨Ai, ci, rfl, hil, si, hb⟩
    replace sa := sa.up hb
    replace sy := sy.up hb
    replace xa := xa.below hb xa.lt
    replace xy := xy.below hb xy.lt
    replace hB := hB.trans (hb.mono hB.size)
    clear hb
    have HIL := Lib.hid hil
    clear hil
    have hlm_ := HLM.out _ hB
    have Fsa := Lib.hid (fun w' (hb : Below wk6.heap.size wk6 w') => sa.up hb)
    have Fsy := Lib.hid (fun w' (hb : Below wk6.heap.size wk6 w') => sy.up hb)
    have Fsi := Lib.hid (fun w' (hb : Below wk6.heap.size wk6 w') => si.up hb)
    have Fhlm_ := Lib.hid (fun w' (hb : Below wk6.heap.size wk6 w') => hlm_.up hb)
    have Fxa := Lib.hid (fun w' (hb : Below wk6.heap.size wk6 w') => xa.below hb xa.lt)
    have Fxy := Lib.hid (fun w' (hb : Below wk6.heap.size wk6 w') => xy.below hb xy.lt)
    have HBA := Lib.hid hB
    clear sa sy si hlm_ xa xy hB
    go_wp2_with fail
    go_loopw [25] (fun iv wr => ∃ (i : Nat), iv = .int .i64 i ∧ i ≤ nm ∧ Hid (nr < na → ids.getD nr 0 ∉ more.take i) ∧ Below wk6.heap.size wk6 wr) (fun iv _ => nm - (intOf iv).toNat)
    case atStart => exact ⟨0, rfl, by omega, (fun _ h => by simp at h), Below.refl _ _⟩
    case round =>
      obtain ⟨i, rfl, hi, HI, hBr⟩ := hrel
      have hs5 := hBr.size
      by_cases him : i < nm
      · have htk := take_nextI (l := more) (k := i) (by rw [HDM.out]; exact him)
        obtain ⟨y, hy⟩ : ∃ y, more.getD i 0 = y := ⟨_, rfl⟩
        rw [hy] at htk
        have HY := Lib.hid hy
        have HTK := Lib.hid htk
        clear hy htk
        have hmi : (i : Int) < (nm : Int) := by omega
        by_cases hrn : nr < na
        · obtain ⟨x, hx⟩ : ∃ x, ids.getD nr 0 = x := ⟨_, rfl⟩
          obtain ⟨ad, hA, hab, c0⟩ := (Fsi.out _ hBr).lst.atI HIL.out hrn
          obtain ⟨ae, hA2, hab2, d0⟩ := (Fhlm_.out _ hBr).lst.atI HDM.out him
          subst hA hA2
          rw [hx] at c0
          rw [HY.out] at d0
          have HX := Lib.hid hx
          have hrI : (nr : Int) < (na : Int) := by omega
          have g1 : decide (nr < na) = true := decide_eq_true hrn
          have g2 : decide ((nr : Int) < (na : Int)) = true := decide_eq_true hrI
          obtain ⟨z, hz⟩ : ∃ z, (x == y) = z := ⟨_, rfl⟩
          have HZ := Lib.hid hz
          clear hx
          go_wp2_with fail
          have q_c0 := fun d os => cell_regrown c0 d os
          have q_d0 := fun d os => cell_regrown d0 d os
          try simp only [List.append]
          first | refine wp_region_text_below ?_ | refine wp_region_quiet_below (by kernel_rfl) (by kernel_rfl) ?_
          repeat (go_big_quiet_step ((fail)))
          refine wpQuiet_nil ?_
          intro _ hqw
          obtain ⟨pq, hqw⟩ := hqw
          subst hqw
          clear q_c0 q_d0
          have hbel := below_regrown wr pq.d pq.os
          replace hBr := hBr.trans (hbel.mono hs5)
          clear hbel c0 d0 hab hab2 g1 g2 hz
          generalize grow (redrawn wr pq.d) pq.os = wq at *
          cases z with
          | false =>
            have HI2 : Hid (nr < na → ids.getD nr 0 ∉ more.take (i + 1)) := fun hh hc => by
              rw [HTK.out, List.mem_append] at hc
              rcases hc with h1 | h1
              · exact HI.out hh h1
              · have h2 : ids.getD nr 0 = y := by simpa using h1
                rw [HX.out] at h2
                have := HZ.out
                rw [h2] at this
                simp at this
            go_wp2_with fail
            go_roundw
            case rel => exact ⟨i + 1, by go_num, by omega, HI2, hBr⟩
            case measure => simp [intOf]; omega
          | true =>
            have hmem : ids.getD nr 0 ∈ more := by
              rw [HX.out, beq_iff_eq.1 HZ.out, ← HY.out]
              rw [List.getD_eq_getElem?_getD, List.getElem?_eq_getElem (by rw [HDM.out]; exact him)]
              exact List.getElem_mem _
            have hll : root.length < (p.1.map Hp.id).length := by rw [HP1.out, HIDS.out, HDR.out, HIL.out]; exact hrn
            have hmm : (p.1.map Hp.id).getD root.length 0 ∈ more := by rw [HP1.out, HIDS.out, HDR.out]; exact hmem
            have hoo := HOa.out.trans HP.out
            have hcm : ∀ p', oy = some p' → cmpR ta Ha p'.2 p'.1 < 0 := fun p' hp' => by
              have := bans_hit hoo hll hmm (HOy.out.trans hp')
              rw [HP1.out, HP2.out] at this
              exact this
            have HCM := Lib.hid hcm
            clear hmem hll hmm hoo hcm
            have sa := Fsa.out _ hBr
            have sy := Fsy.out _ hBr
            have xa := Fxa.out _ hBr
            have xy := Fxy.out _ hBr
            have hB := HBA.out.trans (hBr.mono HBA.out.size)
            cases ky with
            | false =>
              clear sa sy xa xy
              go_wp2_with fail
              go_ret
              exact ⟨rfl, hB⟩
            | true =>
              obtain ⟨p', hp'⟩ : ∃ p', oy = some p' := Option.isSome_iff_exists.1 HKy.out
              have h1 : p'.1 = Hy := by have h := HHy.out; rw [hp'] at h; exact h
              have h2 : p'.2 = ty := by have h := HTy.out; rw [hp'] at h; exact h
              have h3 := HCM.out p' hp'
              rw [h1, h2] at h3
              have HLS : Hid (decide (cmpR ta Ha ty Hy < 0) = true) := decide_eq_true h3
              clear hp' h1 h2 h3
              have xa_c0 := (xa.cell 0 : wq.cell? ⟨bxa, 0, none⟩ = some (.slice Aa na ca))
              have xa_c1 := (xa.cell 1 : wq.cell? ⟨bxa, 1, none⟩ = some (.int .i64 ta))
              have xa_lt := xa.lt
              have xy_c0 := (xy.cell 0 : wq.cell? ⟨bxy, 0, none⟩ = some (.slice Ay ny cy))
              have xy_c1 := (xy.cell 1 : wq.cell? ⟨bxy, 1, none⟩ = some (.int .i64 ty))
              have xy_lt := xy.lt
              go_wp2_with fail
              try clear xa_c0 xa_c1 xa_lt xy_c0 xy_c1 xy_lt
              refine (oless_any Aa Ay na ca ny cy Ha Hy ta ty wq HNa.out HNy.out (by omega) (by omega) sa sy true HLS.out).mono ?_
              rintro e wk7 ⟨rfl, hb⟩
              replace sa := sa.up hb
              replace sy := sy.up hb
              replace xa := xa.below hb xa.lt
              replace xy := xy.below hb xy.lt
              replace hB := hB.trans (hb.mono hB.size)
              clear hb
              go_wp2_with fail
              go_ret
              exact ⟨rfl, hB⟩
        · have g1 : decide (nr < na) = false := decide_eq_false hrn
          have g2 : decide ((nr : Int) < (na : Int)) = false := decide_eq_false (by omega)
          have HI2 : Hid (nr < na → ids.getD nr 0 ∉ more.take (i + 1)) := fun hh => absurd hh hrn
          go_wp2_with fail
          try simp only [List.append]
          first | refine wp_region_text_below ?_ | refine wp_region_quiet_below (by kernel_rfl) (by kernel_rfl) ?_
          repeat (go_big_quiet_step ((fail)))
          refine wpQuiet_nil ?_
          intro _ hqw
          obtain ⟨pq, hqw⟩ := hqw
          subst hqw
          have hbel := below_regrown wr pq.d pq.os
          replace hBr := hBr.trans (hbel.mono hs5)
          clear hbel g1 g2
          generalize grow (redrawn wr pq.d) pq.os = wq at *
          go_wp2_with fail
          go_roundw
          case rel => exact ⟨i + 1, by go_num, by omega, HI2, hBr⟩
          case measure => simp [intOf]; omega
      · obtain rfl : nm = i := by omega
        have hmiss : oy = some p := by
          refine HOy.out.symm.trans (bans_miss (HOa.out.trans HP.out) (fun hh => ?_))
          rw [HP1.out, HIDS.out, HDR.out] at *
          have h1 := HI.out (by rw [HIL.out] at hh; exact hh)
          rw [List.take_of_length_le (by rw [HDM.out]; omega)] at h1
          exact h1
        have hh1 : Hy = Ha := by have h := HHy.out; rw [hmiss] at h; exact h.symm.trans HP1.out
        have hh2 : ty = ta := by have h := HTy.out; rw [hmiss] at h; exact h.symm.trans HP2.out
        obtain rfl : ky = true := by have h := HKy.out; rw [hmiss] at h; exact h.symm
        have HE1 := Lib.hid hh1
        have HE2 := Lib.hid hh2
        have sa := Fsa.out _ hBr
        have sy := Fsy.out _ hBr
        have xa := Fxa.out _ hBr
        have xy := Fxy.out _ hBr
        have hB := HBA.out.trans (hBr.mono HBA.out.size)
        clear hmiss hh1 hh2 hBr
        obtain ⟨wA, hwA⟩ : ∃ x, x = wr := ⟨_, rfl⟩
        subst hwA
        have xa_c0 := (xa.cell 0 : wA.cell? ⟨bxa, 0, none⟩ = some (.slice Aa na ca))
        have xa_c1 := (xa.cell 1 : wA.cell? ⟨bxa, 1, none⟩ = some (.int .i64 ta))
        have xa_lt := xa.lt
        have xy_c0 := (xy.cell 0 : wA.cell? ⟨bxy, 0, none⟩ = some (.slice Ay ny cy))
        have xy_c1 := (xy.cell 1 : wA.cell? ⟨bxy, 1, none⟩ = some (.int .i64 ty))
        have xy_lt := xy.lt
        go_wp2_with fail
        try clear xa_c0 xa_c1 xa_lt xy_c0 xy_c1 xy_lt
        refine (psame_any Aa Ay na ca ny cy Ha Hy ta ty wA HNa.out HNy.out (by omega) (by omega) sa sy true (by rw [HE1.out, HE2.out]; simp)).mono ?_
        rintro e wk7 ⟨rfl, hb⟩
        replace sa := sa.up hb
        replace sy := sy.up hb
        replace xa := xa.below hb xa.lt
        replace xy := xy.below hb xy.lt
        replace hB := hB.trans (hb.mono hB.size)
        clear hb
        go_wp2_with fail
        go_ret
        exact ⟨rfl, hB⟩
theorem spurBans_walk (A : Option Addr) (n k : Nat) (ns : List Int) (Ar : Option Addr) (nr kr : Nat) (nsr : List Int) (Ab : Option Addr) (nb kb : Nat) (nsb : List Int) (Am : Option Addr) (nm km : Nat) (nsm : List Int) (f : Int) (q : Int) (now : Int) (size : Int) (by_ : Int) (hnl : ns.length = n * 8) (_ : ∀ m ∈ ns, (Lit.int .i64 m).wf = true) (hnr : nsr.length = nr * 1) (hwr : ∀ m ∈ nsr, (Lit.int .i64 m).wf = true) (hnb : nsb.length = nb * 1) (hwb : ∀ m ∈ nsb, (Lit.int .i64 m).wf = true) (hnm : nsm.length = nm * 1) (hwm : ∀ m ∈ nsm, (Lit.int .i64 m).wf = true) (_ : (Lit.int .i64 f).wf = true) (_ : (Lit.int .i64 q).wf = true) (_ : (Lit.int .i64 now).wf = true) (_ : (Lit.int .i64 size).wf = true) (_ : (Lit.int .i64 by_).wf = true) (w : World) (hl : Sl w w.heap.size 8 A n k (ns.map (Value.int .i64))) (hlr : Sl w w.heap.size 1 Ar nr kr (nsr.map (Value.int .i64))) (hlb : Sl w w.heap.size 1 Ab nb kb (nsb.map (Value.int .i64))) (hlm : Sl w w.heap.size 1 Am nm km (nsm.map (Value.int .i64))) :
    Calls Try.prog 5 #[.slice A n k, .slice Ar nr kr, .slice Ab nb kb, .slice Am nm km, .int .i64 f, .int .i64 q, .int .i64 now, .int .i64 size, .int .i64 by_] w fun e w' => e = .returned (.bool true) ∧ Below w.heap.size w w' := by
  obtain ⟨d, hd, hlf⟩ := rowsEd_of n ns hnl
  have hir : nsr.length = nr := by omega
  have hib : nsb.length = nb := by omega
  have him : nsm.length = nm := by omega
  rw [hlf] at hl
  exact spurBans_w A n k d Ar nr kr nsr Ab nb kb nsb Am nm km nsm f q now size by_ w hd hir (wf_getD hir hwr) hib (wf_getD hib hwb) him (wf_getD him hwm) hl hlr hlb hlm
theorem spurBans_own : ownKnob Try.prog.godebug = none := by kernel_rfl
theorem spurBans_laidOut : laidOutB Try.prog = true := by kernel_rfl

set_option maxHeartbeats 1000000 in
set_option maxRecDepth 100000 in
theorem spurBans_lifted (os : Os) (started : os.Started) (H : Type) (enc : TypeId × Value → H) :
    ReturnsInHanded {} Try.checked os 5 .any (Rows.spurBansSpec.pre6 enc Try.prog Try.f5 Rows.spurBansRow.domain false) (Rows.spurBansSpec.post enc Try.prog Try.f5 false true false false) := by
  refine returnsInHanded_of_change (C := Try.checked) spurBans_own started (by kernel_rfl) Try.func5
    (ChangeSpec.witness6 (enc := enc) (C := Try.checked) false ⟨#[], #[.slice none 0 0, .slice none 0 0, .slice none 0 0, .slice none 0 0, .int .i64 0, .int .i64 0, .int .i64 0, .int .i64 0, .int .i64 0], []⟩ 8 (by kernel_rfl) (by kernel_rfl) (by kernel_rfl) (by kernel_rfl)) ?_
  intro W base args ds gs before hval0 hW hcnd _
  have hval : ∀ (j : Nat) t v, Try.f5.params[j]? = some t → args[j]? = some v → Value.okWide Try.prog W .any base t v := hval0
  have hW' := hW
  obtain ⟨p, q, hA0, hV, rfl, hfz, hnd⟩ := hW
  have hA : DataW.TrodAll enc Try.prog W 0 (fun _ => true) true Try.f5.params.toList args.toList ds p := hA0
  rw [Try.params5] at hA hval
  obtain ⟨v0, vs0, d0, ds0, p0, q0, hargs, rfl, rfl, h0, r0⟩ := trodAll_cons hA
  obtain ⟨v1, vs1, d1, ds1, p1, q1, rfl, rfl, rfl, h1, r1⟩ := trodAll_cons r0
  obtain ⟨v2, vs2, d2, ds2, p2, q2, rfl, rfl, rfl, h2, r2⟩ := trodAll_cons r1
  obtain ⟨v3, vs3, d3, ds3, p3, q3, rfl, rfl, rfl, h3, r3⟩ := trodAll_cons r2
  obtain ⟨v4, vs4, d4, ds4, p4, q4, rfl, rfl, rfl, h4, r4⟩ := trodAll_cons r3
  obtain ⟨v5, vs5, d5, ds5, p5, q5, rfl, rfl, rfl, h5, r5⟩ := trodAll_cons r4
  obtain ⟨v6, vs6, d6, ds6, p6, q6, rfl, rfl, rfl, h6, r6⟩ := trodAll_cons r5
  obtain ⟨v7, vs7, d7, ds7, p7, q7, rfl, rfl, rfl, h7, r7⟩ := trodAll_cons r6
  obtain ⟨v8, vs8, d8, ds8, p8, q8, rfl, rfl, rfl, h8, r8⟩ := trodAll_cons r7
  obtain ⟨rfl, rfl, rfl⟩ := trodAll_nil r8
  obtain rfl : args = #[v0, v1, v2, v3, v4, v5, v6, v7, v8] := by cases args; simp_all
  obtain ⟨rfl, rfl⟩ := trodVars_none hV
  obtain ⟨A0, n0, c0, ns0, rfl, hl0, nl0, w0⟩ := open_rowsS 4 (K := 8) Try.underlying22 (by kernel_rfl) (by kernel_rfl) (by omega) (hval 0 22 v0 rfl rfl) h0
  obtain ⟨A1, n1, c1, ns1, rfl, hl1, nl1, w1⟩ := open_rowsS 4 (K := 1) Try.underlying23 (by kernel_rfl) (by kernel_rfl) (by omega) (hval 1 23 v1 rfl rfl) h1
  obtain ⟨A2, n2, c2, ns2, rfl, hl2, nl2, w2⟩ := open_rowsS 4 (K := 1) Try.underlying23 (by kernel_rfl) (by kernel_rfl) (by omega) (hval 2 23 v2 rfl rfl) h2
  obtain ⟨A3, n3, c3, ns3, rfl, hl3, nl3, w3⟩ := open_rowsS 4 (K := 1) Try.underlying23 (by kernel_rfl) (by kernel_rfl) (by omega) (hval 3 23 v3 rfl rfl) h3
  obtain ⟨a4, rfl, rfl, rfl, w4⟩ := open_int Try.underlying3 (hval 4 3 v4 rfl rfl) h4
  obtain ⟨a5, rfl, rfl, rfl, w5⟩ := open_int Try.underlying3 (hval 5 3 v5 rfl rfl) h5
  obtain ⟨a6, rfl, rfl, rfl, w6⟩ := open_int Try.underlying3 (hval 6 3 v6 rfl rfl) h6
  obtain ⟨a7, rfl, rfl, rfl, w7⟩ := open_int Try.underlying3 (hval 7 3 v7 rfl rfl) h7
  obtain ⟨a8, rfl, rfl, rfl, w8⟩ := open_int Try.underlying3 (hval 8 3 v8 rfl rfl) h8
  clear hA0 hval0
  refine (spurBans_walk A0 n0 c0 ns0 A1 n1 c1 ns1 A2 n2 c2 ns2 A3 n3 c3 ns3 a4 a5 a6 a7 a8 nl0 w0 nl1 w1 nl2 w2 nl3 w3 w4 w5 w6 w7 w8 W hl0 hl1 hl2 hl3).mono fun e W' ⟨he, bel⟩ => ?_
  subst he
  exact ⟨_, rfl, law_post spurBans_laidOut (by kernel_rfl) rfl Try.underlying4 rfl rfl hW' bel⟩

theorem spurBans_proved : Rows.SpurBansSaid :=
  OpenClaim.holds_of_wide 5 Try.f5 rfl rfl rfl rfl rfl rfl rfl ⟨rfl, rfl, rfl, rfl, rfl⟩ rfl rfl rfl rfl rfl (by kernel_rfl) Try.func5 (by kernel_rfl)
    (of_decide_eq_true (by kernel_rfl)) (by unfold Func.isWrapper; first | (rw [if_pos (by decide +kernel)]; kernel_rfl) | (rw [if_neg (by decide +kernel)]; exact ⟨rfl, rfl⟩))
    (fun os started H enc _ => spurBans_lifted os started H enc)
#print axioms spurBans_proved
end Go.Proofs.Ytmbaklodgpcegaa
