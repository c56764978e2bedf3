/- Several texts of mine in one: Ref18, Ref18b. No condition. -/
import Derived.Test.YtmbaklodgpcegaaGreatGQ24
import Derived.BigQuiet
import Derived.Deep.QuietTactic
import Derived.Test.YtmbaklodgpcegaaGreatGQ23

/- The document's ways on: begins, Route. They make new memory alone. At most ten edges. -/
namespace Go.Proofs.YtmbaklodgpcegaaGreat
open Go.ChangeShapes Go.WideShapes Go.ChangeAt Go.RowKit Go.Sort Go.Maps Hp
set_option linter.unusedSimpArgs false
set_option linter.unusedVariables false
set_option maxHeartbeats 8000000 in
set_option maxRecDepth 100000 in
theorem rbegins_any (A : Option Addr) (n c : Nat) (ids : List Int) (Ar : Option Addr) (nr cr : Nat) (root : List Int) (Ab : Option Addr) (nb cb : Nat) (bans : List Int) (w : World) (hd : ids.length = n) (hn : n ≤ 1000000) (hdr : root.length = nr) (hnr : nr ≤ 1000000) (hdb : bans.length = nb) (hnb : nb ≤ 1000000)
    (hl : Sl w w.heap.size 1 A n c (ids.map (Value.int .i64))) (hlr : Sl w w.heap.size 1 Ar nr cr (root.map (Value.int .i64))) (hlb : Sl w w.heap.size 1 Ab nb cb (bans.map (Value.int .i64))) (b : Bool) (hb : goesB root bans ids = b) :
    Calls Tryz.prog 17 #[.slice A n c, .slice Ar nr cr, .slice Ab nb cb] w fun e w' => e = .returned (.bool b) ∧ Below w.heap.size w w' := by
  have HD := Lib.hid hd
  have HDR := Lib.hid hdr
  have HDB := Lib.hid hdb
  have HV := Lib.hid hb
  have FI := Lib.hid (fun w' (hb : Below w.heap.size w w') => hl.up hb)
  have FR := Lib.hid (fun w' (hb : Below w.heap.size w w') => hlr.up hb)
  have FB := Lib.hid (fun w' (hb : Below w.heap.size w w') => hlb.up hb)
  clear hd hdr hdb hb hl hlr hlb
  have hB0 : Below w.heap.size w w := Below.refl _ _
  go_enter Tryz.func17, Tryz.ntmps17
  by_cases hlt : n < nr
  · have hf : b = false := by rw [← HV.out]; exact goes_short (by rw [HD.out, HDR.out]; exact hlt)
    have hltI : (n : Int) < (nr : Int) := by omega
    subst hf
    go_wp2_with fail
    go_ret
    exact ⟨rfl, hB0⟩
  have hge : ¬ (n : Int) < (nr : Int) := by omega
  go_wp2_with fail
  clear hge
  go_loopw [7] (fun iv wr => ∃ (i : Nat), iv = .int .i64 i ∧ i ≤ nr ∧ Hid (∀ j, j < i → ids.getD j 0 = root.getD j 0) ∧ Below w.heap.size w wr) (fun iv _ => nr - (intOf iv).toNat)
  case atStart => exact ⟨0, rfl, by omega, (fun j hj => by omega), hB0⟩
  case round =>
    clear hB0
    obtain ⟨i, rfl, hi, HN, hB⟩ := hrel
    have hs := hB.size
    by_cases hin : i < nr
    · obtain ⟨ad, hA, hab, c0⟩ := (FI.out wr hB).lst.atI HD.out (show i < n by omega)
      obtain ⟨ae, hA2, hab2, d0⟩ := (FR.out wr hB).lst.atI HDR.out hin
      subst hA hA2
      obtain ⟨u, hu⟩ : ∃ v, ids.getD i 0 = v := ⟨_, rfl⟩
      obtain ⟨t, ht⟩ : ∃ v, root.getD i 0 = v := ⟨_, rfl⟩
      rw [hu] at c0
      rw [ht] at d0
      have t8 : (i : Int) < (n : Int) := by omega
      have t9 : (i : Int) < (nr : Int) := by omega
      by_cases he : u = t
      · have HN2 : Hid (∀ j, j < i + 1 → ids.getD j 0 = root.getD j 0) := fun j hj => by
          by_cases e : j = i
          · subst e; rw [hu, ht]; exact he
          · exact HN.out j (by omega)
        have g1 : (u != t) = false := by simp [he]
        clear hu ht he
        go_wp2_with fail
        have q_c0 := fun d os => cell_regrown c0 d os
        have q_d0 := fun d os => cell_regrown d0 d os
        try simp only [List.append]
        first | refine wp_region_text_below ?_ | refine wp_region_quiet_below (by kernel_rfl) (by kernel_rfl) ?_
        repeat (go_big_quiet_step ((fail)))
        refine wpQuiet_nil ?_
        intro _ hqw
        obtain ⟨pq, hqw⟩ := hqw
        subst hqw
        clear q_c0 q_d0
        have hbq := hB.trans ((below_regrown wr pq.d pq.os).mono hs)
        clear c0 d0 g1 t8 t9 hab hab2 hB hs
        generalize grow (redrawn wr pq.d) pq.os = wq at *
        go_wp2_with fail
        go_roundw
        case rel => exact ⟨i + 1, by go_num, by omega, HN2, hbq⟩
        case measure => simp [intOf]; omega
      · have hf : b = false := by rw [← HV.out]; exact goes_ne (i := i) (by rw [HDR.out]; exact hin) (by rw [hu, ht]; exact he)
        have g1 : (u != t) = true := by simp [he]
        subst hf
        clear hu ht he
        go_wp2_with fail
        have q_c0 := fun d os => cell_regrown c0 d os
        have q_d0 := fun d os => cell_regrown d0 d os
        try simp only [List.append]
        first | refine wp_region_text_below ?_ | refine wp_region_quiet_below (by kernel_rfl) (by kernel_rfl) ?_
        repeat (go_big_quiet_step ((fail)))
        refine wpQuiet_nil ?_
        intro _ hqw
        obtain ⟨pq, hqw⟩ := hqw
        subst hqw
        clear q_c0 q_d0
        have hbq := hB.trans ((below_regrown wr pq.d pq.os).mono hs)
        generalize grow (redrawn wr pq.d) pq.os = wq at *
        go_wp2
        go_ret
        exact ⟨rfl, hbq⟩
    · obtain rfl : i = nr := by omega
      have HNA := Lib.hid HN.out
      have HBA := Lib.hid hB
      clear HN hB hs
      obtain ⟨wA, hwA⟩ : ∃ x, x = wr := ⟨_, rfl⟩
      subst hwA
      go_wp2_with fail
      go_loopw [8] (fun iv wr => ∃ (j : Nat), iv = .int .i64 j ∧ j ≤ nb ∧ Hid (i < n → ∀ k, k < j → ids.getD i 0 ≠ bans.getD k 0) ∧ Below w.heap.size w wr) (fun iv _ => nb - (intOf iv).toNat)
      case atStart => exact ⟨0, rfl, by omega, (fun _ k hk => by omega), HBA.out⟩
      case round =>
        obtain ⟨j, rfl, hj, HK, hBr⟩ := hrel
        have hs5 := hBr.size
        by_cases hjm : j < nb
        · have hmi : (j : Int) < (nb : Int) := by omega
          by_cases hrn : i < n
          · obtain ⟨x, hx⟩ : ∃ x, ids.getD i 0 = x := ⟨_, rfl⟩
            obtain ⟨y, hy⟩ : ∃ y, bans.getD j 0 = y := ⟨_, rfl⟩
            obtain ⟨ad, hA, hab, c0⟩ := (FI.out _ hBr).lst.atI HD.out hrn
            obtain ⟨ae, hA2, hab2, d0⟩ := (FB.out _ hBr).lst.atI HDB.out hjm
            subst hA hA2
            rw [hx] at c0
            rw [hy] at d0
            have HX := Lib.hid hx
            have HY := Lib.hid hy
            have hrI : (i : Int) < (n : Int) := by omega
            have g1 : decide (i < n) = true := decide_eq_true hrn
            have g2 : decide ((i : Int) < (n : Int)) = true := decide_eq_true hrI
            obtain ⟨z, hz⟩ : ∃ z, (x == y) = z := ⟨_, rfl⟩
            have HZ := Lib.hid hz
            clear hx hy
            go_wp2_with fail
            have q_c0 := fun d os => cell_regrown c0 d os
            have q_d0 := fun d os => cell_regrown d0 d os
            try simp only [List.append]
            first | refine wp_region_text_below ?_ | refine wp_region_quiet_below (by kernel_rfl) (by kernel_rfl) ?_
            repeat (go_big_quiet_step ((fail)))
            refine wpQuiet_nil ?_
            intro _ hqw
            obtain ⟨pq, hqw⟩ := hqw
            subst hqw
            clear q_c0 q_d0
            have hbel := below_regrown wr pq.d pq.os
            replace hBr := hBr.trans (hbel.mono hs5)
            clear hbel c0 d0 hab hab2 g1 g2 hz
            generalize grow (redrawn wr pq.d) pq.os = wq at *
            cases z with
            | false =>
              have HK2 : Hid (i < n → ∀ k, k < j + 1 → ids.getD i 0 ≠ bans.getD k 0) := fun hh k hk hc => by
                by_cases e : k = j
                · subst e
                  rw [HX.out, HY.out] at hc
                  have := HZ.out
                  rw [hc] at this
                  simp at this
                · exact HK.out hh k (by omega) hc
              go_wp2_with fail
              go_roundw
              case rel => exact ⟨j + 1, by go_num, by omega, HK2, hBr⟩
              case measure => simp [intOf]; omega
            | true =>
              have hf : b = false := by
                rw [← HV.out]
                refine goes_ban (j := j) (by rw [HD.out, HDR.out]; exact hrn) (by rw [HDB.out]; exact hjm) ?_
                rw [HDR.out, HX.out, HY.out]
                exact beq_iff_eq.1 HZ.out
              subst hf
              go_wp2_with fail
              go_ret
              exact ⟨rfl, hBr⟩
          · have hrI : ¬ (i : Int) < (n : Int) := by omega
            have g1 : decide (i < n) = false := decide_eq_false hrn
            have g2 : decide ((i : Int) < (n : Int)) = false := decide_eq_false hrI
            go_wp2_with fail
            try simp only [List.append]
            first | refine wp_region_text_below ?_ | refine wp_region_quiet_below (by kernel_rfl) (by kernel_rfl) ?_
            repeat (go_big_quiet_step ((fail)))
            refine wpQuiet_nil ?_
            intro _ hqw
            obtain ⟨pq, hqw⟩ := hqw
            subst hqw
            have hbel := below_regrown wr pq.d pq.os
            replace hBr := hBr.trans (hbel.mono hs5)
            clear hbel g1 g2
            generalize grow (redrawn wr pq.d) pq.os = wq at *
            go_wp2_with fail
            go_roundw
            case rel => exact ⟨j + 1, by go_num, by omega, (fun hh => absurd hh hrn), hBr⟩
            case measure => simp [intOf]; omega
        · obtain rfl : j = nb := by omega
          have hf : b = true := by
            rw [← HV.out]
            refine goes_yes (by rw [HD.out, HDR.out]; omega) (fun k hk => HNA.out k (by rw [HDR.out] at hk; exact hk)) (fun hh k hk => ?_)
            rw [HDR.out]
            exact HK.out (by rw [HDR.out, HD.out] at hh; exact hh) k (by rw [HDB.out] at hk; exact hk)
          subst hf
          go_wp2_with fail
          go_ret
          exact ⟨rfl, hBr⟩
theorem find_at {R : List Rtp} {P : Rtp → Bool} {i : Nat} (hi : i < R.length) (hn : ∀ j, j < i → P (R.getD j ([], 0)) = false) (hy : P (R.getD i ([], 0)) = true) : R.find? P = some (R.getD i ([], 0)) := by
  induction R generalizing i with
  | nil => simp at hi
  | cons x r ih =>
    cases i with
    | zero =>
      have h : P x = true := hy
      rw [List.find?_cons_of_pos h]
      rfl
    | succ i =>
      have h : P x = false := hn 0 (by omega)
      rw [List.find?_cons_of_neg (by rw [h]; simp)]
      exact ih (i := i) (by simpa using hi) (fun j hj => hn (j + 1) (by omega)) hy
theorem find_no {R : List Rtp} {P : Rtp → Bool} (hn : ∀ j, j < R.length → P (R.getD j ([], 0)) = false) : R.find? P = none := by
  refine List.find?_eq_none.2 fun x hx hc => ?_
  obtain ⟨j, hj, rfl⟩ := List.mem_iff_getElem.1 hx
  have h := hn j hj
  rw [List.getD_eq_getElem?_getD, List.getElem?_eq_getElem hj] at h
  have h' : P R[j] = false := h
  rw [hc] at h'
  cases h'
end Go.Proofs.YtmbaklodgpcegaaGreat

/- The document's best way on: Route. It makes new memory alone. At most ten edges. -/
namespace Go.Proofs.YtmbaklodgpcegaaGreat
open Go.ChangeShapes Go.WideShapes Go.ChangeAt Go.RowKit Go.Sort Go.Maps Hp
set_option linter.unusedSimpArgs false
set_option linter.unusedVariables false
set_option maxHeartbeats 16000000 in
set_option maxRecDepth 100000 in
theorem rroute18_any (A : Option Addr) (n c : Nat) (l : List Ed) (Ar : Option Addr) (nr cr : Nat) (root : List Int) (Ab : Option Addr) (nb cb : Nat) (bans : List Int) (f q now size by_ : Int) (w : World) (hd : l.length = n) (hn : n ≤ 10) (hdr : root.length = nr) (hnr : nr ≤ 1000000) (hdb : bans.length = nb) (hnb : nb ≤ 1000000)
    (hle : Sl w w.heap.size 8 A n c (flatEd l)) (hlr : Sl w w.heap.size 1 Ar nr cr (root.map (Value.int .i64))) (hlb : Sl w w.heap.size 1 Ab nb cb (bans.map (Value.int .i64))) (o : Option (List Hp × Int)) (ho : spurX l root bans f q now size by_ = o) (nh : Nat) (hnh : (hopsO o).length = nh) (ar : Int) (har : arrO o = ar) :
    Calls Tryz.prog 6 #[.slice A n c, .slice Ar nr cr, .slice Ab nb cb, .int .i64 f, .int .i64 q, .int .i64 now, .int .i64 size, .int .i64 by_] w fun e w' => ∃ A' c', e = .returned (.tuple #[.agg #[.slice A' nh c', .int .i64 ar], .bool o.isSome]) ∧ Sl w' w'.heap.size 3 A' nh c' (flatHp (hopsO o)) ∧ Below w.heap.size w w' := by
  have hX := Blok.new w 27 #[.slice none 0 0, .int .i64 0]
  have hBa : Below w.heap.size w (w.alloc (.cells #[.slice none 0 0, .int .i64 0] 27)) := by (repeat (first | exact Below.refl _ _ | refine Below.alloc ?_ (by first | omega | (simp; done) | (simp; omega)) _ | refine Below.setCell ?_ (by first | omega | (simp; done) | (simp; omega)) _ | refine Below.drew ?_))
  have HALL := Lib.hid (rall17_any A n c l f q now size by_ none 0 0 [] _ hd hn rfl (by omega) (hle.up hBa) (Sl.nil0 _ _ _))
  have HO := Lib.hid ho
  have HNH := Lib.hid hnh
  have HAR := Lib.hid har
  have HDR := Lib.hid hdr
  have HDB := Lib.hid hdb
  have FR := Lib.hid (fun w' (hb : Below w.heap.size w w') => hlr.up hb)
  have FB := Lib.hid (fun w' (hb : Below w.heap.size w w') => hlb.up hb)
  clear hd hdr hdb hle hlr hlb ho hnh har
  go_enter Tryz.func6, Tryz.ntmps6
  go_wp2_with fail
  refine HALL.out.mono ?_
  clear HALL
  generalize w.alloc (.cells #[.slice none 0 0, .int .i64 0] 27) = w0 at *
  rintro e w1 ⟨v, R, rfl, hro, hs, hm, hb⟩
  have HG := Lib.hid (docR_goes (root := root) (bans := bans) hs hm)
  rw [HO.out] at HG
  obtain ⟨A1, n1, c1, L, rfl, h2, h3, h4, h5⟩ := hro.rl
  have hn1m := Nat.le_trans h4.cap h4.max
  unfold maxLen at hn1m
  have HL := Lib.hid h2
  have HR := Lib.hid h3
  have HH := Lib.hid (fun w' (hb : Below w1.heap.size w1 w') => h4.up hb)
  have HOK := Lib.hid h5
  replace hX := hX.below hb hX.lt
  have HB1 := Lib.hid (hBa.trans (hb.mono hBa.size))
  have HX := Lib.hid (fun w' (hb : Below w1.heap.size w1 w') => hX.below hb hX.lt)
  clear hro hs hm hb hBa h2 h3 h4 h5 hX
  go_wp2_with fail
  go_loopw [19] (fun iv wr => ∃ (i : Nat), iv = .int .i64 (i : Int) ∧ i ≤ n1 ∧ Hid (∀ j, j < i → goesB root bans (idsT (R.getD j ([], 0))) = false) ∧ Below w1.heap.size w1 wr) (fun iv _ => n1 - (intOf iv).toNat)
  case atStart => exact ⟨0, rfl, Nat.zero_le _, (fun j hj => by omega), Below.refl _ _⟩
  case round =>
    obtain ⟨i, rfl, hi, HN, hB⟩ := hrel
    have hsz := hB.size
    by_cases hin : i < n1
    · obtain ⟨ad, hA, hab, p0, p1⟩ := rl_cell HL.out (HH.out _ hB) hin
      subst hA
      obtain ⟨x, hx⟩ : ∃ x, gRx L i = x := ⟨_, rfl⟩
      have hxR : R.getD i ([], 0) = x.rt := by
        rw [← HR.out, ← hx, List.getD_eq_getElem?_getD, List.getElem?_map]
        unfold gRx
        rw [List.getD_eq_getElem?_getD, List.getElem?_eq_getElem (by rw [HL.out]; exact hin)]
        rfl
      rw [hx] at p0 p1
      obtain ⟨x1, x2, x3⟩ := (HOK.out x (by rw [← hx]; exact gRx_mem (by rw [HL.out]; exact hin))).below hB
      obtain ⟨⟨xA, xn, xc, xt⟩, xd⟩ := x
      have HXLn : Hid (xd.length = xn) := x1
      have hxm : xn ≤ 1000000 := x2
      have s0 : wr.cell? (ad.add (i * 2)) = some (.slice xA xn xc) := p0
      have s1 : wr.cell? ⟨(ad.add (i * 2)).block, (ad.add (i * 2)).off + 1, none⟩ = some (.int .i64 xt) := p1
      have x3' : Sl wr wr.heap.size 3 xA xn xc (flatHp xd) := x3
      have HXR : Hid (R.getD i ([], 0) = (xd, xt)) := hxR
      have HSX := Lib.hid (fun w' (hb : Below wr.heap.size wr w') => x3'.up hb)
      have HS0 := Lib.hid (fun w' (hb : Below wr.heap.size wr w') => rl_cell HL.out (HH.out _ (hB.trans (hb.mono hsz))) hin)
      have HGX := Lib.hid hx
      have hiI : (i : Int) < (n1 : Int) := by omega
      have HBW := Lib.hid hB
      clear hx hxR p0 p1 x1 x2 x3 x3' hB
      go_wp2_with fail
      refine (rids12_any xA xn xc xd xt wr HXLn.out hxm (HSX.out _ (Below.refl _ _))).mono ?_
      rintro e w4 ⟨vi, rfl, hown, hb⟩
      obtain ⟨Ai, ci, rfl⟩ := slice_of_own hown
      have HSI := Lib.hid (Sl.of_own hown)
      have HB4 := Lib.hid hb
      clear hown hb s0 s1
      obtain ⟨z, hz⟩ : ∃ z, goesB root bans (xd.map Hp.id) = z := ⟨_, rfl⟩
      have HZ := Lib.hid hz
      clear hz
      go_wp2_with fail
      refine (rbegins_any Ai xn ci (xd.map Hp.id) Ar nr cr root Ab nb cb bans w4 (by rw [List.length_map]; exact HXLn.out) hxm HDR.out hnr HDB.out hnb HSI.out (FR.out _ (HB1.out.trans ((HBW.out.trans (HB4.out.mono hsz)).mono HB1.out.size))) (FB.out _ (HB1.out.trans ((HBW.out.trans (HB4.out.mono hsz)).mono HB1.out.size))) z HZ.out).mono ?_
      rintro e w5 ⟨rfl, hb⟩
      have HB5 := Lib.hid (HB4.out.trans (hb.mono HB4.out.size))
      clear hb HB4 HSI
      cases z with
      | false =>
        have HN2 : Hid (∀ j, j < i + 1 → goesB root bans (idsT (R.getD j ([], 0))) = false) := fun j hj => by
          by_cases e : j = i
          · subst e; rw [HXR.out]; exact HZ.out
          · exact HN.out j (by omega)
        have HBF := Lib.hid (HBW.out.trans (HB5.out.mono HBW.out.size))
        clear HBW HB5 HS0 HSX
        go_wp2_with fail
        go_roundw
        case rel => exact ⟨i + 1, by go_num, by omega, HN2, HBF.out⟩
        case measure => simp [intOf]; omega
      | true =>
        have hfin : o = some (xd, xt) := by
          rw [← HG.out, find_at (i := i) (by rw [← HR.out, List.length_map, HL.out]; exact hin) HN.out (by rw [HXR.out]; exact HZ.out), HXR.out]
        subst hfin
        obtain ⟨ad', hA', _, p0, p1⟩ := HS0.out _ HB5.out
        injection hA' with hA'
        subst hA'
        rw [HGX.out] at p0 p1
        have s0 : w5.cell? (ad.add (i * 2)) = some (.slice xA xn xc) := p0
        have s1 : w5.cell? ⟨(ad.add (i * 2)).block, (ad.add (i * 2)).off + 1, none⟩ = some (.int .i64 xt) := p1
        have hbf := HBW.out.trans (HB5.out.mono HBW.out.size)
        have hX := HX.out _ hbf
        have hB := HB1.out.trans (hbf.mono HB1.out.size)
        have p4' := HSX.out _ HB5.out
        obtain rfl : xn = nh := by rw [← HNH.out, ← HXLn.out]; rfl
        obtain rfl : xt = ar := HAR.out
        have HOFF : Hid (0 < xn → ∀ ad, xA = some ad → ¬ (ad.block = w.heap.size)) := fun hp ad e hbk => by
          obtain ⟨ae, e2, _, _, _, c2⟩ := p4'.lst.atHp HXLn.out hp
          rw [e] at e2
          injection e2 with e2
          subst e2
          simp only [Nat.zero_mul, Addr.add_zero', hbk] at c2
          exact blok2_out hX (k := 0) c2
        have HSL := Lib.hid p4'
        have r0 : w5.cell? ⟨w.heap.size, 0, none⟩ = some (.slice none 0 0) := hX.cell 0
        have f_0 := hX.free 0
        have r1 : w5.cell? ⟨w.heap.size, 1, none⟩ = some (.int .i64 0) := hX.cell 1
        have f_1 := hX.free 1
        have lt_x := hX.lt
        have HXX := Lib.hid hX
        have HBX := Lib.hid hB
        clear hX hB p0 p1 p4' hbf HS0 HSX HX HBW HB5
        go_wp2_with fail
        have hX := HXX.out
        have hB := HBX.out
        clear r0 r1 s0 s1
        have hF : Blok ((w5.setCell ⟨w.heap.size, 0, none⟩ (.slice xA xn xc)).setCell ⟨w.heap.size, 1, none⟩ (.int .i64 xt)) w.heap.size 27 #[.slice xA xn xc, .int .i64 xt] := by have h := ((hX.set_ 0 (.slice xA xn xc)).set_ 1 (.int .i64 xt)); simpa using h
        have hle0 : w.heap.size ≤ w.heap.size := by first | exact Nat.le_refl _ | omega
        have hWf : Below w.heap.size w ((w5.setCell ⟨w.heap.size, 0, none⟩ (.slice xA xn xc)).setCell ⟨w.heap.size, 1, none⟩ (.int .i64 xt)) := ((hB.setCell (p := ⟨w.heap.size, 0, none⟩) hle0 (.slice xA xn xc)).setCell (p := ⟨w.heap.size, 1, none⟩) hle0 (.int .i64 xt))
        have hlF := hF.lt
        have hgw : w5.grownBy ((w5.setCell ⟨w.heap.size, 0, none⟩ (.slice xA xn xc)).setCell ⟨w.heap.size, 1, none⟩ (.int .i64 xt)) (some w.heap.size) := grown_trans (grown_set _ _ _) (grown_set _ _ _)
        generalize ((w5.setCell ⟨w.heap.size, 0, none⟩ (.slice xA xn xc)).setCell ⟨w.heap.size, 1, none⟩ (.int .i64 xt)) = wf at *
        have r0 : wf.cell? ⟨w.heap.size, 0, none⟩ = some (.slice xA xn xc) := hF.cell 0
        have r1 : wf.cell? ⟨w.heap.size, 1, none⟩ = some (.int .i64 xt) := hF.cell 1
        refine bodyPost_ret (v := .tuple #[.agg #[.slice xA xn xc, .int .i64 xt], .bool true]) (by simp [results, Tryz.results6, go_sem, r0, r1, hlF]) rfl ?_
        exact ⟨_, _, rfl, HSL.out.keptJ (Kept.of_grown hgw (fun k e _ => e)) (fun hp ad e he => HOFF.out hp ad e (Option.some.inj he).symm), hWf⟩
    · obtain rfl : i = n1 := by omega
      have hfin : o = none := by
        rw [← HG.out]
        exact find_no (fun j hj => HN.out j (by rw [← HR.out, List.length_map, HL.out] at hj; exact hj))
      subst hfin
      obtain rfl : 0 = nh := HNH.out
      obtain rfl : 0 = ar := HAR.out
      have hX := HX.out _ hB
      replace hB := HB1.out.trans (hB.mono HB1.out.size)
      have r0 : wr.cell? ⟨w.heap.size, 0, none⟩ = some (.slice none 0 0) := hX.cell 0
      have f_0 := hX.free 0
      have r1 : wr.cell? ⟨w.heap.size, 1, none⟩ = some (.int .i64 0) := hX.cell 1
      have f_1 := hX.free 1
      have lt_x := hX.lt
      have HXX := Lib.hid hX
      have HBX := Lib.hid hB
      clear hX hB HX
      go_wp2_with fail
      have hX := HXX.out
      have hB := HBX.out
      clear r0 r1
      have hF : Blok ((wr.setCell ⟨w.heap.size, 0, none⟩ (.slice none 0 0)).setCell ⟨w.heap.size, 1, none⟩ (.int .i64 0)) w.heap.size 27 #[.slice none 0 0, .int .i64 0] := by have h := ((hX.set_ 0 (.slice none 0 0)).set_ 1 (.int .i64 0)); simpa using h
      have hle0 : w.heap.size ≤ w.heap.size := by first | exact Nat.le_refl _ | omega
      have hWf : Below w.heap.size w ((wr.setCell ⟨w.heap.size, 0, none⟩ (.slice none 0 0)).setCell ⟨w.heap.size, 1, none⟩ (.int .i64 0)) := ((hB.setCell (p := ⟨w.heap.size, 0, none⟩) hle0 (.slice none 0 0)).setCell (p := ⟨w.heap.size, 1, none⟩) hle0 (.int .i64 0))
      have hlF := hF.lt
      have hgw : wr.grownBy ((wr.setCell ⟨w.heap.size, 0, none⟩ (.slice none 0 0)).setCell ⟨w.heap.size, 1, none⟩ (.int .i64 0)) (some w.heap.size) := grown_trans (grown_set _ _ _) (grown_set _ _ _)
      generalize ((wr.setCell ⟨w.heap.size, 0, none⟩ (.slice none 0 0)).setCell ⟨w.heap.size, 1, none⟩ (.int .i64 0)) = wf at *
      have r0 : wf.cell? ⟨w.heap.size, 0, none⟩ = some (.slice none 0 0) := hF.cell 0
      have r1 : wf.cell? ⟨w.heap.size, 1, none⟩ = some (.int .i64 0) := hF.cell 1
      refine bodyPost_ret (v := .tuple #[.agg #[.slice none 0 0, .int .i64 0], .bool false]) (by simp [results, Tryz.results6, go_sem, r0, r1, hlF]) rfl ?_
      exact ⟨_, _, rfl, Sl.nil0 _ _ _, hWf⟩
end Go.Proofs.YtmbaklodgpcegaaGreat
