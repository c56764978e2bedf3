/- Those that go are those whose End is not above the time, once or twice: ContactsExpires returns true. No condition. -/
import Derived.Test.YtojjnbpgdegjiaaRows
import Derived.Test.YtojjnbpgdegjiaaContactsMath
import Derived.Test.YtojjnbpgdegjiaaOpenS
namespace Go.Proofs.Ytojjnbpgdegjiaa
open Go.ChangeShapes Go.WideShapes Go.ChangeAt Go.RowKit Go.Sort
set_option linter.unusedSimpArgs false
set_option linter.unusedVariables false
theorem left_left {d : List Co} {a b : Int} (h : a ≤ b) : leftC (leftC d a) b = leftC d b := by
  unfold leftC
  rw [List.filter_filter]
  refine List.filter_congr fun x _ => ?_
  unfold overE
  by_cases h1 : x.en ≤ a
  · have : x.en ≤ b := by omega
    simp [h1, this]
  · simp [h1]
theorem gone_sum (d : List Co) {a b : Int} (h : a ≤ b) : (goneL d a).length + (goneL (leftC d a) b).length = (goneL d b).length := by
  unfold goneL leftC
  simp only [List.length_map]
  induction d with
  | nil => rfl
  | cons x d ih =>
    simp only [List.filter_cons]
    unfold overE at *
    by_cases h1 : x.en ≤ a
    · have h2 : x.en ≤ b := by omega
      simp [h1, h2] at ih ⊢
      omega
    · by_cases h2 : x.en ≤ b
      · simp [h1, h2] at ih ⊢
        omega
      · simp [h1, h2] at ih ⊢
        omega
theorem left_gone (d : List Co) (b : Int) : (leftC d b).length + (goneL d b).length = d.length := by
  unfold goneL leftC
  simp only [List.length_map]
  induction d with
  | nil => rfl
  | cons x d ih =>
    simp only [List.filter_cons]
    unfold overE at *
    by_cases h2 : x.en ≤ b
    · simp [h2] at ih ⊢
      omega
    · simp [h2] at ih ⊢
      omega
theorem gone_nodup {d : List Co} (h : rightC d = true) (b : Int) : (goneL d b).Pairwise (· ≠ ·) := by
  unfold goneL
  rw [List.pairwise_map]
  refine List.Pairwise.filter _ ?_
  rw [List.pairwise_iff_getElem]
  intro i j hi hj hij
  have := right_ids h hij hj
  rw [gCo_eq hi, gCo_eq hj] at this
  exact this
theorem sort_rises {d : List Co} (h : rightC d = true) (b : Int) {j : Nat} (hj : j + 1 < (sortI (goneL d b)).length) : (sortI (goneL d b)).getD j 0 < (sortI (goneL d b)).getD (j + 1) 0 := by
  have h1 : (sortI (goneL d b)).Pairwise (fun x y => decide (x ≤ y) = true) := List.pairwise_mergeSort (fun a b c h1 h2 => by simp at *; omega) (fun a b => by simp; omega) _
  have h2 : (sortI (goneL d b)).Pairwise (· ≠ ·) := (List.Perm.pairwise_iff (fun {x y} h e => h e.symm) (List.mergeSort_perm (goneL d b) _)).2 (gone_nodup h b)
  have a1 := List.pairwise_iff_getElem.1 h1 j (j + 1) (by omega) hj (by omega)
  have a2 := List.pairwise_iff_getElem.1 h2 j (j + 1) (by omega) hj (by omega)
  rw [List.getD_eq_getElem?_getD, List.getElem?_eq_getElem (by omega), List.getD_eq_getElem?_getD, List.getElem?_eq_getElem hj]
  simp at a1 ⊢
  omega
theorem sort_found {d : List Co} (h : rightC d = true) (b : Int) {j : Nat} (hj : j < (sortI (goneL d b)).length) : ∃ q, q < d.length ∧ (∀ i, i < q → ((gCo d i).id == (sortI (goneL d b)).getD j 0) = false) ∧ ((gCo d q).id == (sortI (goneL d b)).getD j 0) = true ∧ (gCo d q).en ≤ b := by
  rw [List.getD_eq_getElem?_getD, List.getElem?_eq_getElem hj]
  have hm : (sortI (goneL d b))[j] ∈ goneL d b := (List.mergeSort_perm (goneL d b) _).mem_iff.1 (List.getElem_mem hj)
  unfold goneL at hm
  obtain ⟨x, hx, he⟩ := List.mem_map.1 hm
  obtain ⟨hx1, hx2⟩ := List.mem_filter.1 hx
  obtain ⟨q, hq, rfl⟩ := mem_gCo hx1
  refine ⟨q, hq, fun i hi => ?_, ?_, by simpa [overE] using hx2⟩
  · rw [beq_eq_false_iff_ne]
    intro e
    exact right_ids h hi hq (by rw [e, he]; rfl)
  · rw [beq_iff_eq, he]; rfl
set_option maxHeartbeats 8000000 in
set_option maxRecDepth 100000 in
theorem expires_walk (A : Option Addr) (n c : Nat) (d : List Co) (now later : Int) (hd : d.length = n) (w : World) (hl : Sl w w.heap.size 6 A n c (flatCo d)) :
    Calls Try.prog 6 #[.slice A n c, .int .i64 now, .int .i64 later] w fun e w' => e = .returned (.bool true) ∧ Below w.heap.size w w' := by
  by_cases hn : 50 < n
  · go_enter Try.func6, Try.ntmps6
    go_wp2_with fail
    refine (small06 _).mono ?_
    rintro e w1 ⟨rfl, hB⟩
    go_wp2
    go_ret
    exact ⟨rfl, hB⟩
  · have g1 : decide ((n : Int) > 50) = false := by simp; omega
    have hn50 : n ≤ 50 := by omega
    go_enter Try.func6, Try.ntmps6
    go_wp2_with fail
    refine (small06 _).mono ?_
    rintro e w1 ⟨rfl, hB⟩
    replace hl := hl.below hB
    have hs := hB.size
    go_wp2_with fail
    refine (right_any A n c d w1 hd (by omega) (hl.more hs)).mono ?_
    rintro e w2 ⟨rfl, hb⟩
    replace hl := hl.below (hb.mono hs)
    replace hB := hB.trans (hb.mono hs)
    clear hb
    replace hs := hB.size
    cases hrt : rightC d
    · go_wp2_with fail
      go_ret
      exact ⟨rfl, hB⟩
    · by_cases hln : later < now
      · go_wp2_with fail
        go_ret
        exact ⟨rfl, hB⟩
      · have g2 : decide (later < now) = false := by simp; omega
        have hle : now ≤ later := by omega
        obtain ⟨la, hla⟩ : ∃ la, leftC d now = la := ⟨_, rfl⟩
        obtain ⟨lc, hlc⟩ : ∃ lc, leftC d later = lc := ⟨_, rfl⟩
        obtain ⟨gx, hgx⟩ : ∃ g, goneL d now = g := ⟨_, rfl⟩
        obtain ⟨gy, hgy⟩ : ∃ g, goneL la later = g := ⟨_, rfl⟩
        obtain ⟨gz, hgz⟩ : ∃ g, goneL d later = g := ⟨_, rfl⟩
        have hll : leftC la later = lc := by rw [← hla, left_left hle, hlc]
        have hsum : gx.length + gy.length = gz.length := by rw [← hgx, ← hgy, ← hgz, ← hla]; exact gone_sum d hle
        have hlcn : lc.length + gz.length = n := by rw [← hlc, ← hgz, ← hd]; exact left_gone d later
        have hlan : la.length ≤ n := by rw [← hla, ← hd]; exact List.length_filter_le _ _
        obtain ⟨zs, hzs⟩ : ∃ zs, sortI gz = zs := ⟨_, rfl⟩
        have hzl : zs.length = gz.length := by rw [← hzs]; exact sortI_length gz
        have hri : ∀ j, j + 1 < zs.length → zs.getD j 0 < zs.getD (j + 1) 0 := fun j hj => by
          rw [← hzs, ← hgz] at hj ⊢
          exact sort_rises hrt later hj
        have hfd : ∀ j, j < zs.length → ∃ q, q < d.length ∧ (∀ i, i < q → ((gCo d i).id == zs.getD j 0) = false) ∧ ((gCo d q).id == zs.getD j 0) = true ∧ (gCo d q).en ≤ later := fun j hj => by
          rw [← hzs, ← hgz] at hj ⊢
          exact sort_found hrt later hj
        have e1 := expire_any A n c d now w2 hd (by omega) (hl.more hs)
        unfold ExpPost at e1
        rw [hla, hgx] at e1
        have HD := Lib.hid hd
        have HLL := Lib.hid hll
        have HGY := Lib.hid hgy
        have HGZ := Lib.hid hgz
        have HLC := Lib.hid hlc
        have HZS := Lib.hid hzs
        have HRI := Lib.hid hri
        have HFD := Lib.hid hfd
        have HSUM := Lib.hid hsum
        have HLCN := Lib.hid hlcn
        have HZL := Lib.hid hzl
        have HE1 := Lib.hid e1
        clear hll hgy hgz hlc hzs hri hfd hsum hlcn hzl hla hgx e1 hrt hd g1 hln
        go_wp2_with fail
        refine HE1.out.mono ?_
        rintro e w3 ⟨va, ux, rfl, hva, hux, hb⟩
        replace hl := hl.below (hb.mono hs)
        replace hB := hB.trans (hb.mono hs)
        replace hs := hB.size
        clear hb HE1
        obtain ⟨Aa, ca, rfl⟩ := slice_of_own hva
        obtain ⟨Ax, cx, rfl⟩ := slice_of_own hux
        have e2 := expire_any Aa la.length ca la later w3 rfl (by omega) (Sl.of_own hva)
        unfold ExpPost at e2
        rw [HLL.out, HGY.out] at e2
        have HE2 := Lib.hid e2
        clear e2 hux hva
        go_wp2_with fail
        refine HE2.out.mono ?_
        rintro e w4 ⟨vb, uy, rfl, hvb, huy, hb⟩
        replace hl := hl.below (hb.mono hs)
        replace hB := hB.trans (hb.mono hs)
        replace hs := hB.size
        clear hb HE2
        obtain ⟨Ab, cb, rfl⟩ := slice_of_own hvb
        obtain ⟨Ay, cy, rfl⟩ := slice_of_own huy
        have e3 := expire_any A n c d later w4 HD.out (by omega) (hl.more hs)
        unfold ExpPost at e3
        rw [HLC.out, HGZ.out, HZS.out] at e3
        have HE3 := Lib.hid e3
        clear e3 huy
        go_wp2_with fail
        refine HE3.out.mono ?_
        rintro e w5 ⟨vc, uz, rfl, hvc, huz, hb⟩
        replace hl := hl.below (hb.mono hs)
        replace hvb := own_below hvb hb
        replace hB := hB.trans (hb.mono hs)
        replace hs := hB.size
        clear hb HE3
        obtain ⟨Ac, cc, rfl⟩ := slice_of_own hvc
        obtain ⟨Az, cz, rfl⟩ := slice_of_own huz
        obtain ⟨nc, hnc⟩ : ∃ nc, lc.length = nc := ⟨_, rfl⟩
        obtain ⟨nz, hnz⟩ : ∃ nz, gz.length = nz := ⟨_, rfl⟩
        obtain ⟨nx, hnx⟩ : ∃ nx, gx.length = nx := ⟨_, rfl⟩
        obtain ⟨ny, hny⟩ : ∃ ny, gy.length = ny := ⟨_, rfl⟩
        obtain ⟨na, hna⟩ : ∃ na, la.length = na := ⟨_, rfl⟩
        rw [hnc] at hvb hvc ⊢
        rw [hnz] at huz ⊢
        rw [hnx, hny, hna]
        have hq1 : nx + ny = nz := by have := HSUM.out; omega
        have hq2 : nc + nz = n := by have := HLCN.out; omega
        have hq3 : zs.length = nz := by have := HZL.out; omega
        have HNC := Lib.hid hnc
        have HNZ := Lib.hid hnz
        have HQ1 := Lib.hid hq1
        have HQ2 := Lib.hid hq2
        have HQ3 := Lib.hid hq3
        have HL := Lib.hid hl
        have HVB := Lib.hid hvb
        have HVC := Lib.hid hvc
        have HUZ := Lib.hid huz
        have hnzn : nz ≤ n := by omega
        have hncn : nc ≤ n := by omega
        clear hnc hnz hnx hny hna hq1 hq2 hq3 hl hvb hvc huz hlan
        go_wp2
        go_loop [14, 15] (fun nv iv => ∃ k : Nat, k ≤ n ∧ iv = .int .i64 k ∧ nv = .int .i64 ((goneL (d.take k) later).length : Nat)) (fun _ iv => n - (intOf iv).toNat)
        case atStart => exact ⟨0, by omega, rfl, rfl⟩
        case round =>
          obtain ⟨k, hk, rfl, rfl⟩ := hrel
          by_cases hkn : k < n
          · obtain ⟨ad, rfl, hab, c0, c1, c2, c3, c4, c5⟩ := HL.out.lst.atCo HD.out hkn
            have hnext := goneL_next (d := d) (k := k) later (by have := HD.out; omega)
            obtain ⟨x, hx⟩ : ∃ x, gCo d k = x := ⟨_, rfl⟩
            rw [hx] at hnext c4
            have hlen := goneL_len d later k
            have hn2 : (goneL (d.take (k + 1)) later).length = (goneL (d.take k) later).length + (if overE later x = true then 1 else 0) := by
              rw [hnext]
              cases overE later x <;> simp
            have HN2 := Lib.hid hn2
            clear c0 c1 c2 c3 c5 hx hnext hn2
            by_cases hov : x.en ≤ later
            · have ho : overE later x = true := by simp [overE, hov]
              have HO := Lib.hid ho
              clear ho
              go_wp2
              go_round
              case rel => exact ⟨k + 1, by omega, by go_num, by rw [HN2.out, HO.out]; go_num⟩
              case measure => simp [intOf]; omega
            · have ho : overE later x = false := by simp [overE]; omega
              have HO := Lib.hid ho
              clear ho
              go_wp2
              go_round
              case rel => exact ⟨k + 1, by omega, by go_num, by rw [HN2.out, HO.out]; rfl⟩
              case measure => simp [intOf]; omega
          · obtain rfl : k = n := by omega
            have hdk : (goneL (d.take k) later).length = nz := by
              rw [List.take_of_length_le (by have := HD.out; omega), HGZ.out]; exact HNZ.out
            rw [hdk]
            clear hdk
            go_wp2
            go_loopw [16] (fun iv wr => ∃ j : Nat, j ≤ nz ∧ iv = .int .i64 j ∧ Below w5.heap.size w5 wr) (fun iv _ => nz - (intOf iv).toNat)
            case atStart => exact ⟨0, by omega, rfl, Below.refl _ _⟩
            case round =>
              obtain ⟨j, hj, rfl, hb⟩ := hrel
              have hsz := hb.size
              have hzr := own_below HUZ.out hb
              have hsr := Nat.le_trans hs hsz
              by_cases hjn : j < nz
              · obtain ⟨q, hq, hq1, hq2, hq3⟩ := HFD.out j (by have := HQ3.out; omega)
                obtain ⟨az, haz, habz, z0⟩ := (Sl.of_own hzr).lst.atI HQ3.out hjn
                subst haz
                obtain ⟨z, hz⟩ : ∃ z, zs.getD j 0 = z := ⟨_, rfl⟩
                rw [hz] at z0 hq1 hq2
                obtain ⟨x, hx⟩ : ∃ x, gCo d q = x := ⟨_, rfl⟩
                rw [hx] at hq3
                have HX := Lib.hid hx
                have HZ := Lib.hid hz
                have HF1 := Lib.hid hq1
                have HF2 := Lib.hid hq2
                have hqk : q < k := by have := HD.out; omega
                have HZR := Lib.hid hzr
                clear hx hz hq1 hq2 hq hzr
                go_wp2_with fail
                clear z0
                refine (find_yes A k c d z wr q HD.out (by omega) ((HL.out.below (hb.mono hs)).more hsr) hqk HF1.out HF2.out).mono ?_
                rw [HX.out]
                rintro e w7 ⟨rfl, hb7⟩
                have hb8 := hb.trans (hb7.mono hsz)
                have hzr7 := own_below HZR.out hb7
                have hs7 := hb8.size
                clear hb hb7 HZR
                go_wp2_with fail
                have hXx := Blok.new w7 28 #[.int .i64 x.id, .int .i64 x.fr, .int .i64 x.tn, .int .i64 x.st, .int .i64 x.en, .int .i64 x.rt]
                have hba : Below w7.heap.size w7 (w7.alloc (.cells #[.int .i64 x.id, .int .i64 x.fr, .int .i64 x.tn, .int .i64 x.st, .int .i64 x.en, .int .i64 x.rt] 28)) := by (repeat (first | exact Below.refl _ _ | refine Below.alloc ?_ (by first | omega | (simp; done) | (simp; omega)) _ | refine Below.setCell ?_ (by first | omega | (simp; done) | (simp; omega)) _ | refine Below.drew ?_))
                have hzr8 := own_below hzr7 hba
                have hb9 := hb8.trans (hba.mono hs7)
                have hs9 := hb9.size
                clear hzr7 hb8 hba
                generalize hbb : w7.heap.size = bb at *
                generalize w7.alloc (.cells #[.int .i64 x.id, .int .i64 x.fr, .int .i64 x.tn, .int .i64 x.st, .int .i64 x.en, .int .i64 x.rt] 28) = w8 at *
                clear hbb
                have b4 : w8.cell? ⟨bb, 4, none⟩ = some (.int .i64 x.en) := hXx.cell 4
                have hbl := hXx.lt
                have hdx : decide (later < x.en) = false := by simp; omega
                obtain ⟨az', haz, habz', z0⟩ := (Sl.of_own hzr8).lst.atI HQ3.out hjn
                injection haz with haz
                subst haz
                rw [HZ.out] at z0
                have habw : az.block < w8.heap.size := habz'
                have HZR8 := Lib.hid hzr8
                clear hXx
                have hcase : j = 0 ∨ ∃ p, j = p + 1 := by cases j with | zero => exact .inl rfl | succ p => exact .inr ⟨p, rfl⟩
                rcases hcase with rfl | ⟨p, hp⟩
                · have hd0 : decide (((0 : Nat) : Int) > 0) = false := by simp
                  clear hzr8
                  have q_b4 := fun d os => cell_regrown b4 d os
                  have q_z0 := fun d os => cell_regrown z0 d os
                  try simp only [List.append]
                  first | refine wp_region_text_below ?_ | refine wp_region_quiet_below (by kernel_rfl) (by kernel_rfl) ?_
                  repeat (go_big_quiet_step ((fail)))
                  refine wpQuiet_nil ?_
                  intro _ hqw
                  obtain ⟨pq, hqw⟩ := hqw
                  subst hqw
                  clear q_b4 q_z0
                  have hb10 := hb9.trans ((below_regrown w8 pq.d pq.os).mono hs9)
                  clear b4 z0 hb9
                  generalize grow (redrawn w8 pq.d) pq.os = wq at *
                  go_wp2
                  go_roundw
                  case rel => exact ⟨0 + 1, by omega, by go_num, hb10⟩
                  case measure => simp [intOf]; omega
                · have hd0 : decide (0 < j) = true := decide_eq_true (by omega)
                  have hsub : (j : Int) - 1 = (p : Int) := by omega
                  have hwr : IntKind.i64.wrap (p : Int) = (p : Int) := IntWalk.i64_in _ (by omega)
                  have hpn : p < nz := by omega
                  have hpi : (p : Int) < (nz : Int) := by omega
                  have hp0 : (0 : Int) ≤ (p : Int) := by omega
                  obtain ⟨az', haz, habz2, y0⟩ := (Sl.of_own hzr8).lst.atI HQ3.out (k := p) (by omega)
                  injection haz with haz
                  subst haz
                  have hr := HRI.out p (by have := HQ3.out; omega)
                  rw [← hp, HZ.out] at hr
                  obtain ⟨y, hy⟩ : ∃ y, zs.getD p 0 = y := ⟨_, rfl⟩
                  rw [hy] at y0 hr
                  have hdz : decide (z ≤ y) = false := by simp; omega
                  have HP := Lib.hid hp
                  clear hy hzr8 hp hr
                  have q_b4 := fun d os => cell_regrown b4 d os
                  have q_z0 := fun d os => cell_regrown z0 d os
                  have q_y0 := fun d os => cell_regrown y0 d os
                  try simp only [List.append]
                  first | refine wp_region_text_below ?_ | refine wp_region_quiet_below (by kernel_rfl) (by kernel_rfl) ?_
                  repeat (go_big_quiet_step ((fail)))
                  refine wpQuiet_nil ?_
                  intro _ hqw
                  obtain ⟨pq, hqw⟩ := hqw
                  subst hqw
                  clear q_b4 q_z0 q_y0
                  clear hsub hwr hpi hp0
                  have hb10 := hb9.trans ((below_regrown w8 pq.d pq.os).mono hs9)
                  clear b4 z0 y0 hb9
                  generalize grow (redrawn w8 pq.d) pq.os = wq at *
                  go_wp2
                  go_roundw
                  case rel => exact ⟨j + 1, by omega, by go_num, hb10⟩
                  case measure => simp [intOf]; omega
              · obtain rfl : j = nz := by omega
                have t0 : IntKind.i64.wrap ((nx : Int) + (ny : Int)) = (nx : Int) + (ny : Int) := IntWalk.i64_in _ (by have := HQ1.out; omega)
                have t0' : (nx : Int) + (ny : Int) = (j : Int) := by have := HQ1.out; omega
                have hnx0 : (nx : Int) ≤ 100 := by have := HQ1.out; omega
                have hny0 : (ny : Int) ≤ 100 := by have := HQ1.out; omega
                have t2 : ((nc : Int) == (k : Int) - (j : Int)) = true := by have := HQ2.out; simp; omega
                clear hzr
                have hvb6 := own_below HVB.out hb
                have hvc6 := own_below HVC.out hb
                have hB6 := hB.trans (hb.mono hs)
                have hs6 := hB6.size
                clear hb HVB HVC HUZ
                go_wp2_with fail
                refine (same_any Ab Ac nc cb nc cc lc lc wr HNC.out HNC.out (by omega) (by omega) (Sl.of_own hvb6) (Sl.of_own hvc6)).mono ?_
                rw [decide_eq_true (rfl : lc = lc)]
                rintro e w9 ⟨rfl, hb9⟩
                have hB9 := hB6.trans (hb9.mono hs6)
                clear hvb6 hvc6 hb9
                go_wp2
                go_ret
                exact ⟨rfl, hB9⟩
theorem contactsExpires_walk (A : Option Addr) (n c : Nat) (ns : List Int) (now later : Int) (hnl : ns.length = n * 6) (_ : ∀ m ∈ ns, (Lit.int .i64 m).wf = true) (_ : (Lit.int .i64 now).wf = true) (_ : (Lit.int .i64 later).wf = true) (w : World) (hl : Sl w w.heap.size 6 A n c (ns.map (Value.int .i64))) :
    Calls Try.prog 6 #[.slice A n c, .int .i64 now, .int .i64 later] w fun e w' => e = .returned (.bool true) ∧ Below w.heap.size w w' := by
  obtain ⟨d, hd, hlf⟩ := rowsCo_of n ns hnl
  rw [hlf] at hl
  exact expires_walk A n c d now later hd w hl
theorem contactsExpires_own : ownKnob Try.prog.godebug = none := by kernel_rfl
theorem contactsExpires_laidOut : laidOutB Try.prog = true := by kernel_rfl

set_option maxHeartbeats 1000000 in
set_option maxRecDepth 100000 in
theorem contactsExpires_lifted (os : Os) (started : os.Started) (H : Type) (enc : TypeId × Value → H) :
    ReturnsInHanded {} Try.checked os 6 .any (Rows.contactsExpiresSpec.pre6 enc Try.prog Try.f6 Rows.contactsExpiresRow.domain false) (Rows.contactsExpiresSpec.post enc Try.prog Try.f6 false true false false) := by
  refine returnsInHanded_of_change (C := Try.checked) contactsExpires_own started (by kernel_rfl) Try.func6
    (ChangeSpec.witness6 (enc := enc) (C := Try.checked) false ⟨#[], #[.slice none 0 0, .int .i64 0, .int .i64 0], []⟩ 8 (by kernel_rfl) (by kernel_rfl) (by kernel_rfl) (by kernel_rfl)) ?_
  intro W base args ds gs before hval0 hW hcnd _
  have hval : ∀ (j : Nat) t v, Try.f6.params[j]? = some t → args[j]? = some v → Value.okWide Try.prog W .any base t v := hval0
  have hW' := hW
  obtain ⟨p, q, hA0, hV, rfl, hfz, hnd⟩ := hW
  have hA : DataW.TrodAll enc Try.prog W 0 (fun _ => true) true Try.f6.params.toList args.toList ds p := hA0
  rw [Try.params6] at hA hval
  obtain ⟨v0, vs0, d0, ds0, p0, q0, hargs, rfl, rfl, h0, r0⟩ := trodAll_cons hA
  obtain ⟨v1, vs1, d1, ds1, p1, q1, rfl, rfl, rfl, h1, r1⟩ := trodAll_cons r0
  obtain ⟨v2, vs2, d2, ds2, p2, q2, rfl, rfl, rfl, h2, r2⟩ := trodAll_cons r1
  obtain ⟨rfl, rfl, rfl⟩ := trodAll_nil r2
  obtain rfl : args = #[v0, v1, v2] := by cases args; simp_all
  obtain ⟨rfl, rfl⟩ := trodVars_none hV
  obtain ⟨A0, n0, c0, ns0, rfl, hl0, nl0, w0⟩ := open_rowsS 4 (K := 6) Try.underlying22 (by kernel_rfl) (by kernel_rfl) (by omega) (hval 0 22 v0 rfl rfl) h0
  obtain ⟨a1, rfl, rfl, rfl, w1⟩ := open_int Try.underlying3 (hval 1 3 v1 rfl rfl) h1
  obtain ⟨a2, rfl, rfl, rfl, w2⟩ := open_int Try.underlying3 (hval 2 3 v2 rfl rfl) h2
  clear hA0 hval0
  refine (contactsExpires_walk A0 n0 c0 ns0 a1 a2 nl0 w0 w1 w2 W hl0).mono fun e W' ⟨he, bel⟩ => ?_
  subst he
  exact ⟨_, rfl, law_post contactsExpires_laidOut (by kernel_rfl) rfl Try.underlying4 rfl rfl hW' bel⟩

theorem contactsExpires_proved : Rows.ContactsExpiresSaid :=
  OpenClaim.holds_of_wide 6 Try.f6 rfl rfl rfl rfl rfl rfl rfl ⟨rfl, rfl, rfl, rfl, rfl⟩ rfl rfl rfl rfl rfl (by kernel_rfl) Try.func6 (by kernel_rfl)
    (of_decide_eq_true (by kernel_rfl)) (by unfold Func.isWrapper; first | (rw [if_pos (by decide +kernel)]; kernel_rfl) | (rw [if_neg (by decide +kernel)]; exact ⟨rfl, rfl⟩))
    (fun os started H enc _ => contactsExpires_lifted os started H enc)
#print axioms contactsExpires_proved
end Go.Proofs.Ytojjnbpgdegjiaa
