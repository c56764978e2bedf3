/- The document's own path: Unlike, Route. They make new memory alone. -/
import Derived.Test.YtmbaklodgpcegaaGreatRef12c
namespace Go.Proofs.YtmbaklodgpcegaaGreat
open Go.ChangeShapes Go.WideShapes Go.ChangeAt Go.RowKit Go.Sort
set_option linter.unusedSimpArgs false
set_option linter.unusedVariables false
theorem nodup_of {l : List Int} (h : ∀ a, a < l.length → ∀ b, b < a → l.getD b 0 ≠ l.getD a 0) : l.Nodup := by
  rw [List.Nodup, List.pairwise_iff_getElem]
  intro i j hi hj hij
  have := h j hj i hij
  rw [List.getD_eq_getElem?_getD, List.getD_eq_getElem?_getD, List.getElem?_eq_getElem hj, List.getElem?_eq_getElem hi] at this
  exact this
set_option maxHeartbeats 4000000 in
set_option maxRecDepth 100000 in
theorem runlike12_any (A : Option Addr) (n c : Nat) (l : List Int) (w : World) (hd : l.length = n) (hn : n ≤ 1000000) (h : Sl w w.heap.size 1 A n c (l.map (Value.int .i64))) (v : Bool) (hv : decide l.Nodup = v) :
    Calls Tryz.prog 60 #[.slice A n c] w fun e w' => e = .returned (.bool v) ∧ Below w.heap.size w w' := by
  have HD := Lib.hid hd
  have HV := Lib.hid hv
  have HFI : Hid (∀ w', Below w.heap.size w w' → Sl w' w'.heap.size 1 A n c (l.map (Value.int .i64))) := fun w' hb => h.up hb
  clear hd hv h
  go_enter Tryz.func60, Tryz.ntmps60
  go_wp2
  go_loopw [3] (fun iv wr => ∃ (i : Nat), iv = .int .i64 i ∧ i ≤ n ∧ Hid (∀ a, a < i → ∀ b, b < a → l.getD b 0 ≠ l.getD a 0) ∧ Below w.heap.size w wr) (fun iv _ => n - (intOf iv).toNat)
  case atStart => exact ⟨0, rfl, by omega, (fun a ha => by omega), Below.refl _ _⟩
  case round =>
    obtain ⟨i, rfl, hi, HN, hB⟩ := hrel
    by_cases hin : i < n
    · go_wp2_with fail
      have HB := Lib.hid hB
      clear hB
      go_loopw [4] (fun kv wx => ∃ (k : Nat), kv = .int .i64 k ∧ k ≤ i ∧ Hid (∀ b, b < k → l.getD b 0 ≠ l.getD i 0) ∧ Below w.heap.size w wx) (fun kv _ => i - (intOf kv).toNat)
      case atStart => exact ⟨0, rfl, by omega, (fun a ha => by omega), HB.out⟩
      case round =>
        clear HB
        obtain ⟨k, rfl, hk, HK, hB⟩ := hrel
        have hs := hB.size
        by_cases hki : k < i
        · obtain ⟨ad, hae, hab, c0⟩ := (HFI.out wr hB).lst.atI HD.out (show k < n by omega)
          obtain ⟨ad', hae', _, c1⟩ := (HFI.out wr hB).lst.atI HD.out hin
          subst hae
          injection hae' with hae'
          subst hae'
          obtain ⟨u, hu⟩ : ∃ v, l.getD k 0 = v := ⟨_, rfl⟩
          obtain ⟨t, ht⟩ : ∃ v, l.getD i 0 = v := ⟨_, rfl⟩
          rw [hu] at c0
          rw [ht] at c1
          have t8 : (k : Int) < (n : Int) := by omega
          have t9 : (i : Int) < (n : Int) := by omega
          by_cases he : u = t
          · have hf : v = false := by
              rw [← HV.out]
              apply decide_eq_false
              intro hnd
              exact nodup_ne hnd hki (by rw [HD.out]; exact hin) (by rw [hu, ht]; exact he)
            have g1 : (u == t) = true := by simp [he]
            subst hf
            clear hu ht he
            go_wp2_with fail
            have q_c0 := fun d os => cell_regrown c0 d os
            have q_c1 := fun d os => cell_regrown c1 d os
            try simp only [List.append]
            first | refine wp_region_text_below ?_ | refine wp_region_quiet_below (by kernel_rfl) (by kernel_rfl) ?_
            repeat (go_big_quiet_step ((fail)))
            refine wpQuiet_nil ?_
            intro _ hqw
            obtain ⟨pq, hqw⟩ := hqw
            subst hqw
            clear q_c0 q_c1
            have hbq := hB.trans ((below_regrown wr pq.d pq.os).mono hs)
            generalize grow (redrawn wr pq.d) pq.os = wq at *
            go_wp2
            go_ret
            exact ⟨rfl, hbq⟩
          · have g1 : (u == t) = false := by simp [he]
            have HK2 : Hid (∀ b, b < k + 1 → l.getD b 0 ≠ l.getD i 0) := fun b hb => by
              by_cases e : b = k
              · subst e; rw [hu, ht]; exact he
              · exact HK.out b (by omega)
            clear hu ht he
            go_wp2_with fail
            have q_c0 := fun d os => cell_regrown c0 d os
            have q_c1 := fun d os => cell_regrown c1 d os
            try simp only [List.append]
            first | refine wp_region_text_below ?_ | refine wp_region_quiet_below (by kernel_rfl) (by kernel_rfl) ?_
            repeat (go_big_quiet_step ((fail)))
            refine wpQuiet_nil ?_
            intro _ hqw
            obtain ⟨pq, hqw⟩ := hqw
            subst hqw
            clear q_c0 q_c1
            have hbq := hB.trans ((below_regrown wr pq.d pq.os).mono hs)
            clear c0 c1 g1 t8 t9 hB hs
            generalize grow (redrawn wr pq.d) pq.os = wq at *
            go_wp2_with fail
            go_roundw
            case rel => exact ⟨k + 1, by go_num, by omega, HK2, hbq⟩
            case measure => simp [intOf]; omega
        · obtain rfl : k = i := by omega
          have HN2 : Hid (∀ a, a < k + 1 → ∀ b, b < a → l.getD b 0 ≠ l.getD a 0) := fun a ha b hb => by
            by_cases e : a = k
            · subst e; exact HK.out b hb
            · exact HN.out a (by omega) b hb
          go_wp2_with fail
          go_roundw
          case rel => exact ⟨k + 1, by go_num, by omega, HN2, hB⟩
          case measure => simp [intOf]; omega
    · obtain rfl : i = n := by omega
      have hf : v = true := by
        rw [← HV.out]
        exact decide_eq_true (nodup_of (fun a ha => HN.out a (by rw [HD.out] at ha; exact ha)))
      subst hf
      go_wp2
      go_ret
      exact ⟨rfl, hB⟩
/-- What the document's own route says, by its walk and its ends. -/
theorem route_of_walk {d : List Ed} {ids : List Int} {q tt now size : Int} : routeE d ids q tt now size = match walkE d ids q now size, endsE d ids q with
    | some hs, some ns => if nodeB tt = true ∧ ns.Nodup ∧ ns.getD (ns.length - 1) 0 = tt then some (hs, arrE now hs) else none
    | _, _ => none := by
  cases hw : walkE d ids q now size with
  | none =>
    show _ = none
    unfold walkE at hw
    unfold routeE
    split
    · rename_i ha
      rw [if_pos ha.1] at hw
      cases hf : followE d ids q with
      | none => rfl
      | some es =>
        rw [hf] at hw
        simp only [Option.bind_some] at hw ⊢
        split
        · rw [hw]; rfl
        · rfl
    · rfl
  | some hs =>
    obtain ⟨es, ha, hf, hp⟩ := walkE_some hw
    rw [endsE_of (askE_ends ha) hf]
    show _ = if nodeB tt = true ∧ (nodesE q es).Nodup ∧ (nodesE q es).getD ((nodesE q es).length - 1) 0 = tt then some (hs, arrE now hs) else none
    unfold routeE
    by_cases hn : nodeB tt = true
    · rw [if_pos ⟨ha, hn⟩, hf]
      simp only [Option.bind_some]
      by_cases hl : leadE (nodesE q es) tt = true
      · rw [if_pos hl, if_pos ⟨hn, leadE_spec.1 hl⟩, hp]; rfl
      · rw [if_neg hl, if_neg (fun h => hl (leadE_spec.2 h.2))]
    · rw [if_neg (fun h => hn h.2), if_neg (fun h => hn h.1)]
theorem ends_len {d : List Ed} {ids : List Int} {q : Int} {ns : List Int} (h : endsE d ids q = some ns) : ns.length = ids.length + 1 := by
  unfold endsE at h
  split at h
  · cases hf : followE d ids q with
    | none => rw [hf] at h; cases h
    | some es => rw [hf] at h; simp at h; rw [← h, nodesE_len, followE_len hf]
  · cases h
theorem ends_of_walk {d : List Ed} {ids : List Int} {q now size : Int} {hs : List Hp} (h : walkE d ids q now size = some hs) : ∃ ns, endsE d ids q = some ns ∧ hs.length = ids.length ∧ askE d q now size = true := by
  obtain ⟨es, ha, hf, hp⟩ := walkE_some h
  exact ⟨_, endsE_of (askE_ends ha) hf, by rw [passE_len hp, followE_len hf], ha⟩
set_option maxHeartbeats 8000000 in
set_option maxRecDepth 100000 in
theorem rRoute12_any (A : Option Addr) (n c : Nat) (d : List Ed) (A' : Option Addr) (m c' : Nat) (ids : List Int) (q tt now size : Int) (w : World) (hd : d.length = n) (hn : n ≤ 1000000) (hi : ids.length = m) (hm : m ≤ 1000000 - 1) (h : Sl w w.heap.size 8 A n c (flatEd d)) (h' : Sl w w.heap.size 1 A' m c' (ids.map (Value.int .i64))) (o : Option (List Hp × Int)) (ho : routeE d ids q tt now size = o) (hs : List Hp) (hhs : hopsO o = hs) (ar : Int) (har : arrO o = ar) :
    Calls Tryz.prog 40 #[.slice A n c, .slice A' m c', .int .i64 q, .int .i64 tt, .int .i64 now, .int .i64 size] w fun e w' => ∃ v, e = .returned (.tuple #[.agg #[v, .int .i64 ar], .bool o.isSome]) ∧ w'.ownsRow w.heap.size 42 3 v hs.length (flatHp hs) ∧ Below w.heap.size w w' := by
  subst hhs
  subst har
  have hX := Blok.new w 27 #[.slice none 0 0, .int .i64 0]
  have hBa : Below w.heap.size w (w.alloc (.cells #[.slice none 0 0, .int .i64 0] 27)) := by (repeat (first | exact Below.refl _ _ | refine Below.alloc ?_ (by first | omega | (simp; done) | (simp; omega)) _ | refine Below.setCell ?_ (by first | omega | (simp; done) | (simp; omega)) _ | refine Below.drew ?_))
  have hl := h.up hBa
  have hl' := h'.up hBa
  obtain ⟨ow, how⟩ : ∃ x, walkE d ids q now size = x := ⟨_, rfl⟩
  obtain ⟨oe, hoe⟩ : ∃ x, endsE d ids q = x := ⟨_, rfl⟩
  have hro := ho
  rw [route_of_walk, how, hoe] at hro
  have HD := Lib.hid hd
  have HI := Lib.hid hi
  have HRO := Lib.hid hro
  have HOW := Lib.hid how
  have HOE := Lib.hid hoe
  clear hd hi h h' ho how hoe hro
  go_enter Tryz.func40, Tryz.ntmps40
  go_wp2_with fail
  generalize w.alloc (.cells #[.slice none 0 0, .int .i64 0] 27) = w0 at *
  refine (rWalk12_any A n c d A' m c' ids q now size w0 HD.out hn HI.out (by omega) hl hl' ow HOW.out).mono ?_
  rintro e w1 ⟨v1, rfl, hv1, hb1⟩
  have HXLT := Lib.hid hX.lt
  have HXW := Lib.hid hBa.size
  replace hl := hl.up hb1
  replace hl' := hl'.up hb1
  replace hX := hX.below hb1 hX.lt
  have hB := hBa.trans (hb1.mono hBa.size)
  have hsz := hB.size
  clear hb1 hBa
  obtain ⟨A1, c1, rfl⟩ := slice_of_own hv1
  go_wp2_with fail
  refine (rEnds12_any A n c d A' m c' ids q w1 HD.out hn HI.out (by omega) hl hl' oe HOE.out).mono ?_
  rintro e w2 ⟨v2, rfl, hv2, hb2⟩
  replace hl := hl.up hb2
  replace hv1 := own_below hv1 hb2
  replace hX := hX.below hb2 hX.lt
  replace hB := hB.trans (hb2.mono hsz)
  replace hsz := hB.size
  clear hb2 hl'
  obtain ⟨A2, c2, rfl⟩ := slice_of_own hv2
  cases ow with
  | none =>
    have hov : o = none := by rw [← HRO.out]
    have HOV := Lib.hid hov
    have r0 : w2.cell? ⟨w.heap.size, 0, none⟩ = some (.slice none 0 0) := hX.cell 0
    have f_0 := hX.free 0
    have r1 : w2.cell? ⟨w.heap.size, 1, none⟩ = some (.int .i64 0) := hX.cell 1
    have f_1 := hX.free 1
    have lt_x := hX.lt
    have HX := Lib.hid hX
    clear hov hX hv1 hv2 hl
    go_wp2_with fail
    have hX := HX.out
    clear r0 r1
    have hF : Blok ((w2.setCell ⟨w.heap.size, 0, none⟩ (.slice none 0 0)).setCell ⟨w.heap.size, 1, none⟩ (.int .i64 0)) w.heap.size 27 #[.slice none 0 0, .int .i64 0] := by have h := ((hX.set_ 0 (.slice none 0 0)).set_ 1 (.int .i64 0)); simpa using h
    have hle0 : w.heap.size ≤ w.heap.size := by first | exact Nat.le_refl _ | omega
    have hWf : Below w.heap.size w ((w2.setCell ⟨w.heap.size, 0, none⟩ (.slice none 0 0)).setCell ⟨w.heap.size, 1, none⟩ (.int .i64 0)) := ((hB.setCell (p := ⟨w.heap.size, 0, none⟩) hle0 (.slice none 0 0)).setCell (p := ⟨w.heap.size, 1, none⟩) hle0 (.int .i64 0))
    have hlF := hF.lt
    have hgw : w2.grownBy ((w2.setCell ⟨w.heap.size, 0, none⟩ (.slice none 0 0)).setCell ⟨w.heap.size, 1, none⟩ (.int .i64 0)) (some w.heap.size) := grown_trans (grown_set _ _ _) (grown_set _ _ _)
    generalize ((w2.setCell ⟨w.heap.size, 0, none⟩ (.slice none 0 0)).setCell ⟨w.heap.size, 1, none⟩ (.int .i64 0)) = wf at *
    have r0 : wf.cell? ⟨w.heap.size, 0, none⟩ = some (.slice none 0 0) := hF.cell 0
    have r1 : wf.cell? ⟨w.heap.size, 1, none⟩ = some (.int .i64 0) := hF.cell 1
    refine bodyPost_ret (v := .tuple #[.agg #[.slice none 0 0, .int .i64 0], .bool false]) (by simp [results, Tryz.results40, go_sem, r0, r1, hlF]) rfl ?_
    rw [HOV.out]
    exact ⟨_, rfl, World.ownsRow_nil _ _ _ _, hWf⟩
  | some hw =>
    obtain ⟨ns, e1, e2, e3⟩ := ends_of_walk HOW.out
    have hoe2 : oe = some ns := by rw [← HOE.out]; exact e1
    subst hoe2
    have e4 := ends_len HOE.out
    rw [HI.out] at e2 e4
    change w2.ownsRow _ _ 3 (.slice A1 hw.length c1) hw.length (flatHp hw) at hv1
    change w2.ownsRow _ _ 1 (.slice A2 ns.length c2) ns.length (ns.map (Value.int .i64)) at hv2
    have q1 : (Option.getD (some hw) []).length = m := e2
    have q2 : (Option.getD (some ns) []).length = m + 1 := e4
    rw [e2] at hv1
    rw [e4] at hv2
    rw [q1, q2]
    have H2 := Lib.hid e2
    have H3 := Lib.hid e3
    have H4 := Lib.hid e4
    clear e1 e2 e3 e4 q1 q2
    obtain ⟨nb, hnb⟩ : ∃ b, nodeB tt = b := ⟨_, rfl⟩
    have HNB := Lib.hid hnb
    clear hnb
    have hro := HRO.out
    simp only at hro
    rw [HNB.out, H4.out, Nat.add_sub_cancel] at hro
    have HRO2 := Lib.hid hro
    clear hro HRO
    go_wp2_with fail
    refine (rasked12_any A n c d q tt now size w2 HD.out hn hl nb (by rw [H3.out, HNB.out]; rfl)).mono ?_
    rintro e w3 ⟨rfl, hb⟩
    replace hv1 := own_below hv1 hb
    replace hv2 := own_below hv2 hb
    replace hX := hX.below hb hX.lt
    replace hB := hB.trans (hb.mono hsz)
    replace hsz := hB.size
    clear hb hl
    cases nb
    · have hov : o = none := by rw [← HRO2.out, if_neg (fun h => absurd h.1 (by decide))]
      have HOV := Lib.hid hov
      have r0 : w3.cell? ⟨w.heap.size, 0, none⟩ = some (.slice none 0 0) := hX.cell 0
      have f_0 := hX.free 0
      have r1 : w3.cell? ⟨w.heap.size, 1, none⟩ = some (.int .i64 0) := hX.cell 1
      have f_1 := hX.free 1
      have lt_x := hX.lt
      have HX := Lib.hid hX
      clear hov hX hv1 hv2
      go_wp2_with fail
      have hX := HX.out
      clear r0 r1
      have hF : Blok ((w3.setCell ⟨w.heap.size, 0, none⟩ (.slice none 0 0)).setCell ⟨w.heap.size, 1, none⟩ (.int .i64 0)) w.heap.size 27 #[.slice none 0 0, .int .i64 0] := by have h := ((hX.set_ 0 (.slice none 0 0)).set_ 1 (.int .i64 0)); simpa using h
      have hle0 : w.heap.size ≤ w.heap.size := by first | exact Nat.le_refl _ | omega
      have hWf : Below w.heap.size w ((w3.setCell ⟨w.heap.size, 0, none⟩ (.slice none 0 0)).setCell ⟨w.heap.size, 1, none⟩ (.int .i64 0)) := ((hB.setCell (p := ⟨w.heap.size, 0, none⟩) hle0 (.slice none 0 0)).setCell (p := ⟨w.heap.size, 1, none⟩) hle0 (.int .i64 0))
      have hlF := hF.lt
      have hgw : w3.grownBy ((w3.setCell ⟨w.heap.size, 0, none⟩ (.slice none 0 0)).setCell ⟨w.heap.size, 1, none⟩ (.int .i64 0)) (some w.heap.size) := grown_trans (grown_set _ _ _) (grown_set _ _ _)
      generalize ((w3.setCell ⟨w.heap.size, 0, none⟩ (.slice none 0 0)).setCell ⟨w.heap.size, 1, none⟩ (.int .i64 0)) = wf at *
      have r0 : wf.cell? ⟨w.heap.size, 0, none⟩ = some (.slice none 0 0) := hF.cell 0
      have r1 : wf.cell? ⟨w.heap.size, 1, none⟩ = some (.int .i64 0) := hF.cell 1
      refine bodyPost_ret (v := .tuple #[.agg #[.slice none 0 0, .int .i64 0], .bool false]) (by simp [results, Tryz.results40, go_sem, r0, r1, hlF]) rfl ?_
      rw [HOV.out]
      exact ⟨_, rfl, World.ownsRow_nil _ _ _ _, hWf⟩
    · obtain ⟨nd, hnd⟩ : ∃ b, decide ns.Nodup = b := ⟨_, rfl⟩
      have HND := Lib.hid hnd
      clear hnd
      go_wp2_with fail
      refine (runlike12_any A2 (m + 1) c2 ns w3 H4.out (by omega) (Sl.of_own hv2) nd HND.out).mono ?_
      rintro e w4 ⟨rfl, hb⟩
      replace hv1 := own_below hv1 hb
      replace hv2 := own_below hv2 hb
      replace hX := hX.below hb hX.lt
      replace hB := hB.trans (hb.mono hsz)
      replace hsz := hB.size
      clear hb
      cases nd
      · have hov : o = none := by rw [← HRO2.out, if_neg (fun h => absurd (decide_eq_true h.2.1) (by rw [HND.out]; decide))]
        have HOV := Lib.hid hov
        have r0 : w4.cell? ⟨w.heap.size, 0, none⟩ = some (.slice none 0 0) := hX.cell 0
        have f_0 := hX.free 0
        have r1 : w4.cell? ⟨w.heap.size, 1, none⟩ = some (.int .i64 0) := hX.cell 1
        have f_1 := hX.free 1
        have lt_x := hX.lt
        have HX := Lib.hid hX
        clear hov hX hv1 hv2
        go_wp2_with fail
        have hX := HX.out
        clear r0 r1
        have hF : Blok ((w4.setCell ⟨w.heap.size, 0, none⟩ (.slice none 0 0)).setCell ⟨w.heap.size, 1, none⟩ (.int .i64 0)) w.heap.size 27 #[.slice none 0 0, .int .i64 0] := by have h := ((hX.set_ 0 (.slice none 0 0)).set_ 1 (.int .i64 0)); simpa using h
        have hle0 : w.heap.size ≤ w.heap.size := by first | exact Nat.le_refl _ | omega
        have hWf : Below w.heap.size w ((w4.setCell ⟨w.heap.size, 0, none⟩ (.slice none 0 0)).setCell ⟨w.heap.size, 1, none⟩ (.int .i64 0)) := ((hB.setCell (p := ⟨w.heap.size, 0, none⟩) hle0 (.slice none 0 0)).setCell (p := ⟨w.heap.size, 1, none⟩) hle0 (.int .i64 0))
        have hlF := hF.lt
        have hgw : w4.grownBy ((w4.setCell ⟨w.heap.size, 0, none⟩ (.slice none 0 0)).setCell ⟨w.heap.size, 1, none⟩ (.int .i64 0)) (some w.heap.size) := grown_trans (grown_set _ _ _) (grown_set _ _ _)
        generalize ((w4.setCell ⟨w.heap.size, 0, none⟩ (.slice none 0 0)).setCell ⟨w.heap.size, 1, none⟩ (.int .i64 0)) = wf at *
        have r0 : wf.cell? ⟨w.heap.size, 0, none⟩ = some (.slice none 0 0) := hF.cell 0
        have r1 : wf.cell? ⟨w.heap.size, 1, none⟩ = some (.int .i64 0) := hF.cell 1
        refine bodyPost_ret (v := .tuple #[.agg #[.slice none 0 0, .int .i64 0], .bool false]) (by simp [results, Tryz.results40, go_sem, r0, r1, hlF]) rfl ?_
        rw [HOV.out]
        exact ⟨_, rfl, World.ownsRow_nil _ _ _ _, hWf⟩
      · obtain ⟨ad, hae, hab, n0⟩ := (Sl.of_own hv2).lst.atI H4.out (show m < m + 1 by omega)
        subst hae
        obtain ⟨lv, hlv⟩ : ∃ v, ns.getD m 0 = v := ⟨_, rfl⟩
        rw [hlv] at n0
        have hro := HRO2.out
        rw [hlv] at hro
        have HR3 := Lib.hid hro
        have t0 : IntKind.i64.wrap (((m + 1 : Nat) : Int) - 1) = (m : Int) := by rw [IntWalk.i64_in _ (by omega)]; omega
        have t1 : ((m + 1 : Nat) : Int) - 1 = (m : Int) := by omega
        have t2 : (m : Int) + 1 - 1 = (m : Int) := by omega
        clear hlv hro HRO2
        by_cases hlt : lv = tt
        · have hov : o = some (hw, arrE now hw) := by rw [← HR3.out, if_pos ⟨by first | trivial | rfl, by simpa using HND.out, hlt⟩]
          have HOV := Lib.hid hov
          have g1 : (lv != tt) = false := by simp [hlt]
          obtain ⟨av, hav⟩ : ∃ x, arrE now hw = x := ⟨_, rfl⟩
          have HAV := Lib.hid hav
          have HV1 := Lib.hid hv1
          clear hov hlt hav
          have HLT4 := Lib.hid hX.lt
          have r0 : w4.cell? ⟨w.heap.size, 0, none⟩ = some (.slice none 0 0) := hX.cell 0
          have f_0 := hX.free 0
          have r1 : w4.cell? ⟨w.heap.size, 1, none⟩ = some (.int .i64 0) := hX.cell 1
          have f_1 := hX.free 1
          have lt_x := hX.lt
          have hbx : Below w4.heap.size w4 (w4.alloc (.cells #[.slice A1 m c1, .int .i64 now] 27)) := by (repeat (first | exact Below.refl _ _ | refine Below.alloc ?_ (by first | omega | (simp; done) | (simp; omega)) _ | refine Below.setCell ?_ (by first | omega | (simp; done) | (simp; omega)) _ | refine Below.drew ?_))
          have hY := Blok.new w4 27 #[.slice A1 m c1, .int .i64 now]
          replace hX := hX.alloc (.cells #[.slice A1 m c1, .int .i64 now] 27)
          replace hv1 := hv1.alloc (.cells #[.slice A1 m c1, .int .i64 now] 27)
          replace hB := hB.trans (hbx.mono hsz)
          replace hsz := hB.size
          have HBZ := Lib.hid (show w.heap.size < w4.heap.size from by have := HLT4.out; exact this)
          have hne : w.heap.size ≠ w4.heap.size := by have := HBZ.out; omega
          have hrow : ∀ q, (Value.slice A1 m c1).ownBlock = some q → q < w4.heap.size := fun q hq => (HV1.out.lt q hq).2
          have hrow2 : ∀ q, (Value.slice A1 m c1).ownBlock = some q → q ≠ w.heap.size := fun q hq => by
            have h1 := (HV1.out.lt q hq).1
            have h2 := HXLT.out
            omega
          have HROW := Lib.hid hrow
          have HROW2 := Lib.hid hrow2
          clear hv2 hrow hrow2
          go_upto_region 6 with fail
          clear n0 g1 t0 t1 t2 r0 r1 f_0 f_1 lt_x hbx
          generalize w4.alloc (.cells #[.slice A1 m c1, .int .i64 now] 27) = w5 at *
          generalize w4.heap.size = bz at *
          by_cases hm0 : m = 0
          · subst hm0
            have hnil : hw = [] := List.eq_nil_of_length_eq_zero H2.out
            have hav : av = now := by rw [← HAV.out, hnil]; rfl
            subst hav
            have r0 : w5.cell? ⟨w.heap.size, 0, none⟩ = some (.slice none 0 0) := hX.cell 0
            have f_0 := hX.free 0
            have r1 : w5.cell? ⟨w.heap.size, 1, none⟩ = some (.int .i64 0) := hX.cell 1
            have f_1 := hX.free 1
            have lt_x := hX.lt
            have y0 : w5.cell? ⟨bz, 0, none⟩ = some (.slice A1 0 c1) := hY.cell 0
            have y1 : w5.cell? ⟨bz, 1, none⟩ = some (.int .i64 av) := hY.cell 1
            have lt_y := hY.lt
            have HX := Lib.hid hX
            have HVF := Lib.hid hv1
            clear hX hv1 hnil
            go_wp2_with fail
            have hX := HX.out
            clear r0 r1 y0 y1
            have hF : Blok ((w5.setCell ⟨w.heap.size, 0, none⟩ (.slice A1 0 c1)).setCell ⟨w.heap.size, 1, none⟩ (.int .i64 av)) w.heap.size 27 #[.slice A1 0 c1, .int .i64 av] := by have h := ((hX.set_ 0 (.slice A1 0 c1)).set_ 1 (.int .i64 av)); simpa using h
            have hle0 : w.heap.size ≤ w.heap.size := by first | exact Nat.le_refl _ | omega
            have hWf : Below w.heap.size w ((w5.setCell ⟨w.heap.size, 0, none⟩ (.slice A1 0 c1)).setCell ⟨w.heap.size, 1, none⟩ (.int .i64 av)) := ((hB.setCell (p := ⟨w.heap.size, 0, none⟩) hle0 (.slice A1 0 c1)).setCell (p := ⟨w.heap.size, 1, none⟩) hle0 (.int .i64 av))
            have hlF := hF.lt
            have hgw : w5.grownBy ((w5.setCell ⟨w.heap.size, 0, none⟩ (.slice A1 0 c1)).setCell ⟨w.heap.size, 1, none⟩ (.int .i64 av)) (some w.heap.size) := grown_trans (grown_set _ _ _) (grown_set _ _ _)
            generalize ((w5.setCell ⟨w.heap.size, 0, none⟩ (.slice A1 0 c1)).setCell ⟨w.heap.size, 1, none⟩ (.int .i64 av)) = wf at *
            have r0 : wf.cell? ⟨w.heap.size, 0, none⟩ = some (.slice A1 0 c1) := hF.cell 0
            have r1 : wf.cell? ⟨w.heap.size, 1, none⟩ = some (.int .i64 av) := hF.cell 1
            refine bodyPost_ret (v := .tuple #[.agg #[.slice A1 0 c1, .int .i64 av], .bool true]) (by simp [results, Tryz.results40, go_sem, r0, r1, hlF]) rfl ?_
            rw [HOV.out]
            refine ⟨_, by rw [show arrO (some (hw, arrE av hw)) = av from HAV.out]; rfl, ?_, hWf⟩
            change wf.ownsRow _ _ 3 _ hw.length (flatHp hw)
            rw [H2.out]
            exact own_down (HVF.out.kept hgw (.inr (fun e => HROW2.out _ e rfl))) (by have := HXW.out; omega)
          · obtain ⟨p, rfl⟩ : ∃ p, m = p + 1 := ⟨m - 1, by omega⟩
            obtain ⟨ah, hah, _, c0, c1', c2'⟩ := (Sl.of_own hv1).lst.atHp H2.out (show p < p + 1 by omega)
            subst hah
            have hta : (gHp hw p).ar = av := by
              rw [← HAV.out, arrE_at (fun e => by have := H2.out; rw [e] at this; simp at this), H2.out, Nat.add_sub_cancel]
            rw [hta] at c2'
            have t0 : IntKind.i64.wrap (((p + 1 : Nat) : Int) - 1) = (p : Int) := by rw [IntWalk.i64_in _ (by omega)]; omega
            have t1 : ((p + 1 : Nat) : Int) - 1 = (p : Int) := by omega
            have g3 : decide (((p + 1 : Nat) : Int) > 0) = true := decide_eq_true (by omega)
            have y0 : w5.cell? ⟨bz, 0, none⟩ = some (.slice (some ah) (p + 1) c1) := hY.cell 0
            have y1 : w5.cell? ⟨bz, 1, none⟩ = some (.int .i64 now) := hY.cell 1
            have fy1 := hY.free 1
            have lt_y := hY.lt
            have hX6 := hX.grown (grown_set (g := bz) w5 1 (.int .i64 av)) (fun e => hne (by injection e))
            have hY6 : Blok (w5.setCell ⟨bz, 1, none⟩ (.int .i64 av)) bz 27 #[.slice (some ah) (p + 1) c1, .int .i64 av] := by have h := hY.set_ 1 (.int .i64 av); simpa using h
            have hv6 := hv1.kept (grown_set (g := bz) w5 1 (.int .i64 av)) (.inr (fun e => by have := HROW.out _ e; omega))
            have hB6 : Below w.heap.size w (w5.setCell ⟨bz, 1, none⟩ (.int .i64 av)) := hB.setCell (p := ⟨bz, 1, none⟩) (by show w.heap.size ≤ bz; have := HBZ.out; omega) _
            clear hta hm0
            go_upto_region 8 with fail
            clear c0 c1' c2' t0 t1 g3 y0 y1 fy1 lt_y hX hY hv1 hB
            generalize w5.setCell ⟨bz, 1, none⟩ (.int .i64 av) = w6 at *
            have r0 : w6.cell? ⟨w.heap.size, 0, none⟩ = some (.slice none 0 0) := hX6.cell 0
            have f_0 := hX6.free 0
            have r1 : w6.cell? ⟨w.heap.size, 1, none⟩ = some (.int .i64 0) := hX6.cell 1
            have f_1 := hX6.free 1
            have lt_x := hX6.lt
            have y0 : w6.cell? ⟨bz, 0, none⟩ = some (.slice (some ah) (p + 1) c1) := hY6.cell 0
            have y1 : w6.cell? ⟨bz, 1, none⟩ = some (.int .i64 av) := hY6.cell 1
            have lt_y := hY6.lt
            have HX := Lib.hid hX6
            have HVF := Lib.hid hv6
            clear hX6 hv6 hY6
            go_wp2_with fail
            have hX := HX.out
            clear r0 r1 y0 y1
            have hF : Blok ((w6.setCell ⟨w.heap.size, 0, none⟩ (.slice (some ah) (p + 1) c1)).setCell ⟨w.heap.size, 1, none⟩ (.int .i64 av)) w.heap.size 27 #[.slice (some ah) (p + 1) c1, .int .i64 av] := by have h := ((hX.set_ 0 (.slice (some ah) (p + 1) c1)).set_ 1 (.int .i64 av)); simpa using h
            have hle0 : w.heap.size ≤ w.heap.size := by first | exact Nat.le_refl _ | omega
            have hWf : Below w.heap.size w ((w6.setCell ⟨w.heap.size, 0, none⟩ (.slice (some ah) (p + 1) c1)).setCell ⟨w.heap.size, 1, none⟩ (.int .i64 av)) := ((hB6.setCell (p := ⟨w.heap.size, 0, none⟩) hle0 (.slice (some ah) (p + 1) c1)).setCell (p := ⟨w.heap.size, 1, none⟩) hle0 (.int .i64 av))
            have hlF := hF.lt
            have hgw : w6.grownBy ((w6.setCell ⟨w.heap.size, 0, none⟩ (.slice (some ah) (p + 1) c1)).setCell ⟨w.heap.size, 1, none⟩ (.int .i64 av)) (some w.heap.size) := grown_trans (grown_set _ _ _) (grown_set _ _ _)
            generalize ((w6.setCell ⟨w.heap.size, 0, none⟩ (.slice (some ah) (p + 1) c1)).setCell ⟨w.heap.size, 1, none⟩ (.int .i64 av)) = wf at *
            have r0 : wf.cell? ⟨w.heap.size, 0, none⟩ = some (.slice (some ah) (p + 1) c1) := hF.cell 0
            have r1 : wf.cell? ⟨w.heap.size, 1, none⟩ = some (.int .i64 av) := hF.cell 1
            refine bodyPost_ret (v := .tuple #[.agg #[.slice (some ah) (p + 1) c1, .int .i64 av], .bool true]) (by simp [results, Tryz.results40, go_sem, r0, r1, hlF]) rfl ?_
            rw [HOV.out]
            refine ⟨_, by rw [show arrO (some (hw, arrE now hw)) = av from HAV.out]; rfl, ?_, hWf⟩
            change wf.ownsRow _ _ 3 _ hw.length (flatHp hw)
            rw [H2.out]
            exact own_down (HVF.out.kept hgw (.inr (fun e => HROW2.out _ e rfl))) (by have := HXW.out; omega)
        · have hov : o = none := by rw [← HR3.out, if_neg (fun h => hlt h.2.2)]
          have HOV := Lib.hid hov
          have g1 : (lv != tt) = true := by simp [hlt]
          have r0 : w4.cell? ⟨w.heap.size, 0, none⟩ = some (.slice none 0 0) := hX.cell 0
          have f_0 := hX.free 0
          have r1 : w4.cell? ⟨w.heap.size, 1, none⟩ = some (.int .i64 0) := hX.cell 1
          have f_1 := hX.free 1
          have lt_x := hX.lt
          have HX := Lib.hid hX
          clear hov hX hv1 hv2 hlt
          go_wp2_with fail
          have hX := HX.out
          clear r0 r1
          have hF : Blok ((w4.setCell ⟨w.heap.size, 0, none⟩ (.slice none 0 0)).setCell ⟨w.heap.size, 1, none⟩ (.int .i64 0)) w.heap.size 27 #[.slice none 0 0, .int .i64 0] := by have h := ((hX.set_ 0 (.slice none 0 0)).set_ 1 (.int .i64 0)); simpa using h
          have hle0 : w.heap.size ≤ w.heap.size := by first | exact Nat.le_refl _ | omega
          have hWf : Below w.heap.size w ((w4.setCell ⟨w.heap.size, 0, none⟩ (.slice none 0 0)).setCell ⟨w.heap.size, 1, none⟩ (.int .i64 0)) := ((hB.setCell (p := ⟨w.heap.size, 0, none⟩) hle0 (.slice none 0 0)).setCell (p := ⟨w.heap.size, 1, none⟩) hle0 (.int .i64 0))
          have hlF := hF.lt
          have hgw : w4.grownBy ((w4.setCell ⟨w.heap.size, 0, none⟩ (.slice none 0 0)).setCell ⟨w.heap.size, 1, none⟩ (.int .i64 0)) (some w.heap.size) := grown_trans (grown_set _ _ _) (grown_set _ _ _)
          generalize ((w4.setCell ⟨w.heap.size, 0, none⟩ (.slice none 0 0)).setCell ⟨w.heap.size, 1, none⟩ (.int .i64 0)) = wf at *
          have r0 : wf.cell? ⟨w.heap.size, 0, none⟩ = some (.slice none 0 0) := hF.cell 0
          have r1 : wf.cell? ⟨w.heap.size, 1, none⟩ = some (.int .i64 0) := hF.cell 1
          refine bodyPost_ret (v := .tuple #[.agg #[.slice none 0 0, .int .i64 0], .bool false]) (by simp [results, Tryz.results40, go_sem, r0, r1, hlF]) rfl ?_
          rw [HOV.out]
          exact ⟨_, rfl, World.ownsRow_nil _ _ _ _, hWf⟩
end Go.Proofs.YtmbaklodgpcegaaGreat
