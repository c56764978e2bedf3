/- The document's own path: Ends, Walk, Unlike. They make new memory alone. -/
import Derived.Test.YtmbaklodgpcegaaGreatRef12b
namespace Go.Proofs.YtmbaklodgpcegaaGreat
open Go.ChangeShapes Go.WideShapes Go.ChangeAt Go.RowKit Go.Sort
set_option linter.unusedSimpArgs false
set_option linter.unusedVariables false
theorem ask_self (d : List Ed) (q now size : Int) : (askE d q now size && nodeB q) = askE d q now size := by
  unfold askE
  cases nodeB q <;> simp
theorem nodes_snoc (q : Int) (es : List Ed) (x : Ed) : nodesE q (es ++ [x]) = nodesE q es ++ [x.tn] := by unfold nodesE; simp
theorem nodes_last (q : Int) (es : List Ed) (x : Ed) : (nodesE q (es ++ [x])).getD (es.length + 1) 0 = x.tn := by
  rw [nodes_snoc, List.getD_eq_getElem?_getD, List.getElem?_append_right (by rw [nodesE_len]; omega), nodesE_len]
  simp
set_option maxHeartbeats 8000000 in
set_option maxRecDepth 100000 in
theorem rEnds12_any (A : Option Addr) (n c : Nat) (d : List Ed) (A' : Option Addr) (m c' : Nat) (ids : List Int) (q : Int) (w : World) (hd : d.length = n) (hn : n ≤ 1000000) (hi : ids.length = m) (hm : m ≤ 1000000) (h : Sl w w.heap.size 8 A n c (flatEd d)) (h' : Sl w w.heap.size 1 A' m c' (ids.map (Value.int .i64))) (o : Option (List Int)) (ho : endsE d ids q = o) :
    Calls Tryz.prog 57 #[.slice A n c, .slice A' m c', .int .i64 q] w fun e w' => ∃ v, e = .returned (.tuple #[v, .bool o.isSome]) ∧ w'.ownsRow w.heap.size 3 1 v (o.getD []).length ((o.getD []).map (Value.int .i64)) ∧ Below w.heap.size w w' := by
  obtain ⟨i0, hi0, hz0, hz1, hz2⟩ := info_parts infoI12
  obtain ⟨ak, hak⟩ : ∃ b, askE d q 0 0 = b := ⟨_, rfl⟩
  obtain ⟨of, hof⟩ : ∃ x, followE d ids q = x := ⟨_, rfl⟩
  have HAK := Lib.hid hak
  have HD := Lib.hid hd
  have HI := Lib.hid hi
  have HO := Lib.hid ho
  have HOF := Lib.hid hof
  clear hak hd hi ho hof
  go_enter Tryz.func57, Tryz.ntmps57
  go_wp2_with fail
  refine (rasked12_any A n c d q q 0 0 w HD.out hn h ak (by rw [ask_self]; exact HAK.out)).mono ?_
  rintro e w1 ⟨rfl, hb1⟩
  cases ak
  · have hov : o = none := by rw [← HO.out]; unfold endsE; rw [if_neg (by rw [HAK.out]; decide)]
    have HOV := Lib.hid hov
    clear hov
    go_wp2_with fail
    go_ret2
    rw [HOV.out]
    exact ⟨_, rfl, World.ownsRow_nil _ _ _ _, hb1⟩
  · have hs1 := hb1.size
    have hlit : (w1.alloc (.cells #[.int .i64 q] 3)).ownsRow w.heap.size 3 1 (.slice (some ⟨w1.heap.size, 0, none⟩) 1 1) 1 [.int .i64 q] := own_lit w1 w.heap.size 3 1 1 #[.int .i64 q] hs1 rfl (by simp [maxLen])
    have hB0 : Below w.heap.size w (w1.alloc (.cells #[.int .i64 q] 3)) := hb1.alloc hs1 _
    have HFL : Hid (∀ w', Below w.heap.size w w' → Sl w' w'.heap.size 8 A n c (flatEd d)) := fun w' hb => h.up hb
    have HFI : Hid (∀ w', Below w.heap.size w w' → Sl w' w'.heap.size 1 A' m c' (ids.map (Value.int .i64))) := fun w' hb => h'.up hb
    have hoo : o = of.map (nodesE q) := by rw [← HO.out]; unfold endsE; rw [if_pos HAK.out, HOF.out]
    have HOO := Lib.hid hoo
    clear h h' hb1 hoo HO
    go_wp2
    go_loopw [8, 9] (fun ev iv wr => ∃ (es : List Ed) (i : Nat), iv = .int .i64 i ∧ i ≤ m ∧ Hid (es.length = i) ∧ wr.ownsRow w.heap.size 3 1 ev (i + 1) ((nodesE q es).map (Value.int .i64)) ∧ Hid ((followE d (ids.drop i) ((nodesE q es).getD i 0)).map (es ++ ·) = of) ∧ Below w.heap.size w wr) (fun _ iv _ => m - (intOf iv).toNat)
    case atStart => exact ⟨[], 0, rfl, by omega, rfl, hlit, (by show (followE d (ids.drop 0) q).map ([] ++ ·) = of; rw [List.drop_zero, HOF.out]; cases of <;> simp), hB0⟩
    case round =>
      clear hlit hB0 HOF
      obtain ⟨es, i, rfl, hi, HE, hown, HF, hB⟩ := hrel
      have hs := hB.size
      obtain ⟨Ae, ce, rfl⟩ := slice_of_own hown
      by_cases him : i < m
      · obtain ⟨ad, rfl, hab, c0⟩ := (HFI.out wr hB).lst.atI HI.out him
        have hdr := drop_at (l := ids) (i := i) (by rw [HI.out]; exact him)
        obtain ⟨id, hid⟩ : ∃ v, ids.getD i 0 = v := ⟨_, rfl⟩
        rw [hid] at c0 hdr
        have HDR := Lib.hid hdr
        obtain ⟨fo, hfo⟩ : ∃ v, findE d id = v := ⟨_, rfl⟩
        obtain ⟨x, hx⟩ : ∃ x, fo.getD zeroE = x := ⟨_, rfl⟩
        obtain ⟨fb, hfb⟩ : ∃ b, fo.isSome = b := ⟨_, rfl⟩
        have HFO := Lib.hid hfo
        have HX := Lib.hid hx
        have HFB := Lib.hid hfb
        clear hid hdr hfo hx hfb
        go_wp2_with fail
        refine (rfind11_any A n c d id wr HD.out hn (HFL.out wr hB) x fb (by rw [HFO.out]; exact HX.out) (by rw [HFO.out]; exact HFB.out)).mono ?_
        rintro e w5 ⟨rfl, hb5⟩
        have hB5 := hB.trans (hb5.mono hs)
        have hs5 := hB5.size
        have hown5 := own_below hown hb5
        have hb2 : Below w5.heap.size w5 (w5.alloc (.cells #[.int .i64 x.id, .int .i64 x.fr, .int .i64 x.tn, .int .i64 x.op, .int .i64 x.en, .int .i64 x.ra, .int .i64 x.ow, .int .i64 x.ro] 47)) := by (repeat (first | exact Below.refl _ _ | refine Below.alloc ?_ (by first | omega | (simp; done) | (simp; omega)) _ | refine Below.setCell ?_ (by first | omega | (simp; done) | (simp; omega)) _ | refine Below.drew ?_))
        have hEb := Blok.new w5 47 #[.int .i64 x.id, .int .i64 x.fr, .int .i64 x.tn, .int .i64 x.op, .int .i64 x.en, .int .i64 x.ra, .int .i64 x.ow, .int .i64 x.ro]
        have hB6 := hB5.trans (hb2.mono hs5)
        have hown6 := own_below hown5 hb2
        clear c0 hb5 hB hB5 hown hown5 hs hs5
        go_upto_region 8 with fail
        generalize w5.alloc (.cells #[.int .i64 x.id, .int .i64 x.fr, .int .i64 x.tn, .int .i64 x.op, .int .i64 x.en, .int .i64 x.ra, .int .i64 x.ow, .int .i64 x.ro] 47) = w6 at *
        generalize w5.heap.size = be at *
        clear hb2
        have k0 : w6.cell? ⟨be, 0, none⟩ = some (.int .i64 x.id) := hEb.cell 0
        have k1 : w6.cell? ⟨be, 1, none⟩ = some (.int .i64 x.fr) := hEb.cell 1
        have k2 : w6.cell? ⟨be, 2, none⟩ = some (.int .i64 x.tn) := hEb.cell 2
        have k3 : w6.cell? ⟨be, 3, none⟩ = some (.int .i64 x.op) := hEb.cell 3
        have k4 : w6.cell? ⟨be, 4, none⟩ = some (.int .i64 x.en) := hEb.cell 4
        have k5 : w6.cell? ⟨be, 5, none⟩ = some (.int .i64 x.ra) := hEb.cell 5
        have k6 : w6.cell? ⟨be, 6, none⟩ = some (.int .i64 x.ow) := hEb.cell 6
        have k7 : w6.cell? ⟨be, 7, none⟩ = some (.int .i64 x.ro) := hEb.cell 7
        have lt_e := hEb.lt
        have hs6 := hB6.size
        obtain ⟨an, hae, han, n0⟩ := (Sl.of_own hown6).lst.atI (show (nodesE q es).length = i + 1 by rw [nodesE_len, HE.out]) (show i < i + 1 by omega)
        subst hae
        obtain ⟨at_, hat⟩ : ∃ v, (nodesE q es).getD i 0 = v := ⟨_, rfl⟩
        have hf := HF.out
        rw [hat] at n0 hf
        have HF2 := Lib.hid hf
        have t8 : (i : Int) < ((i + 1 : Nat) : Int) := by omega
        have t9 : (i : Int) < (i : Int) + 1 := by omega
        clear hat hf HF
        by_cases hgo : fb = true ∧ x.fr = at_
        · obtain ⟨rfl, rfl⟩ := hgo
          have hfe : findE d id = some x := by
            rw [HFO.out]
            cases hfo : fo with
            | none => have := HFB.out; rw [hfo] at this; cases this
            | some y => have := HX.out; rw [hfo] at this; rw [show y = x from this]
          have hnx : (followE d (ids.drop (i + 1)) ((nodesE q (es ++ [x])).getD (i + 1) 0)).map ((es ++ [x]) ++ ·) = of := by
            have h1 := nodes_last q es x
            rw [HE.out] at h1
            rw [← HF2.out, HDR.out, followE_on hfe rfl, map_app, h1]
          have HNX := Lib.hid hnx
          have g1 : (x.fr != x.fr) = false := by simp
          clear hfe hnx
          have q_k0 := fun d os => cell_regrown k0 d os
          have q_k1 := fun d os => cell_regrown k1 d os
          have q_k2 := fun d os => cell_regrown k2 d os
          have q_k3 := fun d os => cell_regrown k3 d os
          have q_k4 := fun d os => cell_regrown k4 d os
          have q_k5 := fun d os => cell_regrown k5 d os
          have q_k6 := fun d os => cell_regrown k6 d os
          have q_k7 := fun d os => cell_regrown k7 d os
          have q_n0 := fun d os => cell_regrown n0 d os
          try simp only [List.append]
          first | refine wp_region_text_below ?_ | refine wp_region_quiet_below (by kernel_rfl) (by kernel_rfl) ?_
          repeat (go_big_quiet_step ((fail)))
          refine wpQuiet_nil ?_
          intro _ hqw
          obtain ⟨pq, hqw⟩ := hqw
          subst hqw
          clear q_k0 q_k1 q_k2 q_k3 q_k4 q_k5 q_k6 q_k7 q_n0
          have hbel := below_regrown w6 pq.d pq.os
          have hB7 := hB6.trans (hbel.mono hs6)
          have hown7 := own_below hown6 hbel
          have hE7 := hEb.below hbel hEb.lt
          clear k0 k1 k2 k3 k4 k5 k6 k7 n0 hbel hB6 hown6 hEb g1 t8 t9 lt_e hs6
          generalize grow (redrawn w6 pq.d) pq.os = w7 at *
          have hs7 := hB7.size
          have k0 : w7.cell? ⟨be, 0, none⟩ = some (.int .i64 x.id) := hE7.cell 0
          have k1 : w7.cell? ⟨be, 1, none⟩ = some (.int .i64 x.fr) := hE7.cell 1
          have k2 : w7.cell? ⟨be, 2, none⟩ = some (.int .i64 x.tn) := hE7.cell 2
          have k3 : w7.cell? ⟨be, 3, none⟩ = some (.int .i64 x.op) := hE7.cell 3
          have k4 : w7.cell? ⟨be, 4, none⟩ = some (.int .i64 x.en) := hE7.cell 4
          have k5 : w7.cell? ⟨be, 5, none⟩ = some (.int .i64 x.ra) := hE7.cell 5
          have k6 : w7.cell? ⟨be, 6, none⟩ = some (.int .i64 x.ow) := hE7.cell 6
          have k7 : w7.cell? ⟨be, 7, none⟩ = some (.int .i64 x.ro) := hE7.cell 7
          have lt_e := hE7.lt
          go_wp2_with (first | (at_builtin; refine wpList_append_own _ rfl _ _ 23 rfl w.heap.size 3 i0 _ 1 8 Tryz.underlying23 hi0 hz0 hz1 hz2 rfl (by decide) _ _ _ rfl (hown7.alloc _) ⟨w7.heap.size, 0, none⟩ 1 1 [.int .i64 x.tn] rfl rfl (by exact lit_cells w7 #[.int .i64 x.tn] _ _ rfl) (by simp [Value.oneCell']) (by unfold maxLen; omega) (by omega) (by simp; omega) ?_; intro v' w8 hown' hgrow3 hnil3))
          have hbN : Below w.heap.size w w8 := (hB7.alloc hs7 _).grown hgrow3 (by simp; omega) (fun q hq => (hown7.lt q hq).1)
          clear hgrow3 hnil3 k0 k1 k2 k3 k4 k5 k6 k7 lt_e hE7
          go_wp2_with fail
          go_roundw
          case rel => exact ⟨es ++ [x], i + 1, by go_num, by omega, by simp [Hid, HE.out], (by rw [nodes_snoc, ints_app]; exact hown'), HNX, hbN⟩
          case measure => simp [intOf]; omega
        · have hfn : of = none := by
            rw [← HF2.out, HDR.out]
            cases hfo : fo with
            | none => rw [followE_none (by rw [HFO.out]; exact hfo)]; rfl
            | some y =>
              have h1 := HX.out
              have h2 := HFB.out
              rw [hfo] at h1 h2
              have h3 : y = x := h1
              have h4 : fb = true := h2.symm
              rw [followE_off (e := y) (by rw [HFO.out]; exact hfo) (by rw [h3]; exact fun e => hgo ⟨h4, e⟩)]; rfl
          have hov : o = none := by rw [HOO.out, hfn]; rfl
          have HOV := Lib.hid hov
          clear hfn hov
          cases fb
          · clear hgo
            have q_k0 := fun d os => cell_regrown k0 d os
            have q_k1 := fun d os => cell_regrown k1 d os
            have q_k2 := fun d os => cell_regrown k2 d os
            have q_k3 := fun d os => cell_regrown k3 d os
            have q_k4 := fun d os => cell_regrown k4 d os
            have q_k5 := fun d os => cell_regrown k5 d os
            have q_k6 := fun d os => cell_regrown k6 d os
            have q_k7 := fun d os => cell_regrown k7 d os
            have q_n0 := fun d os => cell_regrown n0 d os
            try simp only [List.append]
            first | refine wp_region_text_below ?_ | refine wp_region_quiet_below (by kernel_rfl) (by kernel_rfl) ?_
            repeat (go_big_quiet_step ((fail)))
            refine wpQuiet_nil ?_
            intro _ hqw
            obtain ⟨pq, hqw⟩ := hqw
            subst hqw
            clear q_k0 q_k1 q_k2 q_k3 q_k4 q_k5 q_k6 q_k7 q_n0
            have hbel := below_regrown w6 pq.d pq.os
            have hB7 := hB6.trans (hbel.mono hs6)
            generalize grow (redrawn w6 pq.d) pq.os = w7 at *
            go_wp2
            go_ret2
            rw [HOV.out]
            exact ⟨_, rfl, World.ownsRow_nil _ _ _ _, hB7⟩
          · have g1 : (x.fr != at_) = true := by simp; exact fun e => hgo ⟨rfl, e⟩
            clear hgo
            have q_k0 := fun d os => cell_regrown k0 d os
            have q_k1 := fun d os => cell_regrown k1 d os
            have q_k2 := fun d os => cell_regrown k2 d os
            have q_k3 := fun d os => cell_regrown k3 d os
            have q_k4 := fun d os => cell_regrown k4 d os
            have q_k5 := fun d os => cell_regrown k5 d os
            have q_k6 := fun d os => cell_regrown k6 d os
            have q_k7 := fun d os => cell_regrown k7 d os
            have q_n0 := fun d os => cell_regrown n0 d os
            try simp only [List.append]
            first | refine wp_region_text_below ?_ | refine wp_region_quiet_below (by kernel_rfl) (by kernel_rfl) ?_
            repeat (go_big_quiet_step ((fail)))
            refine wpQuiet_nil ?_
            intro _ hqw
            obtain ⟨pq, hqw⟩ := hqw
            subst hqw
            clear q_k0 q_k1 q_k2 q_k3 q_k4 q_k5 q_k6 q_k7 q_n0
            have hbel := below_regrown w6 pq.d pq.os
            have hB7 := hB6.trans (hbel.mono hs6)
            generalize grow (redrawn w6 pq.d) pq.os = w7 at *
            go_wp2
            go_ret2
            rw [HOV.out]
            exact ⟨_, rfl, World.ownsRow_nil _ _ _ _, hB7⟩
      · obtain rfl : i = m := by omega
        have hov : o = some (nodesE q es) := by
          rw [HOO.out, ← HF.out, List.drop_of_length_le (by rw [HI.out]; omega), followE_nil]; simp
        have HOV := Lib.hid hov
        clear hov
        go_wp2_with fail
        go_ret2
        rw [HOV.out]
        refine ⟨_, rfl, ?_, hB⟩
        change wr.ownsRow _ _ 1 _ (nodesE q es).length ((nodesE q es).map _)
        rw [nodesE_len, HE.out]
        exact hown
theorem rpass_is' {x : Ed} {t size : Int} (p : Option (Int × Int)) (h : x.pass t size = p) (w : World) :
    Calls Tryz.prog 75 #[.agg #[.int .i64 x.id, .int .i64 x.fr, .int .i64 x.tn, .int .i64 x.op, .int .i64 x.en, .int .i64 x.ra, .int .i64 x.ow, .int .i64 x.ro], .int .i64 t, .int .i64 size] w fun e w' => e = .returned (passV p) ∧ Below w.heap.size w w' := rpass_is p h w
theorem rhpass_yes {x : Ed} {t size a b : Int} (h : x.pass t size = some (a, b)) (w : World) :
    Calls Tryz.prog 75 #[.agg #[.int .i64 x.id, .int .i64 x.fr, .int .i64 x.tn, .int .i64 x.op, .int .i64 x.en, .int .i64 x.ra, .int .i64 x.ow, .int .i64 x.ro], .int .i64 t, .int .i64 size] w fun e w' => e = .returned (.tuple #[.int .i64 a, .int .i64 b, .bool true]) ∧ Below w.heap.size w w' := rpass_yes h w
theorem rhpass_no {x : Ed} {t size : Int} (h : x.pass t size = none) (w : World) :
    Calls Tryz.prog 75 #[.agg #[.int .i64 x.id, .int .i64 x.fr, .int .i64 x.tn, .int .i64 x.op, .int .i64 x.en, .int .i64 x.ra, .int .i64 x.ow, .int .i64 x.ro], .int .i64 t, .int .i64 size] w fun e w' => e = .returned (.tuple #[.int .i64 0, .int .i64 0, .bool false]) ∧ Below w.heap.size w w' := rpass_no h w
set_option maxHeartbeats 8000000 in
set_option maxRecDepth 100000 in
theorem rWalk12_any (A : Option Addr) (n c : Nat) (d : List Ed) (A' : Option Addr) (m c' : Nat) (ids : List Int) (q now size : Int) (w : World) (hd : d.length = n) (hn : n ≤ 1000000) (hi : ids.length = m) (hm : m ≤ 1000000) (h : Sl w w.heap.size 8 A n c (flatEd d)) (h' : Sl w w.heap.size 1 A' m c' (ids.map (Value.int .i64))) (o : Option (List Hp)) (ho : walkE d ids q now size = o) :
    Calls Tryz.prog 59 #[.slice A n c, .slice A' m c', .int .i64 q, .int .i64 now, .int .i64 size] w fun e w' => ∃ v, e = .returned (.tuple #[v, .bool o.isSome]) ∧ w'.ownsRow w.heap.size 42 3 v (o.getD []).length (flatHp (o.getD [])) ∧ Below w.heap.size w w' := by
  obtain ⟨i0, hi0, hz0, hz1, hz2⟩ := info_parts infoHp
  obtain ⟨ak, hak⟩ : ∃ b, askE d q now size = b := ⟨_, rfl⟩
  obtain ⟨oe, hoe⟩ : ∃ x, endsE d ids q = x := ⟨_, rfl⟩
  have HAK := Lib.hid hak
  have HD := Lib.hid hd
  have HI := Lib.hid hi
  have HO := Lib.hid ho
  have HOE := Lib.hid hoe
  clear hak hd hi ho hoe
  go_enter Tryz.func59, Tryz.ntmps59
  go_wp2_with fail
  refine (rEnds12_any A n c d A' m c' ids q w HD.out hn HI.out hm h h' oe HOE.out).mono ?_
  rintro e w1 ⟨v1, rfl, hv1, hb1⟩
  obtain ⟨A1, c1, rfl⟩ := slice_of_own hv1
  have hs1 := hb1.size
  clear hv1
  cases oe with
  | none =>
    have hov : o = none := by
      rw [← HO.out]
      unfold walkE
      split
      · rename_i ha
        have h1 := HOE.out
        unfold endsE at h1
        rw [if_pos (askE_ends ha)] at h1
        cases hf : followE d ids q with
        | none => rfl
        | some es => rw [hf] at h1; cases h1
      · rfl
    have HOV := Lib.hid hov
    clear hov
    go_wp2_with fail
    go_ret2
    rw [HOV.out]
    exact ⟨_, rfl, World.ownsRow_nil _ _ _ _, hb1⟩
  | some ns =>
    go_wp2_with fail
    refine (rasked12_any A n c d q q now size w1 HD.out hn (h.up hb1) ak (by rw [ask_self]; exact HAK.out)).mono ?_
    rintro e w2 ⟨rfl, hb2⟩
    have hB2 := hb1.trans (hb2.mono hs1)
    cases ak
    · have hov : o = none := by rw [← HO.out]; unfold walkE; rw [if_neg (by rw [HAK.out]; decide)]
      have HOV := Lib.hid hov
      clear hov
      go_wp2_with fail
      go_ret2
      rw [HOV.out]
      exact ⟨_, rfl, World.ownsRow_nil _ _ _ _, hB2⟩
    · obtain ⟨es, hfe⟩ : ∃ es, followE d ids q = some es := by
        have h1 := HOE.out
        unfold endsE at h1
        rw [if_pos (askE_ends HAK.out)] at h1
        cases hf : followE d ids q with
        | none => rw [hf] at h1; cases h1
        | some es => exact ⟨es, rfl⟩
      have hpo : passE size es now = o := by rw [← HO.out, walkE_of HAK.out hfe]
      have hle : es.length = m := by rw [followE_len hfe]; exact HI.out
      have HFE := Lib.hid hfe
      have HPO := Lib.hid hpo
      have HLE := Lib.hid hle
      have HFL : Hid (∀ w', Below w.heap.size w w' → Sl w' w'.heap.size 8 A n c (flatEd d)) := fun w' hb => h.up hb
      have HFI : Hid (∀ w', Below w.heap.size w w' → Sl w' w'.heap.size 1 A' m c' (ids.map (Value.int .i64))) := fun w' hb => h'.up hb
      clear hfe hpo hle h h' hb1 hb2 hs1 HO
      go_wp2
      go_loopw [14, 15, 16] (fun ev qv iv wr => ∃ (hs : List Hp) (t' : Int) (i : Nat), iv = .int .i64 i ∧ qv = .int .i64 t' ∧ i ≤ m ∧ Hid (hs.length = i) ∧ wr.ownsRow w.heap.size 42 3 ev i (flatHp hs) ∧ Hid ((passE size (es.drop i) t').map (hs ++ ·) = o) ∧ Below w.heap.size w wr) (fun _ _ iv _ => m - (intOf iv).toNat)
      case atStart => exact ⟨[], now, 0, rfl, rfl, by omega, rfl, World.ownsRow_nil _ _ _ _, (by show (passE size (es.drop 0) now).map ([] ++ ·) = o; rw [List.drop_zero, HPO.out]; cases o <;> simp), hB2⟩
      case round =>
        clear hB2 HPO
        obtain ⟨hs, t', i, rfl, rfl, hi, HE, hown, HF, hB⟩ := hrel
        have hsz := hB.size
        obtain ⟨Ae, ce, rfl⟩ := slice_of_own hown
        by_cases him : i < m
        · obtain ⟨ad, rfl, hab, c0⟩ := (HFI.out wr hB).lst.atI HI.out him
          obtain ⟨f1, f2, f3⟩ := followE_at HFE.out i (by rw [HLE.out]; exact him)
          have hdr := drop_atEd' (l := es) (i := i) (by rw [HLE.out]; exact him)
          obtain ⟨x, hx⟩ : ∃ x, gEd es i = x := ⟨_, rfl⟩
          obtain ⟨id, hid⟩ : ∃ v, ids.getD i 0 = v := ⟨_, rfl⟩
          rw [hx] at f3 hdr
          rw [hid] at f3 c0
          have hxi : x.id = id := (findE_some f3).2
          subst hxi
          have HDR := Lib.hid hdr
          have HF3 := Lib.hid f3
          have HID := Lib.hid hid
          clear hx hid f1 f2 f3 hdr
          go_wp2_with fail
          refine (rfind11_any A n c d x.id wr HD.out hn (HFL.out wr hB) x true (by rw [HF3.out]; rfl) (by rw [HF3.out]; rfl)).mono ?_
          rintro e w5 ⟨rfl, hb5⟩
          have hB5 := hB.trans (hb5.mono hsz)
          have hs5 := hB5.size
          have hown5 := own_below hown hb5
          have hb2 : Below w5.heap.size w5 (w5.alloc (.cells #[.int .i64 x.id, .int .i64 x.fr, .int .i64 x.tn, .int .i64 x.op, .int .i64 x.en, .int .i64 x.ra, .int .i64 x.ow, .int .i64 x.ro] 47)) := by (repeat (first | exact Below.refl _ _ | refine Below.alloc ?_ (by first | omega | (simp; done) | (simp; omega)) _ | refine Below.setCell ?_ (by first | omega | (simp; done) | (simp; omega)) _ | refine Below.drew ?_))
          have hEb := Blok.new w5 47 #[.int .i64 x.id, .int .i64 x.fr, .int .i64 x.tn, .int .i64 x.op, .int .i64 x.en, .int .i64 x.ra, .int .i64 x.ow, .int .i64 x.ro]
          have hB6 := hB5.trans (hb2.mono hs5)
          have hown6 := own_below hown5 hb2
          clear c0 hb5 hB hB5 hown hown5 hsz hs5
          go_upto_region 10 with fail
          generalize w5.alloc (.cells #[.int .i64 x.id, .int .i64 x.fr, .int .i64 x.tn, .int .i64 x.op, .int .i64 x.en, .int .i64 x.ra, .int .i64 x.ow, .int .i64 x.ro] 47) = w6 at *
          generalize w5.heap.size = be at *
          clear hb2
          have k0 : w6.cell? ⟨be, 0, none⟩ = some (.int .i64 x.id) := hEb.cell 0
          have k1 : w6.cell? ⟨be, 1, none⟩ = some (.int .i64 x.fr) := hEb.cell 1
          have k2 : w6.cell? ⟨be, 2, none⟩ = some (.int .i64 x.tn) := hEb.cell 2
          have k3 : w6.cell? ⟨be, 3, none⟩ = some (.int .i64 x.op) := hEb.cell 3
          have k4 : w6.cell? ⟨be, 4, none⟩ = some (.int .i64 x.en) := hEb.cell 4
          have k5 : w6.cell? ⟨be, 5, none⟩ = some (.int .i64 x.ra) := hEb.cell 5
          have k6 : w6.cell? ⟨be, 6, none⟩ = some (.int .i64 x.ow) := hEb.cell 6
          have k7 : w6.cell? ⟨be, 7, none⟩ = some (.int .i64 x.ro) := hEb.cell 7
          have lt_e := hEb.lt
          have hs6 := hB6.size
          cases hp : x.pass t' size with
          | none =>
            have hov : o = none := by rw [← HF.out, HDR.out, passE_no hp]; rfl
            have HOV := Lib.hid hov
            have HP := Lib.hid hp
            clear hp hov
            go_wp2_with fail
            refine (rhpass_no HP.out _).mono ?_
            rintro e w7 ⟨rfl, hb⟩
            go_wp2_with fail
            go_ret2
            rw [HOV.out]
            exact ⟨_, rfl, World.ownsRow_nil _ _ _ _, hB6.trans (hb.mono hs6)⟩
          | some p =>
            obtain ⟨a, b⟩ := p
            have hnx : (passE size (es.drop (i + 1)) b).map ((hs ++ [⟨x.id, a, b⟩]) ++ ·) = o := by
              rw [← HF.out, HDR.out, passE_yes hp, map_app]
            have HNX := Lib.hid hnx
            have HP := Lib.hid hp
            clear hp hnx
            go_wp2_with fail
            refine (rhpass_yes HP.out _).mono ?_
            rintro e w7 ⟨rfl, hb⟩
            clear k0 k1 k2 k3 k4 k5 k6 k7 lt_e
            have hB7 := hB6.trans (hb.mono hs6)
            have hown7 := own_below hown6 hb
            have hs7 := hB7.size
            obtain ⟨ad', he, hab', c0⟩ := (HFI.out w7 hB7).lst.atI HI.out him
            injection he with he
            subst he
            rw [HID.out] at c0
            clear hb hB6 hown6 hs6 hEb
            go_wp2_with (first | (at_builtin; refine wpList_append_own _ rfl _ _ 25 rfl w.heap.size 42 i0 _ 3 24 Tryz.underlying25 hi0 hz0 hz1 hz2 rfl (by decide) _ _ _ rfl (hown7.alloc _) ⟨w7.heap.size, 0, none⟩ 1 1 [.int .i64 x.id, .int .i64 a, .int .i64 b] rfl rfl (by exact lit_cells w7 #[.int .i64 x.id, .int .i64 a, .int .i64 b] _ _ rfl) (by simp [Value.oneCell']) (by unfold maxLen; omega) (by omega) (by simp; omega) ?_; intro v' w8 hown' hgrow3 hnil3))
            have hbN : Below w.heap.size w w8 := (hB7.alloc hs7 _).grown hgrow3 (by simp; omega) (fun q hq => (hown7.lt q hq).1)
            clear hgrow3 hnil3 c0
            go_wp2_with fail
            go_roundw
            case rel => exact ⟨hs ++ [⟨x.id, a, b⟩], b, i + 1, by go_num, rfl, by omega, by simp [Hid, HE.out], (by rw [flatHp_append, flatHp_one_]; exact hown'), HNX, hbN⟩
            case measure => simp [intOf]; omega
        · obtain rfl : i = m := by omega
          have hov : o = some hs := by
            rw [← HF.out, List.drop_of_length_le (by rw [HLE.out]; omega), passE_nil]; simp
          have HOV := Lib.hid hov
          clear hov
          go_wp2_with fail
          go_ret2
          rw [HOV.out]
          refine ⟨_, rfl, ?_, hB⟩
          rw [show ((some hs).getD []).length = i from HE.out]
          exact hown
end Go.Proofs.YtmbaklodgpcegaaGreat
