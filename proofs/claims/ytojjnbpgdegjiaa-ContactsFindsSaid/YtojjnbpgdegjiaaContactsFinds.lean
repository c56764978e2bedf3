/- Each contact is found by its ID, and no other one is: ContactsFinds returns true. No condition. -/
import Derived.Test.YtojjnbpgdegjiaaRows
import Derived.Test.YtojjnbpgdegjiaaContactsMath
import Derived.Test.YtojjnbpgdegjiaaOpenS
namespace Go.Proofs.Ytojjnbpgdegjiaa
open Go.ChangeShapes Go.WideShapes Go.ChangeAt Go.RowKit Go.Sort
set_option linter.unusedSimpArgs false
set_option linter.unusedVariables false
theorem first_id (d : List Co) (id : Int) (h : idIn d id = true) : ∃ q, q < d.length ∧ (∀ j, j < q → ((gCo d j).id == id) = false) ∧ ((gCo d q).id == id) = true := firstHitCo h
theorem no_id {d : List Co} {id : Int} (h : idIn d id = false) {j : Nat} (hj : j < d.length) : ((gCo d j).id == id) = false := noHitCo h hj
set_option maxHeartbeats 8000000 in
set_option maxRecDepth 100000 in
theorem finds_walk (A : Option Addr) (n c : Nat) (d : List Co) (id : Int) (hd : d.length = n) (w : World) (hl : Sl w w.heap.size 6 A n c (flatCo d)) :
    Calls Try.prog 8 #[.slice A n c, .int .i64 id] w fun e w' => e = .returned (.bool true) ∧ Below w.heap.size w w' := by
  by_cases hn : 50 < n
  · go_enter Try.func8, Try.ntmps8
    go_wp2_with fail
    refine (small06 _).mono ?_
    rintro e w1 ⟨rfl, hB⟩
    go_wp2
    go_ret
    exact ⟨rfl, hB⟩
  · have g1 : decide ((n : Int) > 50) = false := by simp; omega
    have hn50 : n ≤ 50 := by omega
    go_enter Try.func8, Try.ntmps8
    go_wp2_with fail
    refine (small06 _).mono ?_
    rintro e w1 ⟨rfl, hB⟩
    replace hl := hl.below hB
    have hs := hB.size
    go_wp2_with fail
    refine (right_any A n c d w1 hd (by omega) (hl.more hs)).mono ?_
    rintro e w2 ⟨rfl, hb⟩
    replace hl := hl.below (hb.mono hs)
    replace hB := hB.trans (hb.mono hs)
    clear hb
    replace hs := hB.size
    cases hrt : rightC d
    · go_wp2_with fail
      go_ret
      exact ⟨rfl, hB⟩
    · have HD := Lib.hid hd
      have HR := Lib.hid hrt
      have HL := Lib.hid hl
      clear hrt hl hd g1
      go_wp2
      go_loopw [6, 7] (fun hv iv wr => ∃ k : Nat, k ≤ n ∧ iv = .int .i64 k ∧ hv = .bool (idIn (d.take k) id) ∧ Below w.heap.size w wr ∧ Hid (Sl wr w.heap.size 6 A n c (flatCo d))) (fun _ iv _ => n - (intOf iv).toNat)
      case atStart => exact ⟨0, by omega, rfl, by simp [idIn], hB, HL.out⟩
      case round =>
        clear hB hs HL
        obtain ⟨k, hk, rfl, rfl, hB, HL⟩ := hrel
        have hs := hB.size
        by_cases hkn : k < n
        · obtain ⟨ad, rfl, hab, c0, c1, c2, c3, c4, c5⟩ := HL.out.lst.atCo HD.out hkn
          obtain ⟨x, hx⟩ : ∃ x, gCo d k = x := ⟨_, rfl⟩
          obtain ⟨t1, hb1⟩ : ∃ b, idIn (d.take k) id = b := ⟨_, rfl⟩
          obtain ⟨t2, hb2⟩ : ∃ b, (x.id == id) = b := ⟨_, rfl⟩
          have hnext : idIn (d.take (k + 1)) id = (t1 || t2) := by
            rw [idIn_next (by have := HD.out; omega), hx, hb1, ← hb2]
            by_cases e : id = x.id
            · rw [if_pos e, e]; simp
            · rw [if_neg e]
              have : (x.id == id) = false := by rw [beq_eq_false_iff_ne]; exact fun e2 => e e2.symm
              rw [this]; simp
          rw [hb1]
          have hq1 : ∀ j, j < k → ((gCo d j).id == x.id) = false := fun j hj => by
            rw [beq_eq_false_iff_ne, ← hx]
            exact right_ids HR.out hj (by have := HD.out; omega)
          have hq2 : ((gCo d k).id == x.id) = true := by rw [hx]; simp
          rw [hx] at c0 c1 c2 c3 c4 c5
          have HX := Lib.hid hx
          have HQ1 := Lib.hid hq1
          have HQ2 := Lib.hid hq2
          have HN := Lib.hid hnext
          have HB1 := Lib.hid hb1
          clear hx hq1 hq2 hnext hb1
          go_wp2_with fail
          clear c0 c1 c2 c3 c4 c5
          refine (find_yes (some ad) n c d x.id wr k HD.out (by omega) (HL.out.more hs) hkn HQ1.out HQ2.out).mono ?_
          rw [HX.out]
          rintro e w3 ⟨rfl, hb⟩
          have hl3 := HL.out.below (hb.mono hs)
          have hB3 := hB.trans (hb.mono hs)
          have hs3 := hB3.size
          clear hb HL hB
          go_wp2_with fail
          have hXx := Blok.new w3 28 #[.int .i64 x.id, .int .i64 x.fr, .int .i64 x.tn, .int .i64 x.st, .int .i64 x.en, .int .i64 x.rt]
          have hba : Below w3.heap.size w3 (w3.alloc (.cells #[.int .i64 x.id, .int .i64 x.fr, .int .i64 x.tn, .int .i64 x.st, .int .i64 x.en, .int .i64 x.rt] 28)) := by (repeat (first | exact Below.refl _ _ | refine Below.alloc ?_ (by first | omega | (simp; done) | (simp; omega)) _ | refine Below.setCell ?_ (by first | omega | (simp; done) | (simp; omega)) _ | refine Below.drew ?_))
          have hl4 := hl3.below (hba.mono hs3)
          have hB4 := hB3.trans (hba.mono hs3)
          have hs4 := hB4.size
          clear hl3 hB3 hba
          generalize hbb : w3.heap.size = bb at *
          generalize w3.alloc (.cells #[.int .i64 x.id, .int .i64 x.fr, .int .i64 x.tn, .int .i64 x.st, .int .i64 x.en, .int .i64 x.rt] 28) = w4 at *
          clear hbb
          obtain ⟨ad', he, hab', c0, c1, c2, c3, c4, c5⟩ := hl4.lst.atCo HD.out hkn
          injection he with he
          subst he
          rw [HX.out] at c0 c1 c2 c3 c4 c5
          have b0 : w4.cell? ⟨bb, 0, none⟩ = some (.int .i64 x.id) := hXx.cell 0
          have b1 : w4.cell? ⟨bb, 1, none⟩ = some (.int .i64 x.fr) := hXx.cell 1
          have b2 : w4.cell? ⟨bb, 2, none⟩ = some (.int .i64 x.tn) := hXx.cell 2
          have b3 : w4.cell? ⟨bb, 3, none⟩ = some (.int .i64 x.st) := hXx.cell 3
          have b4 : w4.cell? ⟨bb, 4, none⟩ = some (.int .i64 x.en) := hXx.cell 4
          have b5 : w4.cell? ⟨bb, 5, none⟩ = some (.int .i64 x.rt) := hXx.cell 5
          have hlb := hXx.lt
          have habw : ad.block < w4.heap.size := by omega
          have hrun : ∀ w0, (binOp .neq 28 (.agg #[.int .i64 x.id, .int .i64 x.fr, .int .i64 x.tn, .int .i64 x.st, .int .i64 x.en, .int .i64 x.rt]) (.agg #[.int .i64 x.id, .int .i64 x.fr, .int .i64 x.tn, .int .i64 x.st, .int .i64 x.en, .int .i64 x.rt])).run Try.prog w0 = .ok (.bool false) w0 := fun w0 => by rw [neqCo x x]; simp
          have HL4 := Lib.hid hl4
          clear hl4 hXx
          have q_b0 := fun d os => cell_regrown b0 d os
          have q_b1 := fun d os => cell_regrown b1 d os
          have q_b2 := fun d os => cell_regrown b2 d os
          have q_b3 := fun d os => cell_regrown b3 d os
          have q_b4 := fun d os => cell_regrown b4 d os
          have q_b5 := fun d os => cell_regrown b5 d os
          have q_c0 := fun d os => cell_regrown c0 d os
          have q_c1 := fun d os => cell_regrown c1 d os
          have q_c2 := fun d os => cell_regrown c2 d os
          have q_c3 := fun d os => cell_regrown c3 d os
          have q_c4 := fun d os => cell_regrown c4 d os
          have q_c5 := fun d os => cell_regrown c5 d os
          try simp only [List.append]
          first | refine wp_region_text_below ?_ | refine wp_region_quiet_below (by kernel_rfl) (by kernel_rfl) ?_
          repeat (go_big_quiet_step ((fail)))
          refine wpQuiet_nil ?_
          intro _ hqw
          obtain ⟨pq, hqw⟩ := hqw
          subst hqw
          clear q_b0 q_b1 q_b2 q_b3 q_b4 q_b5 q_c0 q_c1 q_c2 q_c3 q_c4 q_c5
          have hbel := below_regrown w4 pq.d pq.os
          have hl5 := HL4.out.below (hbel.mono hs4)
          have hB5 := hB4.trans (hbel.mono hs4)
          have hs5 := hB5.size
          clear hbel b0 b1 b2 b3 b4 b5 c0 c1 c2 c3 c4 c5 hrun HL4 hB4 hs4
          generalize grow (redrawn w4 pq.d) pq.os = wq at *
          obtain ⟨ad', he, hab', c0, c1, c2, c3, c4, c5⟩ := hl5.lst.atCo HD.out hkn
          injection he with he
          subst he
          rw [HX.out] at c0
          have HL5 := Lib.hid hl5
          clear c1 c2 c3 c4 c5 hl5
          cases t1
          · obtain ⟨t3, ht3⟩ : ∃ t, (x.id == id) = t := ⟨_, rfl⟩
            have HT : Hid (idIn (d.take (k + 1)) id = t3) := by
              have := HN.out
              rw [← hb2, ht3] at this
              exact Lib.hid (by simpa using this)
            clear hb2 HN
            cases t3
            all_goals
              go_wp2
              go_roundw
              case rel => exact ⟨k + 1, by omega, by go_num, by rw [HT.out], hB5, HL5.out⟩
              case measure => simp [intOf]; omega
          · clear hb2
            go_wp2
            go_roundw
            case rel => exact ⟨k + 1, by omega, by go_num, by rw [HN.out]; rfl, hB5, HL5.out⟩
            case measure => simp [intOf]; omega
        · obtain rfl : k = n := by omega
          have hdk : d.take k = d := List.take_of_length_le (by have := HD.out; omega)
          rw [hdk]
          clear hdk
          cases hid : idIn d id
          · have hno : ∀ j, j < k → ((gCo d j).id == id) = false := fun j hj => no_id hid (by have := HD.out; omega)
            clear hid
            have HNO := Lib.hid hno
            clear hno
            go_wp2_with fail
            refine (find_no A k c d id wr HD.out (by omega) (HL.out.more hs) HNO.out).mono ?_
            rintro e w3 ⟨rfl, hb⟩
            have hB3 := hB.trans (hb.mono hs)
            have hs3 := hB3.size
            clear hb HL hB
            have hrun : ∀ w0, (binOp .eql 28 (.agg #[.int .i64 0, .int .i64 0, .int .i64 0, .int .i64 0, .int .i64 0, .int .i64 0]) (.agg #[.int .i64 0, .int .i64 0, .int .i64 0, .int .i64 0, .int .i64 0, .int .i64 0])).run Try.prog w0 = .ok (.bool true) w0 := fun w0 => by
              have := eqlCo ⟨0, 0, 0, 0, 0, 0⟩ ⟨0, 0, 0, 0, 0, 0⟩ w0
              simpa using this
            go_wp2
            go_ret
            exact ⟨rfl, by (repeat (first | exact Below.refl _ _ | exact hB3 | refine Below.alloc ?_ (by first | omega | (simp; done) | (simp; omega)) _ | refine Below.setCell ?_ (by first | omega | (simp; done) | (simp; omega)) _ | refine Below.drew ?_ | refine Below.trans ?_ (hB3.mono (by first | omega | (simp; done) | (simp; omega)))))⟩
          · obtain ⟨q, hq, hq1, hq2⟩ := first_id d id hid
            obtain ⟨x, hx⟩ : ∃ x, gCo d q = x := ⟨_, rfl⟩
            have hxi : (x.id == id) = true := by rw [← hx]; exact hq2
            have HX := Lib.hid hx
            have HQ1 := Lib.hid hq1
            have HQ2 := Lib.hid hq2
            have hqk : q < k := by have := HD.out; omega
            clear hid hx hq1 hq2 hq
            go_wp2_with fail
            refine (find_yes A k c d id wr q HD.out (by omega) (HL.out.more hs) hqk HQ1.out HQ2.out).mono ?_
            rw [HX.out]
            rintro e w3 ⟨rfl, hb⟩
            have hB3 := hB.trans (hb.mono hs)
            have hs3 := hB3.size
            clear hb HL hB
            go_wp2
            go_ret
            exact ⟨rfl, by (repeat (first | exact Below.refl _ _ | exact hB3 | refine Below.alloc ?_ (by first | omega | (simp; done) | (simp; omega)) _ | refine Below.setCell ?_ (by first | omega | (simp; done) | (simp; omega)) _ | refine Below.drew ?_ | refine Below.trans ?_ (hB3.mono (by first | omega | (simp; done) | (simp; omega)))))⟩
theorem contactsFinds_walk (A : Option Addr) (n c : Nat) (ns : List Int) (id : Int) (hnl : ns.length = n * 6) (_ : ∀ m ∈ ns, (Lit.int .i64 m).wf = true) (_ : (Lit.int .i64 id).wf = true) (w : World) (hl : Sl w w.heap.size 6 A n c (ns.map (Value.int .i64))) :
    Calls Try.prog 8 #[.slice A n c, .int .i64 id] w fun e w' => e = .returned (.bool true) ∧ Below w.heap.size w w' := by
  obtain ⟨d, hd, hlf⟩ := rowsCo_of n ns hnl
  rw [hlf] at hl
  exact finds_walk A n c d id hd w hl
theorem contactsFinds_own : ownKnob Try.prog.godebug = none := by kernel_rfl
theorem contactsFinds_laidOut : laidOutB Try.prog = true := by kernel_rfl

set_option maxHeartbeats 1000000 in
set_option maxRecDepth 100000 in
theorem contactsFinds_lifted (os : Os) (started : os.Started) (H : Type) (enc : TypeId × Value → H) :
    ReturnsInHanded {} Try.checked os 8 .any (Rows.contactsFindsSpec.pre6 enc Try.prog Try.f8 Rows.contactsFindsRow.domain false) (Rows.contactsFindsSpec.post enc Try.prog Try.f8 false true false false) := by
  refine returnsInHanded_of_change (C := Try.checked) contactsFinds_own started (by kernel_rfl) Try.func8
    (ChangeSpec.witness6 (enc := enc) (C := Try.checked) false ⟨#[], #[.slice none 0 0, .int .i64 0], []⟩ 8 (by kernel_rfl) (by kernel_rfl) (by kernel_rfl) (by kernel_rfl)) ?_
  intro W base args ds gs before hval0 hW hcnd _
  have hval : ∀ (j : Nat) t v, Try.f8.params[j]? = some t → args[j]? = some v → Value.okWide Try.prog W .any base t v := hval0
  have hW' := hW
  obtain ⟨p, q, hA0, hV, rfl, hfz, hnd⟩ := hW
  have hA : DataW.TrodAll enc Try.prog W 0 (fun _ => true) true Try.f8.params.toList args.toList ds p := hA0
  rw [Try.params8] at hA hval
  obtain ⟨v0, vs0, d0, ds0, p0, q0, hargs, rfl, rfl, h0, r0⟩ := trodAll_cons hA
  obtain ⟨v1, vs1, d1, ds1, p1, q1, rfl, rfl, rfl, h1, r1⟩ := trodAll_cons r0
  obtain ⟨rfl, rfl, rfl⟩ := trodAll_nil r1
  obtain rfl : args = #[v0, v1] := by cases args; simp_all
  obtain ⟨rfl, rfl⟩ := trodVars_none hV
  obtain ⟨A0, n0, c0, ns0, rfl, hl0, nl0, w0⟩ := open_rowsS 4 (K := 6) Try.underlying22 (by kernel_rfl) (by kernel_rfl) (by omega) (hval 0 22 v0 rfl rfl) h0
  obtain ⟨a1, rfl, rfl, rfl, w1⟩ := open_int Try.underlying3 (hval 1 3 v1 rfl rfl) h1
  clear hA0 hval0
  refine (contactsFinds_walk A0 n0 c0 ns0 a1 nl0 w0 w1 W hl0).mono fun e W' ⟨he, bel⟩ => ?_
  subst he
  exact ⟨_, rfl, law_post contactsFinds_laidOut (by kernel_rfl) rfl Try.underlying4 rfl rfl hW' bel⟩

theorem contactsFinds_proved : Rows.ContactsFindsSaid :=
  OpenClaim.holds_of_wide 8 Try.f8 rfl rfl rfl rfl rfl rfl rfl ⟨rfl, rfl, rfl, rfl, rfl⟩ rfl rfl rfl rfl rfl (by kernel_rfl) Try.func8 (by kernel_rfl)
    (of_decide_eq_true (by kernel_rfl)) (by unfold Func.isWrapper; first | (rw [if_pos (by decide +kernel)]; kernel_rfl) | (rw [if_neg (by decide +kernel)]; exact ⟨rfl, rfl⟩))
    (fun os started H enc _ => contactsFinds_lifted os started H enc)
#print axioms contactsFinds_proved
end Go.Proofs.Ytojjnbpgdegjiaa
