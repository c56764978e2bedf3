/- Each act is one of the seven calls, and what is loaded is a text that is read, or has a fault in its first line: ScriptCounts returns true. No condition. -/
import Derived.Test.YtggdomeeienjbaaGreatDoorW2
import Derived.Test.YtggdomeeienjbaaGreatDoorRows
import Derived.Test.YtggdomeeienjbaaGreatDoorTie
import Derived.Test.YtggdomeeienjbaaGreatDoorCards
import Derived.Test.YtggdomeeienjbaaGreatDoorTxMath
import Derived.Test.YtggdomeeienjbaaGreatDoorWOpen
import Derived.LaidMore
import Derived.LaidSub
import Derived.Stop.Joined
import Derived.SevenTiedAt
namespace Go.Proofs.YtggdomeeienjbaaGreatDoor
open Go.ChangeShapes Go.WideShapes Go.ChangeAt Go.RowKit Go.Sort
set_option linter.unusedSimpArgs false
set_option linter.unusedVariables false
theorem ten_counts {W : World} (h : laidMetH Tryz.prog Rows.scriptCountsRow.laid W) (hs : W.ShapedOpen Tryz.prog) : TenTab W ∧ MaxAt W := by
  refine ⟨?_, max_of_shaped hs⟩
  have h1 := laidMetH.filter (fun x => x.1 == "internal/strconv.uint64pow10") h
  rw [MakeChecks.laidMetH_plain _ _ _ (by kernel_rfl)] at h1
  have h2 : laidMet Tryz.prog [("internal/strconv.uint64pow10", Lib.tabData .u64 Lib.pow10Tab)] W := h1
  exact Lib.tabIs_of_head (g := 3) (t := 133) (e := 127) (n := 20) (by kernel_rfl) (by kernel_rfl) Tryz.underlying133 Tryz.underlying127 (by kernel_rfl) (by kernel_rfl) h2
theorem tdiv_nat (n : Nat) : (n : Int).tdiv 10 = ((n / 10 : Nat) : Int) := by rfl
/-- What a text says: an act's. -/
structure GoodA (p : Pa) : Prop where
  lo : 1 ≤ p.dk
  hi : p.dk ≤ 7
  no : p.dk ≠ 1 → p.tx = []
  len : p.tx.length ≤ 400
  one : (textF (linesL p.tx) 1).2.2 = 0 → p.dk = 1 → 1 ≤ (textF (linesL p.tx) 1).1.length ∧ (textF (linesL p.tx) 1).1.length ≤ 2
  bad : (textF (linesL p.tx) 1).2.2 ≠ 0 → (textF (linesL p.tx) 1).2.1 = 1
theorem text_nil : textF (linesL []) 1 = ([], 0, 0) := by decide +kernel
theorem good_nil {p : Pa} (h1 : 1 ≤ p.dk) (h2 : p.dk ≤ 7) (h3 : p.dk ≠ 1) (h4 : p.tx = []) : GoodA p :=
  ⟨h1, h2, fun _ => h4, by rw [h4]; simp, fun _ h => absurd h h3, fun h => by rw [h4, text_nil] at h; exact absurd rfl h⟩
theorem good_lines (D : Dr) (b : Nat) : GoodA ⟨1, linesF D b, zeroDr, 0, [], 0, 0, 0, 0, 0, 0, 0⟩ := by
  obtain ⟨l, hl1, hl2, hl⟩ : ∃ l : List Dr, 1 ≤ l.length ∧ l.length ≤ 2 ∧ (if b % 2 = 1 then [D, D] else [D]) = l := by
    by_cases h : b % 2 = 1
    · exact ⟨[D, D], by simp, by simp, by rw [if_pos h]⟩
    · exact ⟨[D], by simp, by simp, by rw [if_neg h]⟩
  have e : linesF D b = (printF l).getD [120, 10] := by unfold linesF; rw [hl]
  by_cases hr : ∀ d ∈ l, rightD d = true
  · have hp := print_all hr
    have ht := text_print hr 1
    have hn := print_len hr
    rw [hp] at e
    have e' : linesF D b = allL (l.map wordsD) := e
    refine ⟨by simp, by simp, fun h => absurd rfl h, ?_, fun _ _ => ?_, fun h => ?_⟩
    · show (linesF D b).length ≤ 400
      rw [e']; omega
    · show 1 ≤ (textF (linesL (linesF D b)) 1).1.length ∧ (textF (linesL (linesF D b)) 1).1.length ≤ 2
      rw [e', ht]; exact ⟨hl1, hl2⟩
    · have h' : (textF (linesL (linesF D b)) 1).2.2 ≠ 0 := h
      rw [e', ht] at h'
      exact absurd rfl h'
  · have hn : printF l = none := by
      have h := @print_some l
      cases hp : printF l with
      | none => rfl
      | some t =>
        rw [hp] at h
        exact absurd (List.all_eq_true.1 h.symm) hr
    rw [hn] at e
    have e' : linesF D b = [120, 10] := e
    have hb : (textF (linesL [120, 10]) 1).2.1 = 1 := by decide +kernel
    have hc : (textF (linesL [120, 10]) 1).2.2 ≠ 0 := by decide +kernel
    refine ⟨by simp, by simp, fun h => absurd rfl h, ?_, fun h _ => ?_, fun _ => ?_⟩
    · show (linesF D b).length ≤ 400
      rw [e']; decide
    · have h' : (textF (linesL (linesF D b)) 1).2.2 = 0 := h
      rw [e'] at h'
      exact absurd h' hc
    · show (textF (linesL (linesF D b)) 1).2.1 = 1
      rw [e']; exact hb
theorem good_act (b0 b1 b2 b3 b4 b5 b6 b7 b8 : Nat) : GoodA (actF b0 b1 b2 b3 b4 b5 b6 b7 b8) := by
  unfold actF
  repeat' split
  · exact good_lines _ _
  all_goals exact good_nil (by simp) (by simp) (by simp) rfl
theorem good_acts : ∀ (k : Nat) (l : List Nat), l.length ≤ k → ∀ p ∈ actsF l, GoodA p
  | 0, l, h, p, hp => by rw [actsF_nil (by omega)] at hp; cases hp
  | k + 1, l, h, p, hp => by
    by_cases hl : 10 ≤ l.length
    · rw [actsF_next hl] at hp
      rcases List.mem_cons.1 hp with rfl | hp
      · exact good_act _ _ _ _ _ _ _ _ _
      · exact good_acts k _ (by simp; omega) p hp
    · rw [actsF_nil (by omega)] at hp; cases hp
def lowF (L : List Ax) (k : Nat) : Nat := (L.filter fun x => decide (x.p.dk < (k : Int))).length
theorem lowF_le (L : List Ax) (k : Nat) : lowF L k ≤ L.length := List.length_filter_le _ _
theorem lowF_next (k : Nat) : ∀ L : List Ax, lowF L (k + 1) = lowF L k + cntF L k
  | [] => rfl
  | x :: L => by
    have ih := lowF_next k L
    unfold lowF cntF at ih ⊢
    by_cases h1 : x.p.dk < (k : Int)
    · have h2 : x.p.dk < ((k + 1 : Nat) : Int) := by omega
      have h3 : (x.p.dk == (k : Int)) = false := by simp; omega
      simp only [List.filter, h1, h2, h3, decide_true, List.length_cons, ih]
      omega
    · by_cases h4 : x.p.dk = (k : Int)
      · have h2 : x.p.dk < ((k + 1 : Nat) : Int) := by omega
        have h3 : (x.p.dk == (k : Int)) = true := by simp [h4]
        simp only [List.filter, h1, h2, h3, decide_true, decide_false, List.length_cons, ih]
        omega
      · have h2 : ¬ x.p.dk < ((k + 1 : Nat) : Int) := by omega
        have h3 : (x.p.dk == (k : Int)) = false := by simp [h4]
        simp only [List.filter, h1, h2, h3, decide_false, ih]
theorem lowF_one {L : List Ax} (h : ∀ x ∈ L, GoodA x.p) : lowF L 1 = 0 := by
  unfold lowF
  rw [List.length_eq_zero_iff, List.filter_eq_nil_iff]
  intro x hx
  have := (h x hx).lo
  simp; omega
theorem lowF_all {L : List Ax} (h : ∀ x ∈ L, GoodA x.p) : lowF L 8 = L.length := by
  unfold lowF
  rw [List.filter_eq_self.2]
  intro x hx
  have := (h x hx).hi
  simp; omega
theorem cntF_zero {L : List Ax} (h : ∀ x ∈ L, GoodA x.p) : cntF L 0 = 0 := by
  unfold cntF
  rw [List.length_eq_zero_iff, List.filter_eq_nil_iff]
  intro x hx
  have := (h x hx).lo
  simp; omega
set_option maxHeartbeats 16000000 in
set_option maxRecDepth 100000 in
theorem scriptCounts_walk (A : Option Addr) (n c : Nat) (ns : List Nat) (hnl : ns.length = n) (hby : ∀ x ∈ ns, x < 256) (w : World) (hT : TenTab w ∧ MaxAt w) (hl : Sl w w.heap.size 1 A n c (cB ns)) :
    Calls Tryz.prog 3 #[.slice A n c] w fun e w' => e = .returned (.bool true) ∧ Below w.heap.size w w' := by
  by_cases hbad : 500 < n
  · go_enter Tryz.func3, Tryz.ntmps3
    go_wp2_with fail
    refine (small25_any w hT.1).mono ?_
    rintro e w1 ⟨rfl, hB⟩
    go_wp2
    go_ret
    exact ⟨rfl, hB⟩
  · have hn5 : n ≤ 500 := by omega
    obtain ⟨m, hm⟩ : ∃ m, n / 10 = m := ⟨_, rfl⟩
    obtain ⟨r, hr⟩ : ∃ r, n % 10 = r := ⟨_, rfl⟩
    have hm9 : m ≤ 50 := by omega
    have g1 : decide ((n : Int) > 500) = false := decide_eq_false (by omega)
    have HBY := Lib.hid hby
    have HNL := Lib.hid hnl
    have TT := Lib.hid hT
    have HL := Lib.hid hl
    have HM := Lib.hid hm
    have HR := Lib.hid hr
    have HN5 := Lib.hid hn5
    clear hm hr hby hnl hT hl hbad hn5
    go_enter Tryz.func3, Tryz.ntmps3
    go_wp2_with fail
    refine (small25_any w TT.out.1).mono ?_
    rintro e w1 ⟨rfl, hB⟩
    have hs := hB.size
    go_wp2_with fail
    refine (sacts_any A n c ns HNL.out (by have := HN5.out; omega) HBY.out w1 (TT.out.1.below hB) (HL.out.up hB)).mono ?_
    rintro e w2 ⟨v1, L, rfl, hI, hb⟩
    rw [HM.out] at hI
    rw [HR.out]
    replace hB := hB.trans (hb.mono hs)
    replace hs := hB.size
    clear hb
    have hgood : ∀ x ∈ L, GoodA x.p := fun x hx => good_acts ns.length ns (Nat.le_refl _) x.p (by rw [← hI.rows]; exact List.mem_map_of_mem hx)
    have ho := hI.own
    obtain ⟨A1, c1, rfl⟩ := slice_of_own ho
    have hS := Sl.of_own ho
    have hok : ∀ x ∈ L, x.ok w2 := fun x hx => (hI.ids x hx).ok
    have hlen := hI.len
    have HS := Lib.hid hS
    have HG := Lib.hid hgood
    have HOK := Lib.hid hok
    have HLN := Lib.hid hlen
    clear ho hI hS hgood hok hlen
    go_wp2_with fail
    go_loopw [6, 7] (fun nv iv wr => ∃ k j : Nat, iv = .int .i64 k ∧ 1 ≤ k ∧ k ≤ 8 ∧ nv = .int .i64 j ∧ Hid (j = lowF L k) ∧ j ≤ 50 ∧ Below w2.heap.size w2 wr) (fun _ iv _ => 8 - (intOf iv).toNat)
    case atStart => exact ⟨1, 0, rfl, by omega, by omega, rfl, (lowF_one HG.out).symm, by omega, Below.refl _ _⟩
    case round =>
      obtain ⟨k, j, rfl, hk1, hk8, rfl, HJ, hj, hC⟩ := hrel
      have hsc := hC.size
      by_cases hk7 : k ≤ 7
      · have q1 : decide ((k : Int) ≤ 7) = true := decide_eq_true (by omega)
        go_wp2_with fail
        refine (scount_any A1 m c1 L k wr HLN.out (by omega) (HS.out.up hC)).mono ?_
        rintro e w3 ⟨rfl, hb⟩
        replace hC := hC.trans (hb.mono hsc)
        clear hb hsc
        have hnx := lowF_next k L
        have hle := lowF_le L (k + 1)
        rw [HLN.out] at hle
        obtain ⟨i, hi⟩ : ∃ i, cntF L k = i := ⟨_, rfl⟩
        rw [hi, ← HJ.out] at hnx
        rw [hi]
        have hji : j + i ≤ 50 := by omega
        have HNX := Lib.hid (show j + i = lowF L (k + 1) from hnx.symm)
        clear hi hnx hle
        have hw1 : IntKind.i64.wrap ((j : Int) + (i : Int)) = (j : Int) + (i : Int) := IntWalk.i64_in _ (by omega)
        have hw2 : IntKind.i64.wrap ((k : Int) + 1) = (k : Int) + 1 := IntWalk.i64_in _ (by omega)
        go_wp2_with fail
        go_roundw
        case rel => exact ⟨k + 1, j + i, by go_num, by omega, by omega, by go_num, HNX, hji, hC⟩
        case measure => simp [intOf]; omega
      · obtain rfl : k = 8 := by omega
        have hjm : j = m := by rw [HJ.out, lowF_all HG.out, HLN.out]
        subst hjm
        clear HJ hj hk1 hk8 hk7
        go_wp2_with fail
        go_loopw [8] (fun iv wr => ∃ k : Nat, iv = .int .i64 k ∧ k ≤ j ∧ Below w2.heap.size w2 wr) (fun iv _ => j - (intOf iv).toNat)
        case atStart => exact ⟨0, rfl, by omega, hC⟩
        case round =>
          clear hC hsc
          obtain ⟨k, rfl, hk, hC⟩ := hrel
          have hsc := hC.size
          by_cases hkn : k < j
          · obtain ⟨ad, rfl, hab, hca⟩ := (HS.out.below hC).lst.axAt HLN.out hkn
            have hg := HG.out _ (gAx_mem (d := L) (i := k) (by rw [HLN.out]; exact hkn))
            obtain ⟨x, hx⟩ : ∃ x, gAx L k = x := ⟨_, rfl⟩
            rw [hx] at hca hg
            have c_0 : wr.cell? (ad.add (k * 24)) = some (.int .i64 x.p.dk) := hca 0 _ rfl
            have c_1 : wr.cell? ⟨(ad.add (k * 24)).block, (ad.add (k * 24)).off + 1, none⟩ = some (.string (bs x.p.tx)) := by rw [← add_two ad (k * 24) 1 (by decide)]; exact hca 1 _ rfl
            have HCA := Lib.hid hca
            have HGX := Lib.hid hg
            clear hca hg hx
            have hw2 : IntKind.i64.wrap ((k : Int) + 1) = (k : Int) + 1 := IntWalk.i64_in _ (by omega)
            go_wp2_with fail
            obtain ⟨T, hT⟩ : ∃ T, textF (linesL x.p.tx) 1 = T := ⟨_, rfl⟩
            obtain ⟨ds, ln, cd⟩ := T
            refine (tparse_any (bs x.p.tx) _ _ rfl rfl wr (TT.out.2.below (hB.trans (hC.mono hs))) (by rw [bs_list]; have := HGX.out.len; omega) ds ln cd (by rw [bs_list]; exact hT)).mono ?_
            rintro e w4 ⟨v, rfl, hown, hb⟩
            obtain ⟨A2, c2, rfl⟩ := slice_of_own hown
            have hone := HGX.out.one
            have hbadx := HGX.out.bad
            rw [hT] at hone hbadx
            obtain ⟨dl, hdl⟩ : ∃ dl, ds.length = dl := ⟨_, rfl⟩
            have hnil : x.p.tx = [] → cd = 0 := fun e => by rw [e, text_nil] at hT; injection hT with _ h2; injection h2 with _ h3; exact h3.symm
            have HNIL := Lib.hid hnil
            have HONE := Lib.hid (show cd = 0 → x.p.dk = 1 → 1 ≤ dl ∧ dl ≤ 2 by rw [← hdl]; exact hone)
            have HBAD := Lib.hid (show cd ≠ 0 → ln = 1 from hbadx)
            rw [hdl]
            have habr : ad.block < wr.heap.size := Nat.lt_of_lt_of_le hab hsc
            clear hown hT hone hbadx hnil hdl c_0 c_1
            replace hC := hC.trans (hb.mono hsc)
            replace hsc := hC.size
            have hca2 : ∀ j u, x.cs[j]? = some u → w4.cell? (ad.add (k * 24 + j)) = some u := fun j u hu => (hb.cell (by rw [add_block]; exact habr)).trans (HCA.out j u hu)
            have hab4 : ad.block < w4.heap.size := Nat.lt_of_lt_of_le hab hsc
            clear hb HCA
            go_upto_region 14 with fail
            have hb : Below w4.heap.size w4 (w4.alloc (.cells #[.int .i64 ln, .int .i64 cd] 31)) := by (repeat (first | exact Below.refl _ _ | refine Below.alloc ?_ (by first | omega | (simp; done) | (simp; omega)) _ | refine Below.setCell ?_ (by first | omega | (simp; done) | (simp; omega)) _ | refine Below.drew ?_))
            have hF := Blok.new w4 31 #[.int .i64 ln, .int .i64 cd]
            have hca3 : ∀ j u, x.cs[j]? = some u → (w4.alloc (.cells #[.int .i64 ln, .int .i64 cd] 31)).cell? (ad.add (k * 24 + j)) = some u := fun j u hu => (hb.cell (by rw [add_block]; exact hab4)).trans (hca2 j u hu)
            replace hC := hC.trans (hb.mono hsc)
            replace hsc := hC.size
            clear hb hca2
            generalize w4.alloc (.cells #[.int .i64 ln, .int .i64 cd] 31) = w5 at *
            generalize w4.heap.size = bF at *
            have f0 : w5.cell? ⟨bF, 0, none⟩ = some (.int .i64 ln) := hF.cell 0
            have f1 : w5.cell? ⟨bF, 1, none⟩ = some (.int .i64 cd) := hF.cell 1
            have lt_f := hF.lt
            have c_0 : w5.cell? (ad.add (k * 24)) = some (.int .i64 x.p.dk) := hca3 0 _ rfl
            have c_1 : w5.cell? ⟨(ad.add (k * 24)).block, (ad.add (k * 24)).off + 1, none⟩ = some (.string (bs x.p.tx)) := by rw [← add_two ad (k * 24) 1 (by decide)]; exact hca3 1 _ rfl
            clear hca3
            by_cases hd : x.p.dk = 1
            · have d1 : (x.p.dk == 1) = true := by simp [hd]
              have d2 : (x.p.dk != 1) = false := by simp [hd]
              by_cases hc : cd = 0
              · have hq := HONE.out hc hd
                subst hc
                have l1 : decide ((dl : Int) < 1) = false := decide_eq_false (by omega)
                have l2 : decide ((dl : Int) > 2) = false := decide_eq_false (by omega)
                clear hd hq
                go_wp2_with fail
                go_roundw
                case rel => first | exact ⟨k + 1, by go_num, by omega, hC⟩ | exact ⟨k + 1, by go_num, by omega⟩
                case measure => simp [intOf]; omega
              · have hq := HBAD.out hc
                subst hq
                have l1 : (cd == 0) = false := by simp [hc]
                have l2 : (cd != 0) = true := by simp [hc]
                clear hd hc
                go_wp2_with fail
                go_roundw
                case rel => first | exact ⟨k + 1, by go_num, by omega, hC⟩ | exact ⟨k + 1, by go_num, by omega⟩
                case measure => simp [intOf]; omega
            · have d1 : (x.p.dk == 1) = false := by simp [hd]
              have d2 : (x.p.dk != 1) = true := by simp [hd]
              have hx0 := HGX.out.no hd
              have hc := HNIL.out hx0
              subst hc
              have t1 : ((bs x.p.tx).toList == (⟨#[]⟩ : ByteArray).toList) = true := by rw [hx0]; decide +kernel
              have t2 : (bs x.p.tx).toList.isEmpty = true := by rw [hx0]; decide +kernel
              clear hd hx0
              go_wp2_with fail
              go_roundw
              case rel => first | exact ⟨k + 1, by go_num, by omega, hC⟩ | exact ⟨k + 1, by go_num, by omega⟩
              case measure => simp [intOf]; omega
          · obtain rfl : k = j := by omega
            clear hkn hk
            go_wp2_with fail
            refine (scount_is A1 k c1 L 0 0 wr HLN.out (by omega) (HS.out.up hC) (by rw [cntF_zero HG.out]; rfl)).mono ?_
            rintro e w4 ⟨rfl, hb⟩
            replace hC := hC.trans (hb.mono hsc)
            replace hsc := hC.size
            clear hb
            go_wp2_with fail
            refine (ssame_any A1 A1 k c1 k c1 L L w4 HLN.out HLN.out (by omega) (by omega) (HS.out.up hC) (HS.out.up hC) (fun x hx => (HOK.out x hx).below hC) (fun x hx => (HOK.out x hx).below hC) true (decide_eq_true rfl)).mono ?_
            rintro e w5 ⟨rfl, hb⟩
            replace hC := hC.trans (hb.mono hsc)
            clear hb hsc
            have hfin := hB.trans (hC.mono hs)
            go_wp2_with fail
            go_ret
            exact ⟨rfl, hfin⟩
theorem scriptCounts_own : ownKnob Tryz.prog.godebug = none := by kernel_rfl
theorem scriptCounts_laidOut : laidOutB Tryz.prog = true := by kernel_rfl
set_option maxHeartbeats 1000000 in
set_option maxRecDepth 100000 in
theorem scriptCounts_lifted (os : Os) (started : os.Started) (H : Type) (enc : TypeId × Value → H) :
    ReturnsInHanded {} Tryz.checked os 3 .any (fun w args => (Rows.scriptCountsSpec.pre enc Tryz.prog Tryz.f3 [] false w args ∧ laidMetH Tryz.prog Rows.scriptCountsRow.laid w) ∧ sizedMet enc Tryz.prog Tryz.f3 (OpenSpec.ofChange Rows.scriptCountsSpec) false w args)
      (Rows.scriptCountsSpec.post enc Tryz.prog Tryz.f3 false true false false) := by
  refine returnsInHanded_of_change_and_shaped (C := Tryz.checked) (X := fun w _ => laidMetH Tryz.prog Rows.scriptCountsRow.laid w) (fun _ _ _ hh h => h.of_heap hh) scriptCounts_own started (by kernel_rfl) Tryz.func3
    (ChangeSpec.witness_shaped (enc := enc) (C := Tryz.checked) (os := os) (X := fun w _ => laidMetH Tryz.prog Rows.scriptCountsRow.laid w) false (World.laidAll Tryz.prog os Rows.scriptCountsRow.laid) #[.slice none 0 0] 8 (World.laidAll_os _ _ _) (World.shaped_of_ZipB (by kernel_rfl) (by kernel_rfl)) (by kernel_rfl) (by kernel_rfl) (by kernel_rfl) (by rw [MakeChecks.laidMetH_plain _ _ _ (by kernel_rfl)]; exact laidMet_laidAll _ (by kernel_rfl) (by kernel_rfl))) ?_
  intro W base args ds gs before hval0 hW _ _ hX hL _
  have hval : ∀ (j : Nat) t v, Tryz.f3.params[j]? = some t → args[j]? = some v → Value.okWide Tryz.prog W .any base t v := hval0
  have hW' := hW
  obtain ⟨p, q, hA0, hV, rfl, hfz, hnd⟩ := hW
  have hA : DataW.TrodAll enc Tryz.prog W 0 (fun _ => true) true Tryz.f3.params.toList args.toList ds p := hA0
  rw [Tryz.params3] at hA hval
  obtain ⟨v0, vs0, d0, ds0, p0, q0, hargs, rfl, rfl, h0, r0⟩ := trodAll_cons hA
  obtain ⟨rfl, rfl, rfl⟩ := trodAll_nil r0
  obtain rfl : args = #[v0] := by cases args; simp_all
  obtain ⟨rfl, rfl⟩ := trodVars_none hV
  obtain ⟨A0, n0, c0, ns0, rfl, hl0, nl0, w0⟩ := open_bytesS Tryz.underlying22 Tryz.underlying5 (by kernel_rfl) (hval 0 22 v0 rfl rfl) h0
  clear hA0 hval0
  refine (scriptCounts_walk A0 n0 c0 ns0 nl0 w0 W (ten_counts hX hL) hl0).mono fun e W' ⟨he, bel⟩ => ?_
  subst he
  exact ⟨_, rfl, law_post scriptCounts_laidOut (by kernel_rfl) rfl Tryz.underlying4 rfl rfl hW' bel⟩

theorem scriptCounts_holds : Rows.ScriptCountsSaid :=
  OpenClaim.holds_of_wide 3 Tryz.f3 rfl rfl rfl rfl rfl rfl rfl ⟨rfl, rfl, rfl, rfl, rfl⟩ rfl rfl rfl rfl rfl (by kernel_rfl) Tryz.func3 (by kernel_rfl)
    (of_decide_eq_true (by kernel_rfl)) (by unfold Func.isWrapper; first | (rw [if_pos (by decide +kernel)]; kernel_rfl) | (rw [if_neg (by decide +kernel)]; exact ⟨rfl, rfl⟩))
    (fun os started H enc _ => scriptCounts_lifted os started H enc)

theorem scriptCounts_proved : Rows.ScriptCountsCardSaid :=
  Claim7.holds_tied_plain_at .later [] Rows.scriptCountsCard.laidKinds true Rows.scriptCountsCard.stood.harness false
    scriptCounts_holds (fun _ h => by cases h) (by kernel_rfl) (fun _ h => by cases h) scriptCounts_row_tie rfl ⟨rfl, rfl⟩ (by kernel_rfl) rfl
    (fun f fn hf hfn => by
      obtain rfl : f = 3 := Option.some.inj ((show Tryz.prog.funcNamed "felucca/feluccalaw25.ScriptCounts" = some 3 by kernel_rfl).symm.trans hf) |>.symm
      obtain rfl : fn = Tryz.f3 := (Option.some.inj (Tryz.func3.symm.trans hfn)).symm
      exact ⟨by kernel_rfl, fun j t ht => by
        rw [Tryz.params3] at ht
        have hm : t ∈ [22] := by simpa using Array.mem_of_getElem? ht
        have hall : ([22].all fun u => !Tryz.prog.wantsStandIn u) = true := by kernel_rfl
        exact (show Tryz.prog.wantsStandIn t = false by simpa using List.all_eq_true.1 hall t hm)⟩)
    (by kernel_rfl)
#print axioms scriptCounts_proved
end Go.Proofs.YtggdomeeienjbaaGreatDoor
