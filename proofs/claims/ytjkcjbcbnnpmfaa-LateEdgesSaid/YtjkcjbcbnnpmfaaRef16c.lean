/- The document's own latest times: Times. It makes new memory alone. -/
import Derived.Test.YtjkcjbcbnnpmfaaGG
import Derived.Test.YtjkcjbcbnnpmfaaLate
namespace Go.Proofs.Ytjkcjbcbnnpmfaa
open Go.ChangeShapes Go.WideShapes Go.ChangeAt Go.RowKit Go.Sort Hp
set_option linter.unusedSimpArgs false
set_option linter.unusedVariables false
theorem node_le {r : List (Int × Int)} (hs : Srt r) (hn : ∀ x, (atR r x).isSome = true → 1 ≤ x ∧ x ≤ 255) : r.length ≤ 255 := by
  have h := few_nodes (srt_nodup hs) (fun x hx => by
    obtain ⟨y, hy, rfl⟩ := List.mem_map.1 hx
    exact hn y.1 (by rw [hs.at_ hy]; rfl))
  simpa using h
theorem stepL_node {l : List Ed} {size : Int} {op : Int → Bool} {q : Int} {T : Int → Option Int} (hr : rightE l = true) (hT : ∀ x, (T x).isSome = true → 1 ≤ x ∧ x ≤ 255) (k : Nat) : ∀ x, (stepL (l.take k) size op q T x).isSome = true → 1 ≤ x ∧ x ≤ 255 := fun x hx => by
  obtain ⟨u, hu⟩ := Option.isSome_iff_exists.1 hx
  rcases (stepL_is (l.take k) size op q T).why x u hu with h | ⟨_, e, he, hf, _⟩
  · exact hT x (by rw [h]; rfl)
  · have := (Ed.ok_spec.1 (rightE_ok hr (List.mem_of_mem_take he))).2.1
    rw [← hf]; exact this
set_option maxHeartbeats 8000000 in
set_option maxRecDepth 100000 in
theorem rltimes16_any (Ae : Option Addr) (ne ce : Nat) (l : List Ed) (q by_ size hops : Int) (As : Option Addr) (ns cs : Nat) (sh : List Int) (w : World) (hde : l.length = ne) (hne : ne ≤ 200) (hds : sh.length = ns) (hns : ns ≤ 100000) (hle : Sl w w.heap.size 8 Ae ne ce (flatEd l)) (hls : Sl w w.heap.size 1 As ns cs (sh.map (Value.int .i64))) :
    Calls Try.prog 13 #[.slice Ae ne ce, .int .i64 q, .int .i64 by_, .int .i64 size, .int .i64 hops, .slice As ns cs] w fun e w' => ∃ A' n' c' r, e = .returned (.slice A' n' c') ∧ r.length = n' ∧ n' ≤ 255 ∧ IsLateT l q by_ size hops sh r ∧ Sl w' w'.heap.size 2 A' n' c' (flat2 r) ∧ Below w.heap.size w w' := by
  have HDE := Lib.hid hde
  have HDS := Lib.hid hds
  have HLE := Lib.hid (fun w' (hb : Below w.heap.size w w') => hle.up hb)
  have HLS := Lib.hid (fun w' (hb : Below w.heap.size w w') => hls.up hb)
  obtain ⟨ab, hab⟩ : ∃ b, askE l q by_ size = b := ⟨_, rfl⟩
  have HAB := Lib.hid hab
  have HAK := Lib.hid (show (askE l q by_ size && nodeB q) = ab by
    rw [hab]
    cases ab with
    | false => rfl
    | true =>
      have h1 := (askE_spec.1 hab).1
      show nodeB q = true
      unfold nodeB inB
      exact decide_eq_true h1)
  clear hde hds hab hle hls
  by_cases hneg : hops < 0
  · go_enter Try.func13, Try.ntmps13
    go_wp2_with fail
    go_ret
    exact ⟨none, 0, 0, [], rfl, rfl, by omega, ⟨List.Pairwise.nil, fun _ => rfl, fun _ h => by omega⟩, Sl.nil0 _ _ _, Below.refl _ _⟩
  obtain ⟨H, hH⟩ : ∃ H : Nat, hops = (H : Int) := ⟨hops.toNat, by omega⟩
  subst hH
  clear hneg
  go_enter Try.func13, Try.ntmps13
  go_wp2_with fail
  refine (rasked12_any Ae ne ce l q q by_ size w HDE.out (by omega) (HLE.out _ (Below.refl _ _)) ab HAK.out).mono ?_
  rintro e w1 ⟨rfl, hB⟩
  cases ab with
  | false =>
    go_wp2_with fail
    go_ret
    exact ⟨none, 0, 0, [], rfl, rfl, by omega, ⟨List.Pairwise.nil, fun _ => rfl, fun h => by rw [HAB.out] at h; cases h⟩, Sl.nil0 _ _ _, hB⟩
  | true =>
    obtain ⟨hq, ⟨hb0, hb1⟩, hsz, hre⟩ := askE_spec.1 HAB.out
    have HRE := Lib.hid hre
    clear hre hsz
    have hR := Sl.of_own (own_lit w1 0 36 2 1 #[.int .i64 q, .int .i64 by_] (Nat.zero_le _) rfl (by unfold maxLen; omega))
    change Sl _ _ 2 _ 1 1 (flat2 [(q, by_)]) at hR
    have hb6 : Below w1.heap.size w1 (w1.alloc (.cells #[.int .i64 q, .int .i64 by_] 36)) := by (repeat (first | exact Below.refl _ _ | refine Below.alloc ?_ (by first | omega | (simp; done) | (simp; omega)) _ | refine Below.setCell ?_ (by first | omega | (simp; done) | (simp; omega)) _ | refine Below.drew ?_))
    replace hB := hB.trans (hb6.mono hB.size)
    go_upto_region 4 with fail
    clear hb6
    generalize w1.alloc (.cells #[.int .i64 q, .int .i64 by_] 36) = w6 at *
    go_wp2_with fail
    go_loopw [13, 14] (fun rv hv wr => ∃ (h : Nat) (A' : Option Addr) (n' c' : Nat) (r : List (Int × Int)), rv = .slice A' n' c' ∧ hv = .int .i64 h ∧ h ≤ ne + 1 ∧ h ≤ H ∧ Hid (r.length = n') ∧ Hid (Srt r) ∧ Hid (atR r = lateL l size (opn sh q) q by_ h) ∧ Sl wr wr.heap.size 2 A' n' c' (flat2 r) ∧ Below w.heap.size w wr) (fun rv hv _ => ne + 1 - (intOf hv).toNat)
    case atStart => exact ⟨0, _, 1, 1, [(q, by_)], rfl, rfl, by omega, by omega, rfl, by simp [Hid, Srt], atR_one q by_, hR, hB⟩
    case round =>
      clear hR hB
      obtain ⟨h, A', n', c', r, rfl, rfl, hh, hhH, HR, HS, HT, hr, hB⟩ := hrel
      have hn' : n' ≤ 255 := by
        have := node_le HS.out (fun x hx => by rw [HT.out] at hx; obtain ⟨t, ht⟩ := Option.isSome_iff_exists.1 hx; exact lateL_node HRE.out hq h x t ht)
        rw [HR.out] at this; exact this
      by_cases hgo : h < H ∧ h ≤ ne
      · obtain ⟨hg1, hg2⟩ := hgo
        obtain ⟨tt, htt⟩ : ∃ z, lateL l size (opn sh q) q by_ h = z := ⟨_, rfl⟩
        have HT1 : Hid (atR r = tt) := HT.out.trans htt
        have HTT := Lib.hid htt
        clear htt
        have HRW : Hid (∀ w', Below wr.heap.size wr w' → Sl w' w'.heap.size 2 A' n' c' (flat2 r)) := fun w' hb => hr.up hb
        have HN0 : Hid (atR r = stepL (l.take 0) size (opn sh q) q tt) := HT1.out
        obtain ⟨wO, hwO⟩ : ∃ x, x = wr := ⟨_, rfl⟩
        subst hwO
        go_wp2_with fail
        go_loopw [15, 16] (fun rv iv wr => ∃ (i : Nat) (A2 : Option Addr) (n2 c2 : Nat) (N : List (Int × Int)), rv = .slice A2 n2 c2 ∧ iv = .int .i64 i ∧ i ≤ ne ∧ Hid (N.length = n2) ∧ Hid (Srt N) ∧ Hid (atR N = stepL (l.take i) size (opn sh q) q tt) ∧ Sl wr wr.heap.size 2 A2 n2 c2 (flat2 N) ∧ Below wO.heap.size wO wr) (fun rv iv _ => ne - (intOf iv).toNat)
        case atStart => exact ⟨0, A', n', c', r, rfl, rfl, by omega, HR, HS, HN0, hr, Below.refl _ _⟩
        case round =>
          clear hr HN0
          obtain ⟨i, A2, n2, c2, N, rfl, rfl, hi, HNL, HNS, HNT, hnx, hO⟩ := hrel
          have hn2 : n2 ≤ 255 := by
            have := node_le HNS.out (fun x hx => by rw [HNT.out] at hx; exact stepL_node HRE.out (fun y hy => by rw [← HTT.out] at hy; obtain ⟨t, ht⟩ := Option.isSome_iff_exists.1 hy; exact lateL_node HRE.out hq h y t ht) i x hx)
            rw [HNL.out] at this; exact this
          by_cases hin : i < ne
          · have hil : i < l.length := by rw [HDE.out]; exact hin
            have hBW := hB.trans (hO.mono hB.size)
            obtain ⟨ad, rfl, hab, c0, c1, c2_, c3, c4, c5, c6, c7⟩ := (HLE.out _ hBW).lst.atEd HDE.out hin
            obtain ⟨x, hx⟩ : ∃ x, gEd l i = x := ⟨_, rfl⟩
            rw [hx] at c0 c1 c2_ c3 c4 c5 c6 c7
            have HX := Lib.hid hx
            have hXn := Blok.new wr 39 #[.int .i64 x.id, .int .i64 x.fr, .int .i64 x.tn, .int .i64 x.op, .int .i64 x.en, .int .i64 x.ra, .int .i64 x.ow, .int .i64 x.ro]
            have hbn : Below wr.heap.size wr (wr.alloc (.cells #[.int .i64 x.id, .int .i64 x.fr, .int .i64 x.tn, .int .i64 x.op, .int .i64 x.en, .int .i64 x.ra, .int .i64 x.ow, .int .i64 x.ro] 39)) := (Below.refl _ _).alloc (Nat.le_refl _) _
            go_upto_region 12 with fail
            clear c0 c1 c2_ c3 c4 c5 c6 c7 hx hab
            replace hO := hO.trans (hbn.mono hO.size)
            replace hnx := hnx.up hbn
            clear hbn hBW
            generalize wr.alloc (.cells #[.int .i64 x.id, .int .i64 x.fr, .int .i64 x.tn, .int .i64 x.op, .int .i64 x.en, .int .i64 x.ra, .int .i64 x.ow, .int .i64 x.ro] 39) = w2 at *
            generalize wr.heap.size = eb at *
            try clear wr
            have HXB : Hid (∀ w', Below w2.heap.size w2 w' → Blok w' eb 39 #[.int .i64 x.id, .int .i64 x.fr, .int .i64 x.tn, .int .i64 x.op, .int .i64 x.en, .int .i64 x.ra, .int .i64 x.ow, .int .i64 x.ro]) := fun w' hb => hXn.below hb hXn.lt
            clear hXn
            have hW := Below.refl w2.heap.size w2
            have hX := HXB.out _ hW
            have x0 : w2.cell? ⟨eb, 0, none⟩ = some (.int .i64 x.id) := hX.cell 0
            have x1 : w2.cell? ⟨eb, 1, none⟩ = some (.int .i64 x.fr) := hX.cell 1
            have x2 : w2.cell? ⟨eb, 2, none⟩ = some (.int .i64 x.tn) := hX.cell 2
            have x3 : w2.cell? ⟨eb, 3, none⟩ = some (.int .i64 x.op) := hX.cell 3
            have x4 : w2.cell? ⟨eb, 4, none⟩ = some (.int .i64 x.en) := hX.cell 4
            have x5 : w2.cell? ⟨eb, 5, none⟩ = some (.int .i64 x.ra) := hX.cell 5
            have x6 : w2.cell? ⟨eb, 6, none⟩ = some (.int .i64 x.ow) := hX.cell 6
            have x7 : w2.cell? ⟨eb, 7, none⟩ = some (.int .i64 x.ro) := hX.cell 7
            have lt_x := hX.lt
            clear hX
            cases hT2 : tt x.tn with
            | none =>
              have HT2N := Lib.hid hT2
              have HU := Lib.hid (show (atR r x.tn).getD 0 = 0 by rw [HT1.out, hT2]; rfl)
              have HK := Lib.hid (show (atR r x.tn).isSome = false by rw [HT1.out, hT2]; rfl)
              clear hT2
              go_wp2_with fail
              clear x0 x1 x2 x3 x4 x5 x6 x7 lt_x
              refine (rat15_any A' n' c' r x.tn w2 HR.out (by omega) (HRW.out _ hO) 0 false HU.out HK.out).mono ?_
              rintro e w3 ⟨rfl, hb⟩
              replace hO := hO.trans (hb.mono hO.size)
              replace hW := hW.trans (hb.mono hW.size)
              replace hnx := hnx.up hb
              clear hb
              have hX := HXB.out _ hW
              have x0 : w3.cell? ⟨eb, 0, none⟩ = some (.int .i64 x.id) := hX.cell 0
              have x1 : w3.cell? ⟨eb, 1, none⟩ = some (.int .i64 x.fr) := hX.cell 1
              have x2 : w3.cell? ⟨eb, 2, none⟩ = some (.int .i64 x.tn) := hX.cell 2
              have x3 : w3.cell? ⟨eb, 3, none⟩ = some (.int .i64 x.op) := hX.cell 3
              have x4 : w3.cell? ⟨eb, 4, none⟩ = some (.int .i64 x.en) := hX.cell 4
              have x5 : w3.cell? ⟨eb, 5, none⟩ = some (.int .i64 x.ra) := hX.cell 5
              have x6 : w3.cell? ⟨eb, 6, none⟩ = some (.int .i64 x.ow) := hX.cell 6
              have x7 : w3.cell? ⟨eb, 7, none⟩ = some (.int .i64 x.ro) := hX.cell 7
              have lt_x := hX.lt
              clear hX
              have HT2 : Hid (atR N = stepL (l.take (i + 1)) size (opn sh q) q tt) := by
                show atR N = _
                rw [(stepL_next (op := opn sh q) (q := q) (T := tt) (size := size) hil).2 (by rw [HX.out]; rintro ⟨t', y, _, _, ht, _⟩; rw [HT2N.out] at ht; cases ht)]; exact HNT.out
              go_wp2_with fail
              clear x0 x1 x2 x3 x4 x5 x6 x7 lt_x
              go_roundw
              case rel => exact ⟨i + 1, A2, n2, c2, N, rfl, by go_num, by omega, HNL, HNS, HT2, hnx, hO⟩
              case measure => simp [intOf]; omega
            | some t =>
              have HT2S := Lib.hid hT2
              have htb : t ≤ 1099511627776 := by
                have := lateL_bounds hb0 h x.tn t (by rw [HTT.out]; exact hT2)
                omega
              have HU := Lib.hid (show (atR r x.tn).getD 0 = t by rw [HT1.out, hT2]; rfl)
              have HK := Lib.hid (show (atR r x.tn).isSome = true by rw [HT1.out, hT2]; rfl)
              clear hT2
              go_wp2_with fail
              clear x0 x1 x2 x3 x4 x5 x6 x7 lt_x
              refine (rat15_any A' n' c' r x.tn w2 HR.out (by omega) (HRW.out _ hO) t true HU.out HK.out).mono ?_
              rintro e w3 ⟨rfl, hb⟩
              replace hO := hO.trans (hb.mono hO.size)
              replace hW := hW.trans (hb.mono hW.size)
              replace hnx := hnx.up hb
              clear hb
              have hX := HXB.out _ hW
              have x0 : w3.cell? ⟨eb, 0, none⟩ = some (.int .i64 x.id) := hX.cell 0
              have x1 : w3.cell? ⟨eb, 1, none⟩ = some (.int .i64 x.fr) := hX.cell 1
              have x2 : w3.cell? ⟨eb, 2, none⟩ = some (.int .i64 x.tn) := hX.cell 2
              have x3 : w3.cell? ⟨eb, 3, none⟩ = some (.int .i64 x.op) := hX.cell 3
              have x4 : w3.cell? ⟨eb, 4, none⟩ = some (.int .i64 x.en) := hX.cell 4
              have x5 : w3.cell? ⟨eb, 5, none⟩ = some (.int .i64 x.ra) := hX.cell 5
              have x6 : w3.cell? ⟨eb, 6, none⟩ = some (.int .i64 x.ow) := hX.cell 6
              have x7 : w3.cell? ⟨eb, 7, none⟩ = some (.int .i64 x.ro) := hX.cell 7
              have lt_x := hX.lt
              clear hX
              by_cases hfq : x.fr = q
              · have g1 : (x.fr == q) = true := beq_iff_eq.2 hfq
                have HFQ := Lib.hid hfq
                clear hfq
                have HT2 : Hid (atR N = stepL (l.take (i + 1)) size (opn sh q) q tt) := by
                  show atR N = _
                  rw [(stepL_next (op := opn sh q) (q := q) (T := tt) (size := size) hil).2 (by rw [HX.out]; rintro ⟨t', y, h1, _, _, _⟩; exact h1 HFQ.out)]; exact HNT.out
                go_wp2_with fail
                clear x0 x1 x2 x3 x4 x5 x6 x7 lt_x
                go_roundw
                case rel => exact ⟨i + 1, A2, n2, c2, N, rfl, by go_num, by omega, HNL, HNS, HT2, hnx, hO⟩
                case measure => simp [intOf]; omega
              · have g1 : (x.fr == q) = false := beq_eq_false_iff_ne.2 hfq
                have HFQ := Lib.hid hfq
                clear hfq
                by_cases htq : x.tn = q
                · have g2 : (x.tn != q) = false := by simp [htq]
                  have HOP : Hid (opn sh q x.tn = true) := by show _; unfold opn; rw [beq_iff_eq.2 htq]; rfl
                  clear htq
                  go_upto_region 14 with fail
                  clear g1 g2
                  cases hp : x.latest t size with
                  | none =>
                    have HP := Lib.hid hp
                    clear hp
                    have HMIN := Lib.hid (show min t (1099511627776 : Int) = t by omega)
                    go_wp2_with fail
                    clear x0 x1 x2 x3 x4 x5 x6 x7 lt_x
                    rw [HMIN.out]
                    refine (rlatest_no HP.out _).mono ?_
                    rintro e w5 ⟨rfl, hb⟩
                    replace hO := hO.trans (hb.mono hO.size)
                    replace hW := hW.trans (hb.mono hW.size)
                    replace hnx := hnx.up hb
                    clear hb
                    have hX := HXB.out _ hW
                    have x0 : w5.cell? ⟨eb, 0, none⟩ = some (.int .i64 x.id) := hX.cell 0
                    have x1 : w5.cell? ⟨eb, 1, none⟩ = some (.int .i64 x.fr) := hX.cell 1
                    have x2 : w5.cell? ⟨eb, 2, none⟩ = some (.int .i64 x.tn) := hX.cell 2
                    have x3 : w5.cell? ⟨eb, 3, none⟩ = some (.int .i64 x.op) := hX.cell 3
                    have x4 : w5.cell? ⟨eb, 4, none⟩ = some (.int .i64 x.en) := hX.cell 4
                    have x5 : w5.cell? ⟨eb, 5, none⟩ = some (.int .i64 x.ra) := hX.cell 5
                    have x6 : w5.cell? ⟨eb, 6, none⟩ = some (.int .i64 x.ow) := hX.cell 6
                    have x7 : w5.cell? ⟨eb, 7, none⟩ = some (.int .i64 x.ro) := hX.cell 7
                    have lt_x := hX.lt
                    clear hX
                    have HT2 : Hid (atR N = stepL (l.take (i + 1)) size (opn sh q) q tt) := by
                      show atR N = _
                      rw [(stepL_next (op := opn sh q) (q := q) (T := tt) (size := size) hil).2 (by rw [HX.out]; rintro ⟨t', y, _, _, ht, hy⟩; rw [HT2S.out] at ht; injection ht with ht; rw [← ht, HP.out] at hy; cases hy)]; exact HNT.out
                    go_wp2_with fail
                    clear x0 x1 x2 x3 x4 x5 x6 x7 lt_x
                    go_roundw
                    case rel => exact ⟨i + 1, A2, n2, c2, N, rfl, by go_num, by omega, HNL, HNS, HT2, hnx, hO⟩
                    case measure => simp [intOf]; omega
                  | some y =>
                    have HP := Lib.hid hp
                    clear hp
                    have HMIN := Lib.hid (show min t (1099511627776 : Int) = t by omega)
                    go_wp2_with fail
                    clear x0 x1 x2 x3 x4 x5 x6 x7 lt_x
                    rw [HMIN.out]
                    refine (rlatest_yes HP.out _).mono ?_
                    rintro e w5 ⟨rfl, hb⟩
                    replace hO := hO.trans (hb.mono hO.size)
                    replace hW := hW.trans (hb.mono hW.size)
                    replace hnx := hnx.up hb
                    clear hb
                    have hX := HXB.out _ hW
                    have x0 : w5.cell? ⟨eb, 0, none⟩ = some (.int .i64 x.id) := hX.cell 0
                    have x1 : w5.cell? ⟨eb, 1, none⟩ = some (.int .i64 x.fr) := hX.cell 1
                    have x2 : w5.cell? ⟨eb, 2, none⟩ = some (.int .i64 x.tn) := hX.cell 2
                    have x3 : w5.cell? ⟨eb, 3, none⟩ = some (.int .i64 x.op) := hX.cell 3
                    have x4 : w5.cell? ⟨eb, 4, none⟩ = some (.int .i64 x.en) := hX.cell 4
                    have x5 : w5.cell? ⟨eb, 5, none⟩ = some (.int .i64 x.ra) := hX.cell 5
                    have x6 : w5.cell? ⟨eb, 6, none⟩ = some (.int .i64 x.ow) := hX.cell 6
                    have x7 : w5.cell? ⟨eb, 7, none⟩ = some (.int .i64 x.ro) := hX.cell 7
                    have lt_x := hX.lt
                    clear hX
                    go_wp2_with fail
                    clear x0 x1 x2 x3 x4 x5 x6 x7 lt_x
                    refine (rput16_any A2 n2 c2 N x.fr y w5 HNL.out (by omega) hnx).mono ?_
                    rintro e w9 ⟨v9, rfl, hown9, hb⟩
                    obtain ⟨A9, c9, rfl⟩ := slice_of_own hown9
                    have hn9 := Sl.of_own hown9
                    obtain ⟨p1, _, p3⟩ := putR_spec (q := x.fr) (a := y) HNS.out
                    have HP1 := Lib.hid p1
                    have HP3 : Hid (atR (putR x.fr y N false) = stepL (l.take (i + 1)) size (opn sh q) q tt) := by
                      show atR (putR x.fr y N false) = _
                      rw [p3, HNT.out]
                      have h1 := (stepL_next (op := opn sh q) (q := q) (T := tt) (size := size) hil).1
                      rw [HX.out] at h1
                      exact (h1 t y HFQ.out HOP.out HT2S.out HP.out).symm
                    replace hO := hO.trans (hb.mono hO.size)
                    clear hb hown9 p1 p3 hnx
                    go_wp2_with fail
                    go_roundw
                    case rel => exact ⟨i + 1, A9, _, c9, putR x.fr y N false, rfl, by go_num, by omega, rfl, HP1, HP3, hn9, hO⟩
                    case measure => simp [intOf]; omega
                · have g2 : (x.tn != q) = true := by simp [htq]
                  obtain ⟨sb, hsb⟩ : ∃ b, sh.contains x.tn = b := ⟨_, rfl⟩
                  have HSB := Lib.hid hsb
                  have HOP : Hid (opn sh q x.tn = !sb) := by show _; unfold opn; rw [beq_eq_false_iff_ne.2 htq, hsb]; rfl
                  clear htq hsb
                  go_wp2_with fail
                  clear x0 x1 x2 x3 x4 x5 x6 x7 lt_x
                  refine (rin16_any As ns cs sh x.tn w3 HDS.out (by omega) (HLS.out _ (hB.trans (hO.mono hB.size))) sb HSB.out).mono ?_
                  rintro e w4 ⟨rfl, hb⟩
                  replace hO := hO.trans (hb.mono hO.size)
                  replace hW := hW.trans (hb.mono hW.size)
                  replace hnx := hnx.up hb
                  clear hb
                  have hX := HXB.out _ hW
                  have x0 : w4.cell? ⟨eb, 0, none⟩ = some (.int .i64 x.id) := hX.cell 0
                  have x1 : w4.cell? ⟨eb, 1, none⟩ = some (.int .i64 x.fr) := hX.cell 1
                  have x2 : w4.cell? ⟨eb, 2, none⟩ = some (.int .i64 x.tn) := hX.cell 2
                  have x3 : w4.cell? ⟨eb, 3, none⟩ = some (.int .i64 x.op) := hX.cell 3
                  have x4 : w4.cell? ⟨eb, 4, none⟩ = some (.int .i64 x.en) := hX.cell 4
                  have x5 : w4.cell? ⟨eb, 5, none⟩ = some (.int .i64 x.ra) := hX.cell 5
                  have x6 : w4.cell? ⟨eb, 6, none⟩ = some (.int .i64 x.ow) := hX.cell 6
                  have x7 : w4.cell? ⟨eb, 7, none⟩ = some (.int .i64 x.ro) := hX.cell 7
                  have lt_x := hX.lt
                  clear hX
                  cases sb with
                  | true =>
                    have HT2 : Hid (atR N = stepL (l.take (i + 1)) size (opn sh q) q tt) := by
                      show atR N = _
                      rw [(stepL_next (op := opn sh q) (q := q) (T := tt) (size := size) hil).2 (by rw [HX.out]; rintro ⟨t', y, _, h2, _, _⟩; rw [HOP.out] at h2; cases h2)]; exact HNT.out
                    go_wp2_with fail
                    clear x0 x1 x2 x3 x4 x5 x6 x7 lt_x
                    go_roundw
                    case rel => exact ⟨i + 1, A2, n2, c2, N, rfl, by go_num, by omega, HNL, HNS, HT2, hnx, hO⟩
                    case measure => simp [intOf]; omega
                  | false =>
                    go_upto_region 14 with fail
                    clear g1 g2
                    cases hp : x.latest t size with
                    | none =>
                      have HP := Lib.hid hp
                      clear hp
                      have HMIN := Lib.hid (show min t (1099511627776 : Int) = t by omega)
                      go_wp2_with fail
                      clear x0 x1 x2 x3 x4 x5 x6 x7 lt_x
                      rw [HMIN.out]
                      refine (rlatest_no HP.out _).mono ?_
                      rintro e w5 ⟨rfl, hb⟩
                      replace hO := hO.trans (hb.mono hO.size)
                      replace hW := hW.trans (hb.mono hW.size)
                      replace hnx := hnx.up hb
                      clear hb
                      have hX := HXB.out _ hW
                      have x0 : w5.cell? ⟨eb, 0, none⟩ = some (.int .i64 x.id) := hX.cell 0
                      have x1 : w5.cell? ⟨eb, 1, none⟩ = some (.int .i64 x.fr) := hX.cell 1
                      have x2 : w5.cell? ⟨eb, 2, none⟩ = some (.int .i64 x.tn) := hX.cell 2
                      have x3 : w5.cell? ⟨eb, 3, none⟩ = some (.int .i64 x.op) := hX.cell 3
                      have x4 : w5.cell? ⟨eb, 4, none⟩ = some (.int .i64 x.en) := hX.cell 4
                      have x5 : w5.cell? ⟨eb, 5, none⟩ = some (.int .i64 x.ra) := hX.cell 5
                      have x6 : w5.cell? ⟨eb, 6, none⟩ = some (.int .i64 x.ow) := hX.cell 6
                      have x7 : w5.cell? ⟨eb, 7, none⟩ = some (.int .i64 x.ro) := hX.cell 7
                      have lt_x := hX.lt
                      clear hX
                      have HT2 : Hid (atR N = stepL (l.take (i + 1)) size (opn sh q) q tt) := by
                        show atR N = _
                        rw [(stepL_next (op := opn sh q) (q := q) (T := tt) (size := size) hil).2 (by rw [HX.out]; rintro ⟨t', y, _, _, ht, hy⟩; rw [HT2S.out] at ht; injection ht with ht; rw [← ht, HP.out] at hy; cases hy)]; exact HNT.out
                      go_wp2_with fail
                      clear x0 x1 x2 x3 x4 x5 x6 x7 lt_x
                      go_roundw
                      case rel => exact ⟨i + 1, A2, n2, c2, N, rfl, by go_num, by omega, HNL, HNS, HT2, hnx, hO⟩
                      case measure => simp [intOf]; omega
                    | some y =>
                      have HP := Lib.hid hp
                      clear hp
                      have HMIN := Lib.hid (show min t (1099511627776 : Int) = t by omega)
                      go_wp2_with fail
                      clear x0 x1 x2 x3 x4 x5 x6 x7 lt_x
                      rw [HMIN.out]
                      refine (rlatest_yes HP.out _).mono ?_
                      rintro e w5 ⟨rfl, hb⟩
                      replace hO := hO.trans (hb.mono hO.size)
                      replace hW := hW.trans (hb.mono hW.size)
                      replace hnx := hnx.up hb
                      clear hb
                      have hX := HXB.out _ hW
                      have x0 : w5.cell? ⟨eb, 0, none⟩ = some (.int .i64 x.id) := hX.cell 0
                      have x1 : w5.cell? ⟨eb, 1, none⟩ = some (.int .i64 x.fr) := hX.cell 1
                      have x2 : w5.cell? ⟨eb, 2, none⟩ = some (.int .i64 x.tn) := hX.cell 2
                      have x3 : w5.cell? ⟨eb, 3, none⟩ = some (.int .i64 x.op) := hX.cell 3
                      have x4 : w5.cell? ⟨eb, 4, none⟩ = some (.int .i64 x.en) := hX.cell 4
                      have x5 : w5.cell? ⟨eb, 5, none⟩ = some (.int .i64 x.ra) := hX.cell 5
                      have x6 : w5.cell? ⟨eb, 6, none⟩ = some (.int .i64 x.ow) := hX.cell 6
                      have x7 : w5.cell? ⟨eb, 7, none⟩ = some (.int .i64 x.ro) := hX.cell 7
                      have lt_x := hX.lt
                      clear hX
                      go_wp2_with fail
                      clear x0 x1 x2 x3 x4 x5 x6 x7 lt_x
                      refine (rput16_any A2 n2 c2 N x.fr y w5 HNL.out (by omega) hnx).mono ?_
                      rintro e w9 ⟨v9, rfl, hown9, hb⟩
                      obtain ⟨A9, c9, rfl⟩ := slice_of_own hown9
                      have hn9 := Sl.of_own hown9
                      obtain ⟨p1, _, p3⟩ := putR_spec (q := x.fr) (a := y) HNS.out
                      have HP1 := Lib.hid p1
                      have HP3 : Hid (atR (putR x.fr y N false) = stepL (l.take (i + 1)) size (opn sh q) q tt) := by
                        show atR (putR x.fr y N false) = _
                        rw [p3, HNT.out]
                        have h1 := (stepL_next (op := opn sh q) (q := q) (T := tt) (size := size) hil).1
                        rw [HX.out] at h1
                        exact (h1 t y HFQ.out HOP.out HT2S.out HP.out).symm
                      replace hO := hO.trans (hb.mono hO.size)
                      clear hb hown9 p1 p3 hnx
                      go_wp2_with fail
                      go_roundw
                      case rel => exact ⟨i + 1, A9, _, c9, putR x.fr y N false, rfl, by go_num, by omega, rfl, HP1, HP3, hn9, hO⟩
                      case measure => simp [intOf]; omega
          · obtain rfl : i = ne := by omega
            have HT2 : Hid (atR N = lateL l size (opn sh q) q by_ (h + 1)) := by
              show atR N = stepL l size (opn sh q) q (lateL l size (opn sh q) q by_ h)
              rw [HNT.out, List.take_of_length_le (by rw [HDE.out]; exact Nat.le_refl _), HTT.out]
            have hBW := hB.trans (hO.mono hB.size)
            go_wp2_with fail
            go_roundw
            case rel => exact ⟨h + 1, A2, n2, c2, N, rfl, by go_num, by omega, by omega, HNL, HNS, HT2, hnx, hBW⟩
            case measure => simp [intOf]; omega
      · have hcs : h = H ∨ (h < H ∧ h = ne + 1) := by omega
        have hfin : lateL l size (opn sh q) q by_ h = lateL l size (opn sh q) q by_ H := by
          rcases hcs with e | ⟨e1, e2⟩
          · rw [e]
          · exact lateL_same hb1 hb0 (by rw [HDE.out]; omega) (by rw [HDE.out]; omega)
        have HFIN := Lib.hid hfin
        clear hgo hfin
        rcases hcs with rfl | ⟨e1, rfl⟩
        · go_wp2_with fail
          go_ret
          first | exact ⟨A', n', c', r, rfl, HR.out, hn', ⟨HS.out, fun h => h.elim (fun h => by rw [HAB.out] at h; cases h) (fun h => by omega), fun _ _ => by rw [HT.out, Int.toNat_natCast]⟩, hr, hB⟩ | exact ⟨A', n', c', rfl, r, HR.out, hn', ⟨HS.out, fun h => h.elim (fun h => by rw [HAB.out] at h; cases h) (fun h => by omega), fun _ _ => by rw [HT.out, Int.toNat_natCast]⟩, hr, hB⟩
        · have g1 : decide (((ne : Int) + 1) ≤ (ne : Int)) = false := decide_eq_false (by omega)
          have g2 : decide (((ne : Int) + 1) < (H : Int)) = true := decide_eq_true (by omega)
          go_wp2_with fail
          go_ret
          first | exact ⟨A', n', c', r, rfl, HR.out, hn', ⟨HS.out, fun h => h.elim (fun h => by rw [HAB.out] at h; cases h) (fun h => by omega), fun _ _ => by rw [HT.out, Int.toNat_natCast]; exact HFIN.out⟩, hr, hB⟩ | exact ⟨A', n', c', rfl, r, HR.out, hn', ⟨HS.out, fun h => h.elim (fun h => by rw [HAB.out] at h; cases h) (fun h => by omega), fun _ _ => by rw [HT.out, Int.toNat_natCast]; exact HFIN.out⟩, hr, hB⟩
end Go.Proofs.Ytjkcjbcbnnpmfaa
