
/- Contract of text.Lines: the numbers of the lines that have words. It makes new memory alone. -/
import Derived.Test.YtcclfmaockapjaaDoorTx1
namespace Go.Proofs.YtcclfmaockapjaaDoor
open Go.ChangeShapes Go.WideShapes Go.ChangeAt Go.RowKit Go.Sort
set_option linter.unusedSimpArgs false
set_option linter.unusedVariables false
set_option maxHeartbeats 8000000 in
set_option maxRecDepth 100000 in
theorem tlines_any (s0 : ByteArray) (rows : List Bytes) (n : Nat) (hr : linesL s0.data.toList = rows) (hn : rows.length = n) (w : World) (hm : MaxAt w) (hs : s0.data.toList.length ≤ 50000) :
    Calls Tryd.prog 13 #[.string s0] w fun e w' => ∃ v, e = .returned v ∧ w'.ownsRow w.heap.size 3 1 v (lnoF rows 1).length ((lnoF rows 1).map (Value.int .i64)) ∧ Below w.heap.size w w' := by
  obtain ⟨i0, hi0, hz0, hz1, hz2⟩ := info_parts infoI04
  have hnb : n ≤ 50001 := by rw [← hn, ← hr]; have := lines_len s0.data.toList; omega
  have HSZ := Lib.hid (fun x (hx : x ∈ rows) => Nat.le_trans (lines_mem (s := s0.data.toList) (by rw [hr]; exact hx)) hs)
  have HN := Lib.hid hn
  have HR := Lib.hid hr
  have HS := Lib.hid hs
  clear hn hr hs
  go_enter Tryd.func13, Tryd.ntmps13
  go_wp2_with fail
  refine (lines_is s0 rows n HR.out HN.out w hm (by have := HS.out; omega)).mono ?_
  rintro e w1 ⟨A, c, rfl, hrow, hB1⟩
  replace hm := hm.below hB1
  have HL := Lib.hid (Sl.of_own hrow)
  have HM := Lib.hid hm
  clear hrow hm
  go_wp2
  go_loopw [3, 9] (fun ev iv wr => ∃ (i m : Nat) (ns : List Int), iv = .int .i64 i ∧ i ≤ n ∧ m ≤ i ∧ Hid (ns.length = m) ∧ Hid (lnoF rows 1 = ns ++ lnoF (rows.drop i) ((i : Int) + 1)) ∧ wr.ownsRow w1.heap.size 3 1 ev m (ns.map (Value.int .i64)) ∧ Below w1.heap.size w1 wr) (fun _ iv _ => n - (intOf iv).toNat)
  case atStart => exact ⟨0, 0, [], rfl, by omega, by omega, rfl, rfl, World.ownsRow_nil _ _ _ _, Below.refl _ _⟩
  case round =>
    obtain ⟨i, m, ns, rfl, hi, hmi, HLN, HF, hown, hB⟩ := hrel
    have hsz := hB.size
    obtain ⟨Ae, ce, rfl⟩ := slice_of_own hown
    by_cases hin : i < n
    · obtain ⟨ad, rfl, hab, c0⟩ := (HL.out.below hB).lst.atS HN.out hin
      have hil : i < rows.length := by rw [HN.out]; exact hin
      have hxs : (gS rows i).length ≤ 50000 := HSZ.out _ (by rw [gS_eq hil]; exact List.getElem_mem _)
      have HIL := Lib.hid hil
      clear hil
      obtain ⟨x, hx⟩ : ∃ x, gS rows i = x := ⟨_, rfl⟩
      rw [hx] at c0 hxs
      obtain ⟨k, hk⟩ : ∃ k, (wordsL x).length = k := ⟨_, rfl⟩
      have HX := Lib.hid hx
      have HK := Lib.hid hk
      have HXS := Lib.hid hxs
      clear hx hk hxs
      go_wp2_with fail
      clear c0
      refine (words_is (bs x) (wordsL x) k (by rw [bs_list]) HK.out wr (HM.out.below hB) (by rw [bs_list]; have := HXS.out; omega)).mono ?_
      rintro e w2 ⟨A2, c2, rfl, hw2, hb⟩
      replace hown := own_below hown hb
      replace hB := hB.trans (hb.mono hsz)
      replace hsz := hB.size
      clear hb hw2
      by_cases hk0 : k = 0
      · subst hk0
        have HN2 : Hid (lnoF rows 1 = ns ++ lnoF (rows.drop (i + 1)) ((i : Int) + 1 + 1)) := by
          show _ = _
          rw [HF.out, lno_blank HIL.out (by rw [HX.out]; exact HK.out)]
        go_wp2_with fail
        go_roundw
        case rel => exact ⟨i + 1, m, ns, by go_num, by omega, by omega, HLN, by have h := HN2.out; simpa [Hid] using h, hown, hB⟩
        case measure => simp [intOf]; omega
      · have hk1 : (0 : Int) < (k : Int) := by omega
        have HN2 : Hid (lnoF rows 1 = (ns ++ [(i : Int) + 1]) ++ lnoF (rows.drop (i + 1)) ((i : Int) + 1 + 1)) := by
          show _ = _
          rw [HF.out, lno_word HIL.out (by rw [HX.out, HK.out]; exact hk0), List.append_assoc]; rfl
        have hwr : IntKind.i64.wrap ((i : Int) + 1) = (i : Int) + 1 := IntWalk.i64_in _ (by omega)
        go_wp2_with (first | (at_builtin; refine wpList_append_own _ rfl _ _ 42 rfl w1.heap.size 3 i0 _ 1 8 Tryd.underlying42 hi0 hz0 hz1 hz2 rfl (by decide) _ _ _ rfl (hown.alloc _) ⟨w2.heap.size, 0, none⟩ 1 1 [.int .i64 ((i : Int) + 1)] rfl rfl (by exact lit_cells w2 #[.int .i64 ((i : Int) + 1)] _ _ rfl) (by simp [Value.oneCell']) (by unfold maxLen; omega) (by omega) (by simp; omega) ?_; intro v' w3 hown' hgrow3 hnil3))
        have hbN : Below w1.heap.size w1 w3 := (hB.alloc hsz _).grown hgrow3 (by simp; omega) (fun q hq => (hown.lt q hq).1)
        clear hgrow3 hnil3
        go_wp2_with fail
        go_roundw
        case rel => exact ⟨i + 1, m + 1, ns ++ [(i : Int) + 1], by go_num, by omega, by omega, by simp [Hid, HLN.out], by have h := HN2.out; simpa [Hid] using h, (by rw [ints_app04]; exact hown'), hbN⟩
        case measure => simp [intOf]; omega
    · obtain rfl : n = i := by omega
      have hf : lnoF rows 1 = ns := by rw [HF.out, List.drop_eq_nil_of_le (by rw [HN.out]; omega)]; simp [lnoF]
      have HFX := Lib.hid hf
      clear hf
      go_wp2_with fail
      go_ret
      exact ⟨_, rfl, by rw [HFX.out, HLN.out]; exact own_down hown hB1.size, hB1.trans (hB.mono hB1.size)⟩
end Go.Proofs.YtcclfmaockapjaaDoor
