/- Words, line by line, are cut as they were: WordsBack returns true for every rows of words. -/
import Derived.Test.YtokheconenkcpaaDoorRows
import Derived.Test.YtokheconenkcpaaDoorCards
import Derived.Test.YtokheconenkcpaaDoorSmall02
import Derived.Test.YtokheconenkcpaaDoorWRows
import Derived.Deep.RegionWith
namespace Go.Proofs.YtokheconenkcpaaDoor
open Go.ChangeShapes Go.WideShapes Go.ChangeAt Go.RowKit Go.Sort
set_option linter.unusedSimpArgs false
set_option linter.unusedVariables false
theorem cellB {w w' : World} {a : Addr} {v : Value} (hb : Below w.heap.size w w') (h : w.cell? a = some v) : w'.cell? a = some v := by rw [hb.cell (block_lt_of_cell h)]; exact h
theorem plainC_cases (c : UInt8) : (c = 32 ∧ plainC c = true) ∨ (c ≠ 32 ∧ c = 9 ∧ plainC c = true) ∨ (c ≠ 32 ∧ c ≠ 9 ∧ c = 13 ∧ plainC c = true) ∨ (c ≠ 32 ∧ c ≠ 9 ∧ c ≠ 13 ∧ c = 10 ∧ plainC c = true) ∨ (c ≠ 32 ∧ c ≠ 9 ∧ c ≠ 13 ∧ c ≠ 10 ∧ c = 35 ∧ plainC c = true) ∨ (c ≠ 32 ∧ c ≠ 9 ∧ c ≠ 13 ∧ c ≠ 10 ∧ c ≠ 35 ∧ plainC c = false) := by
  unfold plainC
  by_cases h1 : c = 32
  · exact .inl ⟨h1, by simp [h1]⟩
  by_cases h2 : c = 9
  · exact .inr (.inl ⟨h1, h2, by simp [h2]⟩)
  by_cases h3 : c = 13
  · exact .inr (.inr (.inl ⟨h1, h2, h3, by simp [h3]⟩))
  by_cases h4 : c = 10
  · exact .inr (.inr (.inr (.inl ⟨h1, h2, h3, h4, by simp [h4]⟩)))
  by_cases h5 : c = 35
  · exact .inr (.inr (.inr (.inr (.inl ⟨h1, h2, h3, h4, h5, by simp [h5]⟩))))
  · exact .inr (.inr (.inr (.inr (.inr ⟨h1, h2, h3, h4, h5, by simp [h1, h2, h3, h4, h5]⟩))))
set_option maxHeartbeats 2000000 in
set_option maxRecDepth 100000 in
theorem plain_any (x0 : ByteArray) (w : World) (hx : x0.size ≤ maxLen) : Calls Tryd.prog 16 #[.string x0] w fun e w' => e = .returned (.bool (plainB x0.data.toList)) ∧ w = w' := by
  unfold maxLen at hx
  go_enter Tryd.func16, Tryd.ntmps16
  go_wp2
  go_loopw [3] (fun iv wr => ∃ (i : Nat), iv = .int .i64 i ∧ i ≤ x0.size ∧ Hid (∀ j (hj : j < x0.size), j < i → plainC (x0[j]'hj) = false) ∧ w = wr) (fun iv _ => x0.size - (intOf iv).toNat)
  case atStart => exact ⟨0, rfl, by omega, fun j _ hj => by omega, rfl⟩
  case round =>
    obtain ⟨i, rfl, hi, HS, rfl⟩ := hrel
    by_cases hin : i < x0.size
    · obtain ⟨c, hc⟩ : ∃ c, x0[i]'hin = c := ⟨_, rfl⟩
      have hbad : plainC c = true → plainB x0.data.toList = false := fun h => by
        unfold plainB
        rw [Bool.and_eq_false_iff]
        left
        rw [List.all_eq_false]
        have hl : i < x0.data.toList.length := by rw [← size_list]; exact hin
        refine ⟨c, ?_, by simp [h]⟩
        rw [← hc]
        exact List.getElem_mem hl
      have HBAD := Lib.hid hbad
      rcases plainC_cases c with ⟨e1, hp⟩ | ⟨e1, e2, hp⟩ | ⟨e1, e2, e3, hp⟩ | ⟨e1, e2, e3, e4, hp⟩ | ⟨e1, e2, e3, e4, e5, hp⟩ | ⟨e1, e2, e3, e4, e5, hp⟩
      · have q1 : (((x0[i]'hin).toNat : Int) == 32) = true := by rw [hc, e1]; rfl
        have HF := Lib.hid (HBAD.out hp)
        clear e1 hp hc hbad HBAD
        go_wp2_with fail
        go_ret
        exact ⟨by rw [HF.out]; rfl, rfl⟩
      · have q1 : (((x0[i]'hin).toNat : Int) == 32) = false := by rw [hc]; exact byte_ne (k := 32) (by omega) e1
        have q2 : (((x0[i]'hin).toNat : Int) == 9) = true := by rw [hc, e2]; rfl
        have HF := Lib.hid (HBAD.out hp)
        clear e1 e2 hp hc hbad HBAD
        go_wp2_with fail
        go_ret
        exact ⟨by rw [HF.out]; rfl, rfl⟩
      · have q1 : (((x0[i]'hin).toNat : Int) == 32) = false := by rw [hc]; exact byte_ne (k := 32) (by omega) e1
        have q2 : (((x0[i]'hin).toNat : Int) == 9) = false := by rw [hc]; exact byte_ne (k := 9) (by omega) e2
        have q3 : (((x0[i]'hin).toNat : Int) == 13) = true := by rw [hc, e3]; rfl
        have HF := Lib.hid (HBAD.out hp)
        clear e1 e2 e3 hp hc hbad HBAD
        go_wp2_with fail
        go_ret
        exact ⟨by rw [HF.out]; rfl, rfl⟩
      · have q1 : (((x0[i]'hin).toNat : Int) == 32) = false := by rw [hc]; exact byte_ne (k := 32) (by omega) e1
        have q2 : (((x0[i]'hin).toNat : Int) == 9) = false := by rw [hc]; exact byte_ne (k := 9) (by omega) e2
        have q3 : (((x0[i]'hin).toNat : Int) == 13) = false := by rw [hc]; exact byte_ne (k := 13) (by omega) e3
        have q4 : (((x0[i]'hin).toNat : Int) == 10) = true := by rw [hc, e4]; rfl
        have HF := Lib.hid (HBAD.out hp)
        clear e1 e2 e3 e4 hp hc hbad HBAD
        go_wp2_with fail
        go_ret
        exact ⟨by rw [HF.out]; rfl, rfl⟩
      · have q1 : (((x0[i]'hin).toNat : Int) == 32) = false := by rw [hc]; exact byte_ne (k := 32) (by omega) e1
        have q2 : (((x0[i]'hin).toNat : Int) == 9) = false := by rw [hc]; exact byte_ne (k := 9) (by omega) e2
        have q3 : (((x0[i]'hin).toNat : Int) == 13) = false := by rw [hc]; exact byte_ne (k := 13) (by omega) e3
        have q4 : (((x0[i]'hin).toNat : Int) == 10) = false := by rw [hc]; exact byte_ne (k := 10) (by omega) e4
        have q5 : (((x0[i]'hin).toNat : Int) == 35) = true := by rw [hc, e5]; rfl
        have HF := Lib.hid (HBAD.out hp)
        clear e1 e2 e3 e4 e5 hp hc hbad HBAD
        go_wp2_with fail
        go_ret
        exact ⟨by rw [HF.out]; rfl, rfl⟩
      · have q1 : (((x0[i]'hin).toNat : Int) == 32) = false := by rw [hc]; exact byte_ne (k := 32) (by omega) e1
        have q2 : (((x0[i]'hin).toNat : Int) == 9) = false := by rw [hc]; exact byte_ne (k := 9) (by omega) e2
        have q3 : (((x0[i]'hin).toNat : Int) == 13) = false := by rw [hc]; exact byte_ne (k := 13) (by omega) e3
        have q4 : (((x0[i]'hin).toNat : Int) == 10) = false := by rw [hc]; exact byte_ne (k := 10) (by omega) e4
        have q5 : (((x0[i]'hin).toNat : Int) == 35) = false := by rw [hc]; exact byte_ne (k := 35) (by omega) e5
        have HN : Hid (∀ j (hj : j < x0.size), j < i + 1 → plainC (x0[j]'hj) = false) := fun j hj hji => by
          by_cases e : j = i
          · subst e; rw [hc]; exact hp
          · exact HS.out j hj (by omega)
        clear e1 e2 e3 e4 e5 hp hc hbad HBAD
        go_wp2_with fail
        go_roundw
        case rel => exact ⟨i + 1, by go_num, by omega, HN, by first | rfl | trivial⟩
        case measure => simp [intOf]; omega
    · have hie : i = x0.size := by omega
      have hall : x0.data.toList.all (fun c => !plainC c) = true := by
        rw [List.all_eq_true]
        intro c hc
        obtain ⟨j, hj, rfl⟩ := List.mem_iff_getElem.1 hc
        have hjs : j < x0.size := by rw [size_list]; exact hj
        have := HS.out j hjs (by omega)
        have e : x0[j]'hjs = x0.data.toList[j]'hj := rfl
        rw [← e, this]
        rfl
      cases hE : x0.toList.isEmpty with
      | true =>
        have hp : plainB x0.data.toList = false := by unfold plainB; rw [← ByteArray.toList_eq, hE]; simp
        have HP := Lib.hid hp
        clear hp hall hie HS
        go_wp2_with fail
        go_ret
        exact ⟨by rw [HP.out]; rfl, rfl⟩
      | false =>
        have hp : plainB x0.data.toList = true := by unfold plainB; rw [hall, ← ByteArray.toList_eq, hE]; rfl
        have HP := Lib.hid hp
        clear hp hall hie HS
        go_wp2_with fail
        go_ret
        exact ⟨by rw [HP.out]; rfl, rfl⟩
theorem plain_is (x0 : ByteArray) (x : Bytes) (hx0 : bs x = x0) (b : Bool) (hb : plainB x = b) (w : World) (hx : x.length ≤ maxLen) : Calls Tryd.prog 16 #[.string x0] w fun e w' => e = .returned (.bool b) ∧ w = w' := by
  subst hx0 hb
  have := plain_any (bs x) w (by rw [bs_size]; exact hx)
  rw [bs_list] at this
  exact this
set_option maxHeartbeats 8000000 in
set_option maxRecDepth 100000 in
theorem wback_walk (A : Option Addr) (n c : Nat) (R : Rowz) (w : World) (hm : MaxAt w) (hr : Rws w w.heap.size A n R) :
    Calls Tryd.prog 4 #[.slice A n c] w fun e w' => e = .returned (.bool true) ∧ Below w.heap.size w w' := by
  by_cases hn : 20 < n
  · go_enter Tryd.func4, Tryd.ntmps4
    go_wp2_with fail
    refine (small02 _ hm).mono ?_
    rintro e w1 ⟨rfl, hB⟩
    go_wp2
    go_ret
    exact ⟨rfl, hB⟩
  · have hn1 : n ≤ 20 := by omega
    clear hn
    go_enter Tryd.func4, Tryd.ntmps4
    go_wp2_with fail
    refine (small02 _ hm).mono ?_
    rintro e w1 ⟨rfl, hB⟩
    replace hm := hm.below hB
    replace hr := hr.below hB
    have hs := hB.size
    have HM := Lib.hid hm
    have HB := Lib.hid hB
    have HR := Lib.hid hr
    have HLR := Lib.hid hr.len
    clear hm hB hr hs
    go_wp2
    go_loopw [4, 5] (fun sv iv wr => ∃ (i : Nat) (sb : ByteArray), sv = .string sb ∧ iv = .int .i64 i ∧ i ≤ n ∧ Hid (sb = bs (allL (R.take i))) ∧ sb.size ≤ i * 1021 ∧ Hid (∀ r ∈ R.take i, GoodR r) ∧ Below w.heap.size w wr ∧ Hid (Rws wr w.heap.size A n R) ∧ Hid (MaxAt wr)) (fun _ iv _ => n - (intOf iv).toNat)
    case atStart => exact ⟨0, bs [], rfl, rfl, by omega, by simp [Hid, allL], by simp [bs, ByteArray.size], by simp [Hid], HB.out, HR, HM⟩
    case round =>
      clear HM HB HR
      obtain ⟨i, sb, rfl, rfl, hi, HSB, hsb, HGO, hB, HR, HM⟩ := hrel
      have hs := hB.size
      by_cases hin : i < n
      · obtain ⟨ad, Aj, nj, cj, rfl, hab, c0, hsl, hnj, hmx⟩ := HR.out.at_ i hin
        obtain ⟨r, hrr⟩ : ∃ r, gR R i = r := ⟨_, rfl⟩
        rw [hrr] at hsl hnj hmx
        have HRR := Lib.hid hrr
        have HSL := Lib.hid hsl
        have HNJ := Lib.hid hnj
        have HMX := Lib.hid hmx
        clear hrr hsl hnj hmx
        by_cases hnl : 20 < nj
        · go_wp2_with fail
          go_ret
          exact ⟨rfl, hB⟩
        · have hnj2 : nj ≤ 20 := by omega
          clear hnl
          go_wp2
          go_loopw [6] (fun kv wx => ∃ (k : Nat), kv = .int .i64 k ∧ k ≤ nj ∧ Hid (∀ x ∈ r.take k, plainB x = true ∧ x.length ≤ 50) ∧ wr = wx) (fun kv _ => nj - (intOf kv).toNat)
          case atStart => exact ⟨0, rfl, by omega, by simp [Hid], rfl⟩
          case round =>
            obtain ⟨k, rfl, hk, HP, rfl⟩ := hrel
            by_cases hkn : k < nj
            · obtain ⟨ae, rfl, hae, c1⟩ := HSL.out.lst.atS HNJ.out hkn
              have hkr : k < r.length := by rw [HNJ.out]; exact hkn
              have hxm := HMX.out (gS r k) (by rw [gS_eq hkr]; exact List.getElem_mem hkr)
              obtain ⟨x, hx⟩ : ∃ x, gS r k = x := ⟨_, rfl⟩
              obtain ⟨x0, hx0⟩ : ∃ x0, bs x = x0 := ⟨_, rfl⟩
              rw [hx, hx0] at c1
              rw [hx] at hxm
              obtain ⟨b, hb⟩ : ∃ b, plainB x = b := ⟨_, rfl⟩
              have hxs : x0.size = x.length := by rw [← hx0, bs_size]
              have HPB := Lib.hid (fun W => plain_is x0 x hx0 b hb W hxm)
              have HN : Hid (b = true → x0.size ≤ 50 → ∀ x ∈ r.take (k + 1), plainB x = true ∧ x.length ≤ 50) := fun e1 e2 y hy => by
                rw [take_nextS hkr] at hy
                rcases List.mem_append.1 hy with hy | hy
                · exact HP.out y hy
                · simp at hy
                  subst hy
                  rw [hx]
                  exact ⟨by rw [hb]; exact e1, by omega⟩
              have hxz : x0.size ≤ maxLen := by rw [hxs]; exact hxm
              unfold maxLen at hxz
              clear hxm hx0 hb hxs hx hkr
              go_wp2_with fail
              refine (HPB.out _).mono ?_
              rintro e w3 ⟨rfl, rfl⟩
              cases b
              · go_wp2_with fail
                go_ret
                exact ⟨rfl, hB⟩
              · by_cases hl : 50 < x0.size
                · go_wp2_with fail
                  go_ret
                  exact ⟨rfl, hB⟩
                · have HN2 := Lib.hid (HN.out rfl (by omega))
                  clear HN
                  go_wp2_with fail
                  go_roundw
                  case rel => exact ⟨k + 1, by go_num, by omega, HN2, by first | rfl | trivial⟩
                  case measure => simp [intOf]; omega
            · have hke : k = nj := by omega
              have hgood : GoodR r := ⟨by rw [HNJ.out]; exact hnj2, fun x hx => HP.out x (by rw [hke, List.take_of_length_le (by rw [HNJ.out]; exact Nat.le_refl _)]; exact hx)⟩
              have hiR : i < R.length := by rw [HLR.out]; exact hin
              obtain ⟨lr, hlr⟩ : ∃ l, bs (lineL r) = l := ⟨_, rfl⟩
              have hlz : lr.size ≤ 1021 := by rw [← hlr, bs_size]; exact line_len hgood
              have hcat : sb ++ lr = bs (allL (R.take (i + 1))) := by
                rw [HSB.out, ← hlr, bs_append, take_nextR hiR, HRR.out, allL_snoc]
              have hcz : (sb ++ lr).size ≤ (i + 1) * 1021 := by rw [ByteArray.size_append, Nat.add_mul, Nat.one_mul]; omega
              have hg2 : ∀ q ∈ R.take (i + 1), GoodR q := fun q hq => by
                rw [take_nextR hiR, HRR.out] at hq
                rcases List.mem_append.1 hq with hq | hq
                · exact HGO.out q hq
                · simp at hq; subst hq; exact hgood
              have hi20 : i * 1021 ≤ 21000 := by omega
              have HL := Lib.hid (line_is Aj nj cj r lr hlr wr HNJ.out (by omega) (fun x hx => by have := (hgood.2 x hx).2; omega) (HSL.out.more hs))
              have HCAT := Lib.hid hcat
              have HG2 := Lib.hid hg2
              clear hgood hlr hcat hg2 HP
              subst hke
              go_wp2_with fail
              refine HL.out.mono ?_
              rintro e w3 ⟨rfl, hb⟩
              have hB3 := hB.trans (hb.mono hs)
              have HR3 := Lib.hid (HR.out.below (hb.mono hs))
              have HM3 := Lib.hid (HM.out.below hb)
              clear hb HL c0
              go_wp2_with fail
              go_roundw
              case rel => exact ⟨i + 1, sb ++ lr, rfl, by go_num, by omega, HCAT, hcz, HG2, hB3, HR3, HM3⟩
              case measure => simp [intOf]; omega
      · have hie : i = n := by omega
        have htk : R.take i = R := List.take_of_length_le (by rw [HLR.out]; omega)
        have hsb2 := HSB.out
        have hgo := HGO.out
        rw [htk] at hsb2 hgo
        have hll : linesL sb.data.toList = R.map jn := by rw [hsb2, bs_list]; exact lines_rows hgo
        have hlz : sb.data.toList.length ≤ 100000 := by rw [← size_list]; omega
        have hlen : (R.map jn).length = n := by rw [List.length_map, HLR.out]
        have HLL := Lib.hid hll
        have HLZ := Lib.hid hlz
        have HLN := Lib.hid hlen
        have HGD := Lib.hid hgo
        subst hie
        clear htk hsb2 hgo hll hlz hlen HSB HGO hin
        go_wp2_with fail
        refine (lines_is sb (R.map jn) i HLL.out HLN.out _ HM.out HLZ.out).mono ?_
        rintro e w2 ⟨A1, c1, rfl, h1, hb⟩
        have HR2 := Lib.hid (HR.out.below (hb.mono hs))
        have HM2 := Lib.hid (HM.out.below hb)
        replace hB := hB.trans (hb.mono hs)
        replace hs := hB.size
        have HL1 := Lib.hid h1
        have HB2 := Lib.hid hB
        clear hb HR HM h1 hB
        go_wp2
        go_loopw [8] (fun jv wx => ∃ (j : Nat), jv = .int .i64 j ∧ j ≤ i ∧ Below w2.heap.size w2 wx) (fun jv _ => i - (intOf jv).toNat)
        case atStart => exact ⟨0, rfl, by omega, Below.refl _ _⟩
        case round =>
          obtain ⟨j, rfl, hj, hb2⟩ := hrel
          have hs2 := hb2.size
          by_cases hji : j < i
          · have hR := HR2.out.below (hb2.mono hs)
            have hL := own_below HL1.out hb2
            have hM := HM2.out.below hb2
            obtain ⟨ad, Aj, nj, cj, rfl, hab, c0, hsl, hnj, _⟩ := hR.at_ j hji
            obtain ⟨al, rfl, hal, c2⟩ := (Sl.of_own hL).lst.atS HLN.out hji
            have hjR : j < R.length := by rw [HLR.out]; exact hji
            obtain ⟨r, hrr⟩ : ∃ r, gR R j = r := ⟨_, rfl⟩
            have hgr : GoodR r := HGD.out r (by rw [← hrr, gR_eq hjR]; exact List.getElem_mem hjR)
            have hgs : gS (R.map jn) j = jn r := by
              rw [gS_eq (by rw [List.length_map]; exact hjR), List.getElem_map, ← hrr, gR_eq hjR]
            rw [hrr] at hsl hnj
            obtain ⟨y0, hy0⟩ : ∃ y, bs (jn r) = y := ⟨_, rfl⟩
            rw [hgs, hy0] at c2
            have hw0 : wordsL y0.data.toList = r := by rw [← hy0, bs_list]; exact words_row hgr
            have hyz : y0.data.toList.length ≤ 100000 := by
              rw [← hy0, bs_list]
              have h1 := line_len hgr
              rw [lineL_eq, List.length_append] at h1
              omega
            have HW := Lib.hid hw0
            have HNJ := Lib.hid hnj
            have HYZ := Lib.hid hyz
            have hnj2 : nj ≤ 20 := by rw [← hnj]; exact hgr.1
            clear hgr hgs hy0 hw0 hyz hnj hrr hjR hR hL
            have hsd := Nat.le_trans hs hs2
            go_wp2_with fail
            have hbd : Below wr.heap.size wr wr.drew := ⟨rfl, rfl, rfl, Nat.le_refl _, fun _ _ => rfl⟩
            replace c0 := cellB hbd c0
            replace c2 := cellB hbd c2
            replace hsl := hsl.below (hbd.mono hsd)
            replace hM := hM.below hbd
            replace hb2 := hb2.trans (hbd.mono hs2)
            replace hs2 := hb2.size
            replace hsd := Nat.le_trans hsd hbd.size
            clear hbd hab hal
            go_region_with (first
              | (go_at_call 12; refine Calls.mono (words_is y0 r nj HW.out HNJ.out _ hM HYZ.out) ?_; rintro e wN ⟨A9, c9, rfl, h9, hb⟩; replace c0 := cellB hb c0; replace c2 := cellB hb c2; replace hsl := hsl.below (hb.mono hsd); replace hb2 := hb2.trans (hb.mono hs2); replace hs2 := hb2.size; replace hsd := Nat.le_trans hsd hb.size; clear hb hM)
              | (go_at_call 9; refine Calls.mono (rsame_is A9 Aj nj c9 nj cj r r true (decide_eq_true rfl) _ HNJ.out HNJ.out (by omega) (Sl.of_own h9) (hsl.more hsd)) ?_; rintro e wN ⟨rfl, hb⟩; replace hb2 := hb2.trans (hb.mono hs2); clear hb h9 hsl))
            all_goals
              go_wp2_with fail
              go_roundw
              case rel => exact ⟨j + 1, by go_num, by omega, hb2⟩
              case measure => simp [intOf]; omega
          · have hje : j = i := by omega
            subst hje
            go_wp2_with fail
            go_ret
            exact ⟨rfl, HB2.out.trans (hb2.mono hs)⟩
theorem wordsBack_walk (A : Option Addr) (n c : Nat) (R : Rowz) (w : World) (hm : MaxAt w) (hr : Rws w w.heap.size A n R) :
    Calls Tryd.prog 4 #[.slice A n c] w fun e w' => e = .returned (.bool true) ∧ Below w.heap.size w w' := wback_walk A n c R w hm hr
theorem wordsBack_own : ownKnob Tryd.prog.godebug = none := by kernel_rfl
theorem wordsBack_laidOut : laidOutB Tryd.prog = true := by kernel_rfl
set_option maxHeartbeats 1000000 in
set_option maxRecDepth 100000 in
theorem wordsBack_lifted (os : Os) (started : os.Started) (H : Type) (enc : TypeId × Value → H) :
    ReturnsInHanded {} Tryd.checked os 4 .any (fun w args => (Rows.wordsBackSpec.pre enc Tryd.prog Tryd.f4 [] false w args ∧ laidMetH Tryd.prog Rows.wordsBackRow.laid w) ∧ sizedMet enc Tryd.prog Tryd.f4 (OpenSpec.ofChange Rows.wordsBackSpec) false w args)
      (Rows.wordsBackSpec.post enc Tryd.prog Tryd.f4 false true false false) := by
  refine returnsInHanded_of_change_and_shaped (C := Tryd.checked) (X := fun w _ => laidMetH Tryd.prog Rows.wordsBackRow.laid w) (fun _ _ _ hh h => h.of_heap hh) wordsBack_own started (by kernel_rfl) Tryd.func4
    (ChangeSpec.witness_shaped (enc := enc) (C := Tryd.checked) (os := os) (X := fun w _ => laidMetH Tryd.prog Rows.wordsBackRow.laid w) false (World.laidAll Tryd.prog os Rows.wordsBackRow.laid) #[.slice none 0 0] 8 (World.laidAll_os _ _ _) (World.shaped_of_ZipB (by kernel_rfl) (by kernel_rfl)) (by kernel_rfl) (by kernel_rfl) (by kernel_rfl) (by rw [MakeChecks.laidMetH_plain _ _ _ (by kernel_rfl)]; exact laidMet_laidAll _ (by kernel_rfl) (by kernel_rfl))) ?_
  intro W base args ds gs before hval0 hW _ _ _ hL _
  have hval : ∀ (j : Nat) t v, Tryd.f4.params[j]? = some t → args[j]? = some v → Value.okWide Tryd.prog W .any base t v := hval0
  have hW' := hW
  obtain ⟨p, q, hA0, hV, rfl, hfz, hnd⟩ := hW
  have hA : DataW.TrodAll enc Tryd.prog W 0 (fun _ => true) true Tryd.f4.params.toList args.toList ds p := hA0
  rw [Tryd.params4] at hA hval
  obtain ⟨v0, vs0, d0, ds0, p0, q0, hargs, rfl, rfl, h0, r0⟩ := trodAll_cons hA
  obtain ⟨rfl, rfl, rfl⟩ := trodAll_nil r0
  obtain rfl : args = #[v0] := by cases args; simp_all
  obtain ⟨rfl, rfl⟩ := trodVars_none hV
  obtain ⟨A0, n0, c0, ns0, rfl, hl0⟩ := open_rowz Tryd.underlying29 Tryd.underlying22 Tryd.underlying9 (by kernel_rfl) (by kernel_rfl) (hval 0 29 v0 rfl rfl) h0
  clear hA0 hval0
  refine (wordsBack_walk A0 n0 c0 ns0  W (max_of_shaped hL) hl0).mono fun e W' ⟨he, bel⟩ => ?_
  subst he
  exact ⟨_, rfl, law_post wordsBack_laidOut (by kernel_rfl) rfl Tryd.underlying4 rfl rfl hW' bel⟩

theorem wordsBack_holds : Rows.WordsBackSaid :=
  OpenClaim.holds_of_wide 4 Tryd.f4 rfl rfl rfl rfl rfl rfl rfl ⟨rfl, rfl, rfl, rfl, rfl⟩ rfl rfl rfl rfl rfl (by kernel_rfl) Tryd.func4 (by kernel_rfl)
    (of_decide_eq_true (by kernel_rfl)) (by unfold Func.isWrapper; first | (rw [if_pos (by decide +kernel)]; kernel_rfl) | (rw [if_neg (by decide +kernel)]; exact ⟨rfl, rfl⟩))
    (fun os started H enc _ => wordsBack_lifted os started H enc)

theorem wordsBack_proved : Rows.WordsBackCardSaid :=
  Claim7.holds_tied_plain_at .later [] Rows.wordsBackCard.laidKinds true Rows.wordsBackCard.stood.harness false
    wordsBack_holds (fun _ h => by cases h) (by kernel_rfl) (fun _ h => by cases h) wordsBack_row_tie rfl ⟨rfl, rfl⟩ (by kernel_rfl) rfl
    (fun f fn hf hfn => by
      obtain rfl : f = 4 := Option.some.inj ((show Tryd.prog.funcNamed "felucca/feluccalaw02.WordsBack" = some 4 by kernel_rfl).symm.trans hf) |>.symm
      obtain rfl : fn = Tryd.f4 := (Option.some.inj (Tryd.func4.symm.trans hfn)).symm
      exact ⟨by kernel_rfl, fun j t ht => by
        rw [Tryd.params4] at ht
        have hm : t ∈ [29] := by simpa using Array.mem_of_getElem? ht
        have hall : ([29].all fun u => !Tryd.prog.wantsStandIn u) = true := by kernel_rfl
        exact (show Tryd.prog.wantsStandIn t = false by simpa using List.all_eq_true.1 hall t hm)⟩)
    (by kernel_rfl)
#print axioms wordsBack_proved
end Go.Proofs.YtokheconenkcpaaDoor
