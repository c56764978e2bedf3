/- What is told, call by call: HeapTells returns true for any ones at first and any calls. No condition. -/
import Derived.Test.YtpmibpclkfidkaaRef14n
namespace Go.Proofs.Ytpmibpclkfidkaa
open Go.ChangeShapes Go.WideShapes Go.ChangeAt Go.RowKit Go.Sort Hp
set_option linter.unusedSimpArgs false
set_option linter.unusedVariables false
/-- Both heaps hold the same ones. -/
def Both (w wr : World) (hb gb : Nat) (l : List (Int × Int)) : Prop := ∃ v d A n c s, HeapB wr w.heap.size hb v d l ∧ RefB wr w.heap.size gb A n c s ∧ s.Perm l ∧ hb ≠ gb ∧ v.ownBlock ≠ some gb ∧ (∀ ad, A = some ad → ad.block ≠ hb ∧ v.ownBlock ≠ some ad.block ∧ ad.block < wr.heap.size)
theorem Both.below {w wr wx : World} {hb gb : Nat} {l : List (Int × Int)} (h : Both w wr hb gb l) (hb' : Below wr.heap.size wr wx) : Both w wx hb gb l := by
  obtain ⟨v, d, A, n, c, s, hH, hR, hp, x1, x2, x3⟩ := h
  exact ⟨v, d, A, n, c, s, hH.below hb', hR.below hb', hp, x1, x2, fun ad e => ⟨(x3 ad e).1, (x3 ad e).2.1, Nat.lt_of_lt_of_le (x3 ad e).2.2 hb'.size⟩⟩
theorem Lst.act3 {w : World} {B : Nat} {A : Option Addr} {n : Nat} {ns : List Int} (h : Lst w B 3 A n (ns.map (Value.int .i64))) (hl : ns.length = n * 3) {k : Nat} (hk : k < n) : ∃ ad, A = some ad ∧ ad.block < B ∧ w.cell? (ad.add (k * 3)) = some (.int .i64 (ns.getD (k * 3) 0)) ∧ w.cell? ⟨(ad.add (k * 3)).block, (ad.add (k * 3)).off + 1, none⟩ = some (.int .i64 (ns.getD (k * 3 + 1) 0)) ∧ w.cell? ⟨(ad.add (k * 3)).block, (ad.add (k * 3)).off + 2, none⟩ = some (.int .i64 (ns.getD (k * 3 + 2) 0)) := by
  obtain ⟨ad, e, hb, hc⟩ := h.at_ (by omega)
  have g : ∀ j, j < n * 3 → (ns.map (Value.int .i64))[j]? = some (.int .i64 (ns.getD j 0)) := fun j hj => by
    rw [List.getElem?_map, List.getD_eq_getElem?_getD, List.getElem?_eq_getElem (by omega)]; rfl
  exact ⟨ad, e, hb, hc _ _ (g _ (by omega)), by rw [add_next _ _ _ (by omega)]; exact hc _ _ (g _ (by omega)), by rw [add_next _ _ _ (by omega)]; exact hc _ _ (g _ (by omega))⟩
theorem sorted_split {s l : List (Int × Int)} {m : Int × Int} (hs : sorted s) (hp : s.Perm l) (hm : IsLeast m l) : ∃ t, s = m :: t ∧ t.Perm (l.erase m) := by
  cases s with
  | nil => have := hp.mem_iff.2 hm.1; simp at this
  | cons x t =>
    have e := least_one (least_perm (sorted_least hs) hp) hm
    subst e
    refine ⟨t, rfl, ?_⟩
    have := hp.erase x
    rwa [List.erase_cons_head] at this
set_option maxHeartbeats 8000000 in
set_option maxRecDepth 100000 in
theorem heapTells_walk (A : Option Addr) (n c : Nat) (ns : List Int) (A2 : Option Addr) (n2 c2 : Nat) (ns2 : List Int) (hnc : n ≤ c) (hcm : c ≤ maxLen) (hnl : ns.length = n * 2) (hw : ∀ m ∈ ns, (Lit.int .i64 m).wf = true) (hnc2 : n2 ≤ c2) (hcm2 : c2 ≤ maxLen) (hnl2 : ns2.length = n2 * 3) (hw2 : ∀ m ∈ ns2, (Lit.int .i64 m).wf = true) (w : World) (hl : Lst w w.heap.size 2 A n (ns.map (Value.int .i64))) (hl2 : Lst w w.heap.size 3 A2 n2 (ns2.map (Value.int .i64))) :
    Calls Try.prog 3 #[.slice A n c, .slice A2 n2 c2] w fun e w' => e = .returned (.bool true) ∧ Below w.heap.size w w' := by
  clear hw hw2
  obtain ⟨l0, hln, hlf⟩ := pairs_of n ns hnl
  rw [hlf] at hl
  clear hlf hnl
  unfold maxLen at hcm hcm2
  by_cases hn : 100 < n ∨ 200 < n2
  · have hn' : 100 < n ∨ (n ≤ 100 ∧ 200 < n2) := by omega
    clear hn
    rcases hn' with hn | ⟨hn, hk⟩
    all_goals
      go_enter Try.func3, Try.ntmps3
      go_wp2_with fail
      refine (small14 _).mono ?_
      rintro e w1 ⟨rfl, hB⟩
      go_wp2
      go_ret
      exact ⟨rfl, by (repeat (first | exact Below.refl _ _ | exact hB | refine Below.alloc ?_ (by first | omega | (simp; done) | (simp; omega)) _ | refine Below.setCell ?_ (by first | omega | (simp; done) | (simp; omega)) _ | refine Below.drew ?_ | refine Below.trans ?_ (hB.mono (by first | omega | (simp; done) | (simp; omega)))))⟩
  · have hn1 : n ≤ 100 := by omega
    have hn2 : n2 ≤ 200 := by omega
    clear hn
    go_enter Try.func3, Try.ntmps3
    go_wp2_with fail
    refine (small14 _).mono ?_
    rintro e w1 ⟨rfl, hB⟩
    have hs := hB.size
    have hl1 := (hl.below hB).more (B' := w1.heap.size) hB.size
    clear hl
    go_wp2_with fail
    refine (new_any A n c l0 w1 hln (by omega) hl1).mono ?_
    rintro e w2 ⟨hb, v, d, rfl, hH, hb2⟩
    replace hB := hB.trans (hb2.mono hs)
    have hs2 := hb2.size
    have hl3 := (hl1.below hb2).more (B' := w2.heap.size) hs2
    replace hH := hH.up (B := w.heap.size) hs
    clear hb2 hl1
    go_wp2_with fail
    refine (rnew_any A n c l0 w2 hln (by omega) hl3).mono ?_
    rintro e w3 ⟨gb, A0, c0, s, rfl, hR, hp, hb3, hsz⟩
    have hs3 := hb3.size
    have hBo : Both w w3 hb gb l0 := by
      have h1 := hH.at_.head.lt
      have h2 := hR.gbB
      refine ⟨v, d, A0, n, c0, s, hH.below hb3, ⟨hR.head, hR.lst, hR.len, hR.cap, hR.max, by omega, fun ad e => by have := hR.own ad e; omega, hR.sep, hR.ord⟩, hp, by omega, fun e => by have := hH.ownlt _ e; omega, fun ad e => ?_⟩
      have h3 := hR.own ad e
      refine ⟨by omega, fun e2 => by have := hH.ownlt _ e2; omega, ?_⟩
      exact hsz ad e
    replace hB := hB.trans (hb3.mono (by omega))
    have HJ : Hid (∃ l, l.length ≤ 100 + 0 ∧ Both w w3 hb gb l) := ⟨l0, by omega, hBo⟩
    clear hBo hR hH hp hb3 hl3 hln hs hs2 hs3
    go_wp2
    go_loopw [8] (fun i wr => ∃ k : Nat, k ≤ n2 ∧ i = .int .i64 k ∧ Hid (∃ l, l.length ≤ 100 + k ∧ Both w wr hb gb l) ∧ Below w.heap.size w wr) (fun i _ => n2 - (intOf i).toNat)
    case atStart => exact ⟨0, by omega, rfl, HJ, hB⟩
    case round =>
      clear HJ hB
      obtain ⟨k, hk, rfl, HJ, hB⟩ := hrel
      have hs := hB.size
      by_cases hkn : k < n2
      · obtain ⟨l, hlen, v, d, A3, n3, c3, s, hH, hR, hp, x1, x2, x3⟩ := HJ.out
        clear HJ
        obtain ⟨ad, rfl, hab, c0, c1, c2'⟩ := (hl2.below hB).act3 hnl2 hkn
        obtain ⟨z, hz⟩ : ∃ z, ns2.getD (k * 3) 0 = z := ⟨_, rfl⟩
        obtain ⟨r1, hr1⟩ : ∃ z, ns2.getD (k * 3 + 1) 0 = z := ⟨_, rfl⟩
        obtain ⟨r2, hr2⟩ : ∃ z, ns2.getD (k * 3 + 2) 0 = z := ⟨_, rfl⟩
        rw [hz] at c0
        rw [hr1] at c1
        rw [hr2] at c2'
        have HR1 := Lib.hid hr1
        have HR2 := Lib.hid hr2
        have hn3 : n3 ≤ 100 + k := by have := hR.len; have := hp.length_eq; omega
        have HLE := Lib.hid hlen
        have HP := Lib.hid hp
        have HX1 := Lib.hid x1
        have HX2 := Lib.hid x2
        have HX3 := Lib.hid x3
        have hgl := hR.head.lt
        have hhl := hH.at_.head.lt
        have hgB := hR.gbB
        have hhB := hH.hb
        have heq := neq_ready
        have hgd : Try.prog.eqGuardType Try.prog.depth 30 = false := by kernel_rfl
        clear hz hr1 hr2 hlen hp x1 x2 x3
        by_cases z0 : z = 0
        · subst z0
          go_wp2_with fail
          refine (pushC hH hs (r1, r2) (by have := HLE.out; omega)).mono ?_
          rintro e w4 ⟨rfl, v', d', hH2, ho, hK⟩
          have hRR := hR.keptS hK (fun h => by rcases h with h | h; exact HX1.out h.symm; exact HX2.out h) (fun ad e h => by rcases h with h | h; exact (HX3.out ad e).1 h; exact (HX3.out ad e).2.1 h)
          have hB4 := hK.below_of hB hs (fun i hi h => by rcases h with h | h; omega; have := hH.own _ h; omega)
          have hs4 := hB4.size
          have hk4 := hK.size
          obtain ⟨ad', ee, _, c0', c1', c2''⟩ := (hl2.below hB4).act3 hnl2 hkn
          injection ee with ee
          subst ee
          rw [HR1.out] at c1'
          rw [HR2.out] at c2''
          have hX2' : v'.ownBlock ≠ some gb := by
            intro e
            rcases ho with h | ⟨q, hq, h⟩
            · rw [h] at e; exact HX2.out e
            · rw [h] at e; injection e with e; omega
          have HX2' := Lib.hid hX2'
          have hvl := hH2.ownlt
          have HVL := Lib.hid hvl
          clear hK ho hH hR c0 c1 c2' hX2' hvl c0'
          go_wp2_with fail
          refine (rpush_any (r1, r2) hRR (by omega) hs4).mono ?_
          rintro e w5 ⟨rfl, g', c5, s5, hR5, hp5, hg5, hK5⟩
          have hH5 := hH2.keptS hK5 (fun h => HX1.out h) (fun q hq h => HX2'.out (by rw [hq, h]))
          have hB5 := hK5.below_of hB4 hs4 (fun i hi h => by omega)
          have hP5 := hp5.trans (HP.out.append_right [(r1, r2)])
          have HJ5 : Hid (∃ l, l.length ≤ 100 + (k + 1) ∧ Both w w5 hb gb l) := by
            refine ⟨l ++ [(r1, r2)], by have := HLE.out; simp; omega, v', d', _, n3 + 1, c5, s5, hH5, hR5, hP5, HX1.out, HX2'.out, fun ad e => ?_⟩
            injection e with e
            subst e
            obtain ⟨ad2, e2, hlt, _⟩ := hR5.lst.at_ (by omega)
            injection e2 with e2
            subst e2
            exact ⟨(by show g' ≠ hb; omega), (fun e3 => by have : g' < w4.heap.size := HVL.out _ e3; omega), hlt⟩
          have hne : ((l.length : Int) + 1 != (s5.length : Int)) = false := by have := hP5.length_eq; simp at this; simp; omega
          clear hK5 hH2 hRR c1' c2'' hP5 hp5
          go_wp2_with fail
          refine (lenC hH5).mono ?_
          rintro e wy ⟨rfl, rfl⟩
          go_wp2_with fail
          refine (rlen_any hR5).mono ?_
          rintro e wy ⟨rfl, rfl⟩
          clear hH5 hR5
          go_wp2
          go_roundw
          case rel => exact ⟨k + 1, by omega, by go_num, HJ5, hB5⟩
          case measure => simp [intOf]; omega
        · have z0' : (z == 0) = false := beq_eq_false_iff_ne.2 z0
          have hle : l = [] ∨ ∃ m, IsLeast m l := by
            by_cases e : l = []
            · exact .inl e
            · exact .inr (least_ex l e)
          by_cases z1 : z = 1
          · subst z1
            rcases hle with rfl | ⟨m, hm⟩
            · obtain rfl : s = [] := HP.out.eq_nil
              have HBo : Hid (Both w wr hb gb []) := ⟨v, d, A3, n3, c3, _, hH, hR, HP.out, HX1.out, HX2.out, HX3.out⟩
              have hne : ((([] : List (Int × Int)).length : Int) != (([] : List (Int × Int)).length : Int)) = false := by simp
              go_wp2_with fail
              refine (pop_none hb _ _ hH.nil_).mono ?_
              rintro e w4 ⟨rfl, hb4⟩
              have hRR := hR.below hb4
              have hH2 := hH.below hb4
              have HB4 := Lib.hid (HBo.out.below hb4)
              have hB4 := hB.trans (hb4.mono hs)
              have hs4 := hB4.size
              have hk4 := hb4.size
              clear hb4 hH hR c0 c1 c2' HBo
              have hR9 := Blok.new w4 30 #[.int .i64 0, .int .i64 0]
              have hBa : Below w4.heap.size w4 (w4.alloc (.cells #[.int .i64 0, .int .i64 0] 30)) := (Below.refl _ _).alloc (Nat.le_refl _) _
              replace hH2 := hH2.below hBa
              replace hRR := hRR.below hBa
              replace HB4 := Lib.hid (HB4.out.below hBa)
              replace hB4 := hB4.trans (hBa.mono hs4)
              have hz9 : w4.heap.size < (w4.alloc (.cells #[.int .i64 0, .int .i64 0] 30)).heap.size := by simp
              clear hBa
              go_wp2_with fail
              generalize w4.alloc (.cells #[.int .i64 0, .int .i64 0] 30) = wx at *
              have hsx := hB4.size
              refine (rpop_none hRR).mono ?_
              rintro e w5 ⟨rfl, hb5⟩
              have hR5 := hRR.below hb5
              have hH5 := hH2.below hb5
              have HB5 := Lib.hid (HB4.out.below hb5)
              have hB5 := hB4.trans (hb5.mono hsx)
              have hk5 := hb5.size
              replace hR9 := hR9.below hb5 hz9
              have r9a : w5.cell? ⟨w4.heap.size, 0, none⟩ = some (.int .i64 0) := hR9.cell 0
              have r9b : w5.cell? ⟨w4.heap.size, 1, none⟩ = some (.int .i64 0) := hR9.cell 1
              have hl9 : w4.heap.size < w5.heap.size := hR9.lt
              have hs5 := hB5.size
              have hBa : Below w5.heap.size w5 (w5.alloc (.cells #[.int .i64 0, .int .i64 0] 30)) := (Below.refl _ _).alloc (Nat.le_refl _) _
              have HJ5 : Hid (∃ l, l.length ≤ 100 + (k + 1) ∧ Both w (w5.alloc (.cells #[.int .i64 0, .int .i64 0] 30)) hb gb l) := ⟨_, by have := HLE.out; omega, HB5.out.below hBa⟩
              replace hH5 := hH5.below hBa
              replace hR5 := hR5.below hBa
              replace hB5 := hB5.trans (hBa.mono hs5)
              clear hb5 hH2 hRR hBa hR9 HB4 HB5
              go_wp2_with fail
              refine (lenC hH5).mono ?_
              rintro e wy ⟨rfl, rfl⟩
              go_wp2_with fail
              refine (rlen_any hR5).mono ?_
              rintro e wy ⟨rfl, rfl⟩
              clear hH5 hR5
              go_wp2
              go_roundw
              case rel => exact ⟨k + 1, by omega, by go_num, HJ5, hB5⟩
              case measure => simp [intOf]; omega
            · obtain ⟨t, rfl, ht⟩ := sorted_split hR.ord HP.out hm
              obtain ⟨mn, ma⟩ := m
              have HT := Lib.hid ht
              have hml : 0 < l.length := List.length_pos_of_mem hm.1
              have hel : (l.erase (mn, ma)).length = l.length - 1 := List.length_erase_of_mem hm.1
              clear ht
              go_wp2_with fail
              refine (popC hH hm (by have := HLE.out; omega)).mono ?_
              rintro e w4 ⟨rfl, v', d', hH2, ho, hK⟩
              have hRR := hR.keptS hK (fun h => by rcases h with h | h; exact HX1.out h.symm; exact HX2.out h) (fun ad e h => by rcases h with h | h; exact (HX3.out ad e).1 h; exact (HX3.out ad e).2.1 h)
              have hB4 := hK.below_of hB hs (fun i hi h => by rcases h with h | h; omega; have := hH.own _ h; omega)
              have hs4 := hB4.size
              have hk4 := hK.size
              have HO := Lib.hid ho
              clear hK ho hH hR c0 c1 c2' hm
              have hR9 := Blok.new w4 30 #[.int .i64 mn, .int .i64 ma]
              have hBa : Below w4.heap.size w4 (w4.alloc (.cells #[.int .i64 mn, .int .i64 ma] 30)) := (Below.refl _ _).alloc (Nat.le_refl _) _
              replace hH2 := hH2.below hBa
              replace hRR := hRR.below hBa
              replace hB4 := hB4.trans (hBa.mono hs4)
              have hz9 : w4.heap.size < (w4.alloc (.cells #[.int .i64 mn, .int .i64 ma] 30)).heap.size := by simp
              clear hBa
              go_wp2_with fail
              generalize w4.alloc (.cells #[.int .i64 mn, .int .i64 ma] 30) = wx at *
              have hsx := hB4.size
              refine (rpop_some hRR (by omega) hsx).mono ?_
              rintro e w5 ⟨rfl, A5, hR5, hK5, hA5⟩
              have hH5 := hH2.keptS hK5 (fun h => HX1.out h) (fun q hq h => HX2.out (by rw [← HO.out, hq, h]))
              have hB5 := hK5.below_of hB4 hsx (fun i hi h => by omega)
              have hk5 := hK5.size
              replace hR9 := hR9.kept hK5 (fun h => by omega)
              have hBo5 : Both w w5 hb gb (l.erase (mn, ma)) := by
                refine ⟨v', d', A5, _, _, t, hH5, hR5, HT.out, HX1.out, (by rw [HO.out]; exact HX2.out), fun ad e => ?_⟩
                obtain ⟨ad0, e0, eb⟩ := hA5 ad e
                have h3 := HX3.out ad0 e0
                rw [eb, HO.out]
                exact ⟨h3.1, h3.2.1, by have := h3.2.2; omega⟩
              have r9a : w5.cell? ⟨w4.heap.size, 0, none⟩ = some (.int .i64 mn) := hR9.cell 0
              have r9b : w5.cell? ⟨w4.heap.size, 1, none⟩ = some (.int .i64 ma) := hR9.cell 1
              have hl9 : w4.heap.size < w5.heap.size := hR9.lt
              have hs5 := hB5.size
              have hBa : Below w5.heap.size w5 (w5.alloc (.cells #[.int .i64 mn, .int .i64 ma] 30)) := (Below.refl _ _).alloc (Nat.le_refl _) _
              have HJ5 : Hid (∃ l, l.length ≤ 100 + (k + 1) ∧ Both w (w5.alloc (.cells #[.int .i64 mn, .int .i64 ma] 30)) hb gb l) := ⟨_, by have := HLE.out; omega, hBo5.below hBa⟩
              replace hH5 := hH5.below hBa
              replace hR5 := hR5.below hBa
              replace hB5 := hB5.trans (hBa.mono hs5)
              have hne : (((l.erase (mn, ma)).length : Int) != (t.length : Int)) = false := by rw [HT.out.length_eq]; simp
              clear hK5 hH2 hRR hBo5 hBa hR9 hA5
              go_wp2_with fail
              refine (lenC hH5).mono ?_
              rintro e wy ⟨rfl, rfl⟩
              go_wp2_with fail
              refine (rlen_any hR5).mono ?_
              rintro e wy ⟨rfl, rfl⟩
              clear hH5 hR5
              go_wp2
              go_roundw
              case rel => exact ⟨k + 1, by omega, by go_num, HJ5, hB5⟩
              case measure => simp [intOf]; omega
          · have z1' : (z == 1) = false := beq_eq_false_iff_ne.2 z1
            rcases hle with rfl | ⟨m, hm⟩
            · obtain rfl : s = [] := HP.out.eq_nil
              have HBo : Hid (Both w wr hb gb []) := ⟨v, d, A3, n3, c3, _, hH, hR, HP.out, HX1.out, HX2.out, HX3.out⟩
              have hne : ((([] : List (Int × Int)).length : Int) != (([] : List (Int × Int)).length : Int)) = false := by simp
              go_wp2_with fail
              refine (peek_none hb _ _ hH.nil_).mono ?_
              rintro e w4 ⟨rfl, hb4⟩
              have hRR := hR.below hb4
              have hH2 := hH.below hb4
              have HB4 := Lib.hid (HBo.out.below hb4)
              have hB4 := hB.trans (hb4.mono hs)
              have hs4 := hB4.size
              have hk4 := hb4.size
              clear hb4 hH hR c0 c1 c2' HBo
              have hR9 := Blok.new w4 30 #[.int .i64 0, .int .i64 0]
              have hBa : Below w4.heap.size w4 (w4.alloc (.cells #[.int .i64 0, .int .i64 0] 30)) := (Below.refl _ _).alloc (Nat.le_refl _) _
              replace hH2 := hH2.below hBa
              replace hRR := hRR.below hBa
              replace HB4 := Lib.hid (HB4.out.below hBa)
              replace hB4 := hB4.trans (hBa.mono hs4)
              have hz9 : w4.heap.size < (w4.alloc (.cells #[.int .i64 0, .int .i64 0] 30)).heap.size := by simp
              clear hBa
              go_wp2_with fail
              generalize w4.alloc (.cells #[.int .i64 0, .int .i64 0] 30) = wx at *
              have hsx := hB4.size
              refine (rpeek_none hRR).mono ?_
              rintro e w5 ⟨rfl, hb5⟩
              have hR5 := hRR.below hb5
              have hH5 := hH2.below hb5
              have HB5 := Lib.hid (HB4.out.below hb5)
              have hB5 := hB4.trans (hb5.mono hsx)
              have hk5 := hb5.size
              replace hR9 := hR9.below hb5 hz9
              have r9a : w5.cell? ⟨w4.heap.size, 0, none⟩ = some (.int .i64 0) := hR9.cell 0
              have r9b : w5.cell? ⟨w4.heap.size, 1, none⟩ = some (.int .i64 0) := hR9.cell 1
              have hl9 : w4.heap.size < w5.heap.size := hR9.lt
              have hs5 := hB5.size
              have hBa : Below w5.heap.size w5 (w5.alloc (.cells #[.int .i64 0, .int .i64 0] 30)) := (Below.refl _ _).alloc (Nat.le_refl _) _
              have HJ5 : Hid (∃ l, l.length ≤ 100 + (k + 1) ∧ Both w (w5.alloc (.cells #[.int .i64 0, .int .i64 0] 30)) hb gb l) := ⟨_, by have := HLE.out; omega, HB5.out.below hBa⟩
              replace hH5 := hH5.below hBa
              replace hR5 := hR5.below hBa
              replace hB5 := hB5.trans (hBa.mono hs5)
              clear hb5 hH2 hRR hBa hR9 HB4 HB5
              go_wp2_with fail
              refine (lenC hH5).mono ?_
              rintro e wy ⟨rfl, rfl⟩
              go_wp2_with fail
              refine (rlen_any hR5).mono ?_
              rintro e wy ⟨rfl, rfl⟩
              clear hH5 hR5
              go_wp2
              go_roundw
              case rel => exact ⟨k + 1, by omega, by go_num, HJ5, hB5⟩
              case measure => simp [intOf]; omega
            · obtain ⟨t, rfl, ht⟩ := sorted_split hR.ord HP.out hm
              obtain ⟨mn, ma⟩ := m
              have HBo : Hid (Both w wr hb gb l) := ⟨v, d, A3, n3, c3, _, hH, hR, HP.out, HX1.out, HX2.out, HX3.out⟩
              have hne : ((l.length : Int) != (t.length : Int) + 1) = false := by have := HP.out.length_eq; simp at this; simp; omega
              clear ht
              go_wp2_with fail
              refine (peekC hH hm).mono ?_
              rintro e w4 ⟨rfl, hb4⟩
              have hRR := hR.below hb4
              have hH2 := hH.below hb4
              have HB4 := Lib.hid (HBo.out.below hb4)
              have hB4 := hB.trans (hb4.mono hs)
              have hs4 := hB4.size
              have hk4 := hb4.size
              clear hb4 hH hR c0 c1 c2' HBo
              have hR9 := Blok.new w4 30 #[.int .i64 mn, .int .i64 ma]
              have hBa : Below w4.heap.size w4 (w4.alloc (.cells #[.int .i64 mn, .int .i64 ma] 30)) := (Below.refl _ _).alloc (Nat.le_refl _) _
              replace hH2 := hH2.below hBa
              replace hRR := hRR.below hBa
              replace HB4 := Lib.hid (HB4.out.below hBa)
              replace hB4 := hB4.trans (hBa.mono hs4)
              have hz9 : w4.heap.size < (w4.alloc (.cells #[.int .i64 mn, .int .i64 ma] 30)).heap.size := by simp
              clear hBa
              go_wp2_with fail
              generalize w4.alloc (.cells #[.int .i64 mn, .int .i64 ma] 30) = wx at *
              have hsx := hB4.size
              refine (rpeek_some hRR (by omega)).mono ?_
              rintro e w5 ⟨rfl, hb5⟩
              have hR5 := hRR.below hb5
              have hH5 := hH2.below hb5
              have HB5 := Lib.hid (HB4.out.below hb5)
              have hB5 := hB4.trans (hb5.mono hsx)
              have hk5 := hb5.size
              replace hR9 := hR9.below hb5 hz9
              have r9a : w5.cell? ⟨w4.heap.size, 0, none⟩ = some (.int .i64 mn) := hR9.cell 0
              have r9b : w5.cell? ⟨w4.heap.size, 1, none⟩ = some (.int .i64 ma) := hR9.cell 1
              have hl9 : w4.heap.size < w5.heap.size := hR9.lt
              have hs5 := hB5.size
              have hBa : Below w5.heap.size w5 (w5.alloc (.cells #[.int .i64 mn, .int .i64 ma] 30)) := (Below.refl _ _).alloc (Nat.le_refl _) _
              have HJ5 : Hid (∃ l, l.length ≤ 100 + (k + 1) ∧ Both w (w5.alloc (.cells #[.int .i64 mn, .int .i64 ma] 30)) hb gb l) := ⟨_, by have := HLE.out; omega, HB5.out.below hBa⟩
              replace hH5 := hH5.below hBa
              replace hR5 := hR5.below hBa
              replace hB5 := hB5.trans (hBa.mono hs5)
              clear hb5 hH2 hRR hBa hR9 HB4 HB5
              go_wp2_with fail
              refine (lenC hH5).mono ?_
              rintro e wy ⟨rfl, rfl⟩
              go_wp2_with fail
              refine (rlen_any hR5).mono ?_
              rintro e wy ⟨rfl, rfl⟩
              clear hH5 hR5
              go_wp2
              go_roundw
              case rel => exact ⟨k + 1, by omega, by go_num, HJ5, hB5⟩
              case measure => simp [intOf]; omega
      · obtain rfl : k = n2 := by omega
        clear hl2 HJ
        go_wp2
        go_ret
        exact ⟨rfl, hB⟩
theorem heapTells_own : ownKnob Try.prog.godebug = none := by kernel_rfl
theorem heapTells_laidOut : laidOutB Try.prog = true := by kernel_rfl

set_option maxHeartbeats 1000000 in
set_option maxRecDepth 100000 in
theorem heapTells_lifted (os : Os) (started : os.Started) (H : Type) (enc : TypeId × Value → H) :
    ReturnsInHanded {} Try.checked os 3 .any (Rows.heapTellsSpec.pre6 enc Try.prog Try.f3 Rows.heapTellsRow.domain false) (Rows.heapTellsSpec.post enc Try.prog Try.f3 false true false false) := by
  refine returnsInHanded_of_change (C := Try.checked) heapTells_own started (by kernel_rfl) Try.func3
    (ChangeSpec.witness6 (enc := enc) (C := Try.checked) false ⟨#[], #[.slice none 0 0, .slice none 0 0], []⟩ 8 (by kernel_rfl) (by kernel_rfl) (by kernel_rfl) (by kernel_rfl)) ?_
  intro W base args ds gs before hval0 hW hcnd _
  have hval : ∀ (j : Nat) t v, Try.f3.params[j]? = some t → args[j]? = some v → Value.okWide Try.prog W .any base t v := hval0
  have hW' := hW
  obtain ⟨p, q, hA0, hV, rfl, hfz, hnd⟩ := hW
  have hA : DataW.TrodAll enc Try.prog W 0 (fun _ => true) true Try.f3.params.toList args.toList ds p := hA0
  rw [Try.params3] at hA hval
  obtain ⟨v0, vs0, d0, ds0, p0, q0, hargs, rfl, rfl, h0, r0⟩ := trodAll_cons hA
  obtain ⟨v1, vs1, d1, ds1, p1, q1, rfl, rfl, rfl, h1, r1⟩ := trodAll_cons r0
  obtain ⟨rfl, rfl, rfl⟩ := trodAll_nil r1
  obtain rfl : args = #[v0, v1] := by cases args; simp_all
  obtain ⟨rfl, rfl⟩ := trodVars_none hV
  obtain ⟨A0, n0, c0, ns0, rfl, nc0, cm0, hl0, nl0, w0⟩ := open_rows 4 (K := 2) Try.underlying22 (by kernel_rfl) (by kernel_rfl) (by omega) (hval 0 22 v0 rfl rfl) h0
  obtain ⟨A1, n1, c1, ns1, rfl, nc1, cm1, hl1, nl1, w1⟩ := open_rows 4 (K := 3) Try.underlying23 (by kernel_rfl) (by kernel_rfl) (by omega) (hval 1 23 v1 rfl rfl) h1
  clear hA0 hval0
  refine (heapTells_walk A0 n0 c0 ns0 A1 n1 c1 ns1 nc0 cm0 nl0 w0 nc1 cm1 nl1 w1 W hl0 hl1).mono fun e W' ⟨he, bel⟩ => ?_
  subst he
  exact ⟨_, rfl, law_post heapTells_laidOut (by kernel_rfl) rfl Try.underlying4 rfl rfl hW' bel⟩

theorem heapTells_proved : Rows.HeapTellsSaid :=
  OpenClaim.holds_of_wide 3 Try.f3 rfl rfl rfl rfl rfl rfl rfl ⟨rfl, rfl, rfl, rfl, rfl⟩ rfl rfl rfl rfl rfl (by kernel_rfl) Try.func3 (by kernel_rfl)
    (of_decide_eq_true (by kernel_rfl)) (by unfold Func.isWrapper; first | (rw [if_pos (by decide +kernel)]; kernel_rfl) | (rw [if_neg (by decide +kernel)]; exact ⟨rfl, rfl⟩))
    (fun os started H enc _ => heapTells_lifted os started H enc)
#print axioms heapTells_proved
end Go.Proofs.Ytpmibpclkfidkaa
