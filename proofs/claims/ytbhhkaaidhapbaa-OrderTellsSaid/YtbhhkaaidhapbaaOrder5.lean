/- order.Same; order.Sort's equality. No condition but on sizes. -/
import Derived.Test.YtbhhkaaidhapbaaOrder4
namespace Go.Proofs.Ytbhhkaaidhapbaa
open Go.ChangeShapes Go.WideShapes Go.ChangeAt Go.RowKit Go.Sort
set_option linter.unusedSimpArgs false
set_option linter.unusedVariables false
set_option maxHeartbeats 1000000 in
set_option maxRecDepth 100000 in
theorem psame_any (A A' : Option Addr) (n c n' c' : Nat) (d d' : List Hp) (t t' : Int) (w : World) (hd : d.length = n) (hd' : d'.length = n') (hn : n ≤ 1000000) (hn' : n' ≤ 1000000) (h : Sl w w.heap.size 3 A n c (flatHp d)) (h' : Sl w w.heap.size 3 A' n' c' (flatHp d')) (b : Bool) (hb : (decide (t = t') && decide (d = d')) = b) :
    Calls Try.prog 21 #[.agg #[.slice A n c, .int .i64 t], .agg #[.slice A' n' c', .int .i64 t']] w fun e w' => e = .returned (.bool b) ∧ Below w.heap.size w w' := by
  subst hb
  have hB : Below w.heap.size w ((w.alloc (.cells #[.slice A n c, .int .i64 t] 25)).alloc (.cells #[.slice A' n' c', .int .i64 t'] 25)) := by (repeat (first | exact Below.refl _ _ | refine Below.alloc ?_ (by first | omega | (simp; done) | (simp; omega)) _ | refine Below.setCell ?_ (by first | omega | (simp; done) | (simp; omega)) _ | refine Below.drew ?_))
  have HE := fun w2 (hB : Below w.heap.size w w2) => equalHp A A' n c n' c' d d' w2 hd hd' hn hn' (h.up hB) (h'.up hB)
  have HEE := Lib.hid HE
  clear hd hd' h h' HE
  by_cases ht : t = t'
  · have g1 : (t == t') = true := by simp [ht]
    have HT := Lib.hid ht
    clear ht
    go_enter Try.func21, Try.ntmps21
    go_wp2_with fail
    refine (HEE.out _ hB).mono ?_
    rintro e w3 ⟨rfl, hb⟩
    go_wp2_with fail
    go_ret
    exact ⟨by rw [decide_eq_true HT.out]; rfl, hB.trans (hb.mono hB.size)⟩
  · have g1 : (t == t') = false := by simp [ht]
    have HT := Lib.hid ht
    clear ht
    go_enter Try.func21, Try.ntmps21
    go_wp2_with fail
    go_ret
    exact ⟨by rw [decide_eq_false HT.out]; rfl, hB⟩
def Rx.rt (x : Rx) : List Hp × Int := (x.d, x.h.t)
theorem Lst.atRx {w : World} {B : Nat} {A : Option Addr} {n : Nat} {l : List Rx} (h : Lst w B 2 A n (flatRh (hdRx l))) (hl : l.length = n) {k : Nat} (hk : k < n) : ∃ ad, A = some ad ∧ ad.block < B ∧ w.cell? (ad.add (k * 2)) = some (.slice (gRx l k).h.A (gRx l k).h.n (gRx l k).h.c) ∧ w.cell? ⟨(ad.add (k * 2)).block, (ad.add (k * 2)).off + 1, none⟩ = some (.int .i64 (gRx l k).h.t) := by
  have := h.atRh (by simp [hdRx, hl]) hk
  rw [gRx_hd (by omega)] at this
  exact this
set_option maxHeartbeats 2000000 in
set_option maxRecDepth 100000 in
theorem equalRx (A A' : Option Addr) (n c n' c' : Nat) (l l' : List Rx) (w : World) (hl : l.length = n) (hl' : l'.length = n') (hn : n ≤ 1000000) (hn' : n' ≤ 1000000) (h : Sl w w.heap.size 2 A n c (flatRh (hdRx l))) (h' : Sl w w.heap.size 2 A' n' c' (flatRh (hdRx l'))) (hok : ∀ x ∈ l, x.ok w) (hok' : ∀ x ∈ l', x.ok w) (b : Bool) (hb : decide (l.map Rx.rt = l'.map Rx.rt) = b) :
    Calls Try.prog 29 #[.slice A n c, .slice A' n' c', .func (.func 21) #[] #[]] w fun e w' => e = .returned (.bool b) ∧ Below w.heap.size w w' := by
  have HBB := Lib.hid hb
  have HOK := Lib.hid hok
  have HOK' := Lib.hid hok'
  have HL := Lib.hid hl
  have HL' := Lib.hid hl'
  clear hb hok hok' hl hl'
  by_cases hne : n = n'
  · subst hne
    have hz : ((n : Int) != (n : Int)) = false := by simp
    go_enter Try.func29, Try.ntmps29
    go_wp2
    go_loopw [17] (fun i wr => ∃ k : Nat, k ≤ n ∧ i = .int .i64 k ∧ Hid (∀ j, j < k → (gRx l j).rt = (gRx l' j).rt) ∧ Below w.heap.size w wr) (fun i _ => n - (intOf i).toNat)
    case atStart => exact ⟨0, by omega, rfl, (fun j hj => by omega), Below.refl _ _⟩
    case round =>
      obtain ⟨k, hk, rfl, HQ, hB⟩ := hrel
      have hs := hB.size
      by_cases hkn : k < n
      · obtain ⟨ad, rfl, hab, c0, c1⟩ := (h.below hB).lst.atRx HL.out hkn
        have hxo := (HOK.out _ (gRx_mem (d := l) (i := k) (by have := HL.out; omega))).below hB
        have hyo := (HOK'.out _ (gRx_mem (d := l') (i := k) (by have := HL'.out; omega))).below hB
        obtain ⟨x, hx⟩ : ∃ x, gRx l k = x := ⟨_, rfl⟩
        obtain ⟨y, hy⟩ : ∃ y, gRx l' k = y := ⟨_, rfl⟩
        rw [hx] at c0 c1 hxo
        rw [hy] at hyo
        have HX := Lib.hid hx
        have HY := Lib.hid hy
        clear hx hy
        have HXO := Lib.hid hxo
        have HYO := Lib.hid hyo
        clear hxo hyo
        have hBa : Below w.heap.size w (wr.alloc (.cells #[.slice x.h.A x.h.n x.h.c, .int .i64 x.h.t] 25)) := hB.alloc hs _
        have hBr : Below wr.heap.size wr (wr.alloc (.cells #[.slice x.h.A x.h.n x.h.c, .int .i64 x.h.t] 25)) := (Below.refl _ _).alloc (Nat.le_refl _) _
        have hX := Blok.new wr 25 #[.slice x.h.A x.h.n x.h.c, .int .i64 x.h.t]
        have hlx := hX.lt
        go_upto_region 6 with fail
        clear c0 c1
        generalize wr.alloc (.cells #[.slice x.h.A x.h.n x.h.c, .int .i64 x.h.t] 25) = wx at *
        have HXO2 := Lib.hid (HXO.out.below hBr)
        have HYO2 := Lib.hid (HYO.out.below hBr)
        clear hBr HXO HYO
        generalize wr.heap.size = bx at *
        obtain ⟨ad', rfl, hab', e0, e1⟩ := (h'.below hBa).lst.atRx HL'.out hkn
        rw [HY.out] at e0 e1
        have x0 : wx.cell? ⟨bx, 0, none⟩ = some (.slice x.h.A x.h.n x.h.c) := hX.cell 0
        have x1 : wx.cell? ⟨bx, 1, none⟩ = some (.int .i64 x.h.t) := hX.cell 1
        have hsx := hBa.size
        have hBy : Below wx.heap.size wx (wx.alloc (.cells #[.slice y.h.A y.h.n y.h.c, .int .i64 y.h.t] 25)) := (Below.refl _ _).alloc (Nat.le_refl _) _
        have hxo := HXO2.out.below hBy
        have hyo := HYO2.out.below hBy
        obtain ⟨p1, p2, p3⟩ := hxo
        obtain ⟨q1, q2, q3⟩ := hyo
        obtain ⟨r, hr⟩ : ∃ r, (decide (x.h.t = y.h.t) && decide (x.d = y.d)) = r := ⟨_, rfl⟩
        have HR := Lib.hid hr
        clear hr
        go_wp2_with fail
        refine (psame_any x.h.A y.h.A x.h.n x.h.c y.h.n y.h.c x.d y.d x.h.t y.h.t _ p1 q1 p2 q2 p3 q3 r HR.out).mono ?_
        rintro e w4 ⟨rfl, hb4⟩
        have hB4 : Below w.heap.size w w4 := hBa.trans ((hBy.trans (hb4.mono hBy.size)).mono hsx)
        clear hb4 e0 e1 x0 x1 p3 q3 hBy
        cases r
        · have HF : Hid (b = false) := by
            rw [← HBB.out]
            simp only [decide_eq_false_iff_not]
            intro e
            have h1 : (gRx l k).rt = (gRx l' k).rt := by
              have h2 : (l.map Rx.rt)[k]? = (l'.map Rx.rt)[k]? := by rw [e]
              rw [List.getElem?_map, List.getElem?_map, List.getElem?_eq_getElem (by have := HL.out; omega), List.getElem?_eq_getElem (by have := HL'.out; omega)] at h2
              unfold gRx
              rw [List.getD_eq_getElem?_getD, List.getD_eq_getElem?_getD, List.getElem?_eq_getElem (by have := HL.out; omega), List.getElem?_eq_getElem (by have := HL'.out; omega)]
              simpa using h2
            rw [HX.out, HY.out] at h1
            have h3 := HR.out
            have h4 : x.d = y.d ∧ x.h.t = y.h.t := by unfold Rx.rt at h1; exact ⟨congrArg Prod.fst h1, congrArg Prod.snd h1⟩
            rw [h4.1, h4.2] at h3
            simp at h3
          go_wp2
          go_ret
          exact ⟨by rw [HF.out]; rfl, hB4⟩
        · have hq : ∀ j, j < k + 1 → (gRx l j).rt = (gRx l' j).rt := by
            intro j hj
            by_cases e : j = k
            · subst e
              have h3 := HR.out
              simp only [Bool.and_eq_true, decide_eq_true_eq] at h3
              rw [HX.out, HY.out]
              unfold Rx.rt
              rw [h3.1, h3.2]
            · exact HQ.out j (by omega)
          have HQ2 := Lib.hid hq
          clear hq
          go_wp2
          go_roundw
          case rel => exact ⟨k + 1, by omega, by go_num, HQ2, hB4⟩
          case measure => simp [intOf]; omega
      · obtain rfl : k = n := by omega
        have HF : Hid (b = true) := by
          rw [← HBB.out]
          simp only [decide_eq_true_eq]
          refine List.ext_getElem (by simp; rw [HL.out, HL'.out]) fun j h1 h2 => ?_
          have h3 := HQ.out j (by simp [HL.out] at h1; exact h1)
          simp only [List.length_map] at h1 h2
          unfold gRx at h3
          rw [List.getD_eq_getElem?_getD, List.getD_eq_getElem?_getD, List.getElem?_eq_getElem h1, List.getElem?_eq_getElem h2] at h3
          simpa using h3
        go_wp2
        go_ret
        exact ⟨by rw [HF.out]; rfl, hB⟩
  · have hz : ((n : Int) != (n' : Int)) = true := by rw [bne_iff_ne]; omega
    have HF : Hid (b = false) := by
      rw [← HBB.out]
      simp only [decide_eq_false_iff_not]
      intro e
      have := congrArg List.length e
      simp [HL.out, HL'.out] at this
      exact hne this
    go_enter Try.func29, Try.ntmps29
    go_wp2
    go_ret
    exact ⟨by rw [HF.out]; rfl, Below.refl _ _⟩
set_option maxRecDepth 100000 in
theorem osame_any (A A' : Option Addr) (n c n' c' : Nat) (l l' : List Rx) (w : World) (hl : l.length = n) (hl' : l'.length = n') (hn : n ≤ 1000000) (hn' : n' ≤ 1000000) (h : Sl w w.heap.size 2 A n c (flatRh (hdRx l))) (h' : Sl w w.heap.size 2 A' n' c' (flatRh (hdRx l'))) (hok : ∀ x ∈ l, x.ok w) (hok' : ∀ x ∈ l', x.ok w) (b : Bool) (hb : decide (l.map Rx.rt = l'.map Rx.rt) = b) :
    Calls Try.prog 16 #[.slice A n c, .slice A' n' c'] w fun e w' => e = .returned (.bool b) ∧ Below w.heap.size w w' := by
  have HE := Lib.hid (equalRx A A' n c n' c' l l' w hl hl' hn hn' h h' hok hok' b hb)
  clear hl hl' h h' hok hok' hb
  go_enter Try.func16, Try.ntmps16
  go_wp2_with fail
  refine HE.out.mono ?_
  rintro e w4 ⟨rfl, hb4⟩
  go_wp2_with fail
  go_ret
  exact ⟨rfl, hb4⟩
/-- order.Sort's equality: at one place. -/
theorem sort1_any (x y : Rx) (w : World) (hx : x.ok w) (hy : y.ok w) (b : Bool) (hb : decide (cmpR x.h.t x.d y.h.t y.d = 0) = b) :
    Calls Try.prog 26 #[.agg #[.slice x.h.A x.h.n x.h.c, .int .i64 x.h.t], .agg #[.slice y.h.A y.h.n y.h.c, .int .i64 y.h.t]] w fun e w' => e = .returned (.bool b) ∧ Below w.heap.size w w' := by
  obtain ⟨z, hz⟩ : ∃ z, cmpR x.h.t x.d y.h.t y.d = z := ⟨_, rfl⟩
  have HB : Hid (decide (z = 0) = b) := by rw [← hz]; exact hb
  have HZ := Lib.hid hz
  clear hb hz
  have hBa : Below w.heap.size w ((w.alloc (.cells #[.slice x.h.A x.h.n x.h.c, .int .i64 x.h.t] 25)).alloc (.cells #[.slice y.h.A y.h.n y.h.c, .int .i64 y.h.t] 25)) := by (repeat (first | exact Below.refl _ _ | refine Below.alloc ?_ (by first | omega | (simp; done) | (simp; omega)) _ | refine Below.setCell ?_ (by first | omega | (simp; done) | (simp; omega)) _ | refine Below.drew ?_))
  obtain ⟨p1, p2, p3⟩ := hx.below hBa
  obtain ⟨q1, q2, q3⟩ := hy.below hBa
  clear hx hy
  go_enter Try.func26, Try.ntmps26
  go_wp2_with fail
  refine (ocmp_any _ _ _ _ _ _ x.d y.d _ _ _ p1 q1 p2 q2 p3 q3 z HZ.out).mono ?_
  rintro e w4 ⟨rfl, hb4⟩
  have hB4 := hBa.trans (hb4.mono hBa.size)
  clear hb4 p3 q3
  go_wp2
  all_goals go_ret
  all_goals exact ⟨by rw [← HB.out]; by_cases hz0 : z = 0 <;> simp [go_sem, hz0], hB4⟩
end Go.Proofs.Ytbhhkaaidhapbaa
