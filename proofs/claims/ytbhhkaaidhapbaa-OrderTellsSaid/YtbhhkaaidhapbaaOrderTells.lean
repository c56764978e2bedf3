/- Which route is ahead, what is sorted, and inserted: OrderTells returns true. No condition. -/
import Derived.Test.YtbhhkaaidhapbaaRows
import Derived.Test.YtbhhkaaidhapbaaSmall13
import Derived.Test.YtbhhkaaidhapbaaGQ7
import Derived.Test.YtbhhkaaidhapbaaO13d
import Derived.Test.YtbhhkaaidhapbaaO13e
namespace Go.Proofs.Ytbhhkaaidhapbaa
open Go.ChangeShapes Go.WideShapes Go.ChangeAt Go.RowKit Go.Sort
set_option linter.unusedSimpArgs false
set_option linter.unusedVariables false
theorem sortVB {w : World} {u : Value} {l : List Rt} (hu : RL w u l) (hn : l.length < 1000) (r : List Rt) (hr : compactT (sortT l) = r) : Calls Try.prog 11 #[u] w fun e w' => ∃ v, e = .returned v ∧ RL w' v r ∧ (r = [] ∨ RLO w' w.heap.size v r) ∧ Below w.heap.size w w' := by
  by_cases h0 : 0 < l.length
  · refine (sortVO hu h0 hn r hr).mono ?_
    rintro e w' ⟨v, rfl, h1, h2⟩
    exact ⟨v, rfl, h1.rl, .inr h1, h2⟩
  · obtain rfl : l = [] := by simpa using h0
    rw [compact_nil] at hr
    subst hr
    refine (sort0V hu).mono ?_
    rintro e w' ⟨v, rfl, h1, h2⟩
    exact ⟨v, rfl, h1, .inl rfl, h2⟩
/-- A route's hops, whatever they are, in memory behind base. -/
def Rx.has (w : World) (base : Nat) (x : Rx) : Prop := ∃ xs, w.ownsRow base 34 3 (.slice x.h.A x.h.n x.h.c) x.h.n xs
theorem Rx.has.store {w : World} {base : Nat} {x : Rx} (h : x.has w base) (g j : Nat) (v : Value) : x.has (w.setCell ⟨g, j, none⟩ v) base := by
  obtain ⟨xs, h⟩ := h
  obtain ⟨⟨A, n, c, t⟩, d⟩ := x
  rcases h.2 with h2 | ⟨g2, cap, cur, h1, h2, h3⟩
  · exact ⟨xs, h.1, .inl h2⟩
  · have h1' : Value.slice A n c = .slice (some ⟨g2, 0, none⟩) n cap := h1
    injection h1' with e1 e2 e3
    subst e1 e3
    by_cases e : g2 = g
    · subst e
      exact ⟨_, (World.ownsRow.stored h j v).1⟩
    · exact ⟨xs, World.ownsRow.kept h (grown_set (g := g) w j v) (.inr (fun e2 => e (by simpa [Value.ownBlock] using e2)))⟩
theorem Rx.has.below {w w' : World} {base : Nat} {x : Rx} (h : x.has w base) (hb : Below w.heap.size w w') : x.has w' base := by
  obtain ⟨xs, h⟩ := h
  exact ⟨xs, own_belowK h hb⟩
/-- The row of routes stands, and all hops' places do. -/
structure Mut (w : World) (base g c : Nat) (L : List Rx) : Prop where
  row : w.ownsRow base 25 2 (.slice (some ⟨g, 0, none⟩) L.length c) L.length (flatRh (hdRx L))
  has : ∀ x ∈ L, x.has w base
  off : ∀ x ∈ L, x.off g
theorem Mut.below {w w' : World} {base g c : Nat} {L : List Rx} (h : Mut w base g c L) (hb : Below w.heap.size w w') : Mut w' base g c L := ⟨own_belowK h.row hb, fun x hx => (h.has x hx).below hb, h.off⟩
theorem Mut.store {w : World} {base g c : Nat} {L : List Rx} (h : Mut w base g c L) {b : Nat} (hb : b ≠ g) (j : Nat) (v : Value) : Mut (w.setCell ⟨b, j, none⟩ v) base g c L :=
  ⟨World.ownsRow.kept h.row (grown_set (g := b) w j v) (.inr (fun e => hb ((show g = b from by simpa [Value.ownBlock] using e).symm))), fun x hx => (h.has x hx).store b j v, h.off⟩
set_option maxHeartbeats 16000000 in
set_option maxRecDepth 100000 in
theorem orderTells_w (A : Option Addr) (n c : Nat) (L : List Rx) (B : Option Addr) (m k : Nat) (H : List Hp) (rt most : Int) (nl : L.length = n) (nh : H.length = m) (w : World) (hl : Sl w w.heap.size 2 A n c (flatRh (hdRx L))) (hr : ∀ x ∈ L, x.raw w) (hs : Sl w w.heap.size 3 B m k (flatHp H)) :
    Calls Try.prog 3 #[.slice A n c, .agg #[.slice B m k, .int .i64 rt], .int .i64 most] w fun e w' => e = .returned (.bool true) ∧ Below w.heap.size w w' := by
  have hb0 : Below w.heap.size w (w.alloc (.cells #[.slice B m k, .int .i64 rt] 25)) := (Below.refl _ _).alloc (Nat.le_refl _) _
  have hX := Blok.new w 25 #[.slice B m k, .int .i64 rt]
  have hs0 := hb0.size
  replace hl := hl.up hb0
  replace hs := hs.up hb0
  have hr2 : ∀ x ∈ L, x.raw (w.alloc (.cells #[.slice B m k, .int .i64 rt] 25)) := fun x hx => ⟨(hr x hx).1, (hr x hx).2.up hb0⟩
  clear hr
  have HN := Lib.hid nl
  have HNH := Lib.hid nh
  clear nl nh
  go_enter Try.func3, Try.ntmps3
  go_wp2_with fail
  generalize w.alloc (.cells #[.slice B m k, .int .i64 rt] 25) = w0 at *
  have HL := Lib.hid (fun w' (hb : Below w0.heap.size w0 w') => hl.up hb)
  have HS := Lib.hid (fun w' (hb : Below w0.heap.size w0 w') => hs.up hb)
  have HX := Lib.hid (fun w' (hb : Below w0.heap.size w0 w') => hX.below hb hX.lt)
  have HR := Lib.hid hr2
  clear hl hs hX hr2
  refine (small13_any w0).mono ?_
  rintro e w1 ⟨rfl, hB⟩
  go_wp2_with fail
  refine (few13_any A n c L w1 HN.out (HL.out _ hB)).mono ?_
  rintro e w2 ⟨b, rfl, hb, rfl⟩
  cases b
  · clear hb
    go_wp2
    go_ret
    exact ⟨rfl, hb0.trans (hB.mono hs0)⟩
  have HF := Lib.hid (hb rfl)
  have hn50 : n ≤ 50 := by have := HF.out.1; have := HN.out; omega
  have HOK := Lib.hid (few_ok HF.out HR.out)
  clear hb
  have x0 : w2.cell? ⟨w.heap.size, 0, none⟩ = some (.slice B m k) := (HX.out _ hB).cell 0
  have x1 : w2.cell? ⟨w.heap.size, 1, none⟩ = some (.int .i64 rt) := (HX.out _ hB).cell 1
  have xl := (HX.out _ hB).lt
  by_cases hm : 50 < m
  · have hmd : decide ((m : Int) > 50) = true := decide_eq_true (by omega)
    go_wp2
    go_ret
    exact ⟨rfl, hb0.trans (hB.mono hs0)⟩
  have hmd : decide ((m : Int) > 50) = false := decide_eq_false (by omega)
  have hm50 : m ≤ 50 := by omega
  obtain ⟨T, hT⟩ : ∃ T, L.map Rx.rt = T := ⟨_, rfl⟩
  have HT := Lib.hid hT
  have HTN : Hid (T.length = n) := by rw [← HT.out, ← HN.out]; exact List.length_map ..
  clear hT
  obtain ⟨D, hD⟩ : ∃ D, compactT (sortT T) = D := ⟨_, rfl⟩
  have HD := Lib.hid hD
  clear hD
  obtain ⟨kd, hkd⟩ : ∃ k, D.length = k := ⟨_, rfl⟩
  have hkd50 : kd ≤ 50 := by
    have := kpT_len (sortT T) (sortT T).length
    have h3 : (sortT T).length = T.length := sortT_len _
    have h4 : (kpT (sortT T) (sortT T).length).length = kd := by rw [← hkd, ← HD.out]; rfl
    have := HTN.out
    omega
  have HKD := Lib.hid hkd
  clear hkd
  have HRL : Hid (∀ w', Below w0.heap.size w0 w' → RL w' (.slice A n c) T) := fun w' hb => ⟨A, n, c, L, rfl, HN.out, HT.out, HL.out _ hb, fun x hx => (HOK.out x hx).below hb⟩
  have HRV : Hid (∀ w', Below w0.heap.size w0 w' → RV w' (.agg #[.slice B m k, .int .i64 rt]) (H, rt)) := fun w' hb => RV.mk' HNH.out (by omega) (HS.out _ hb)
  go_wp2_with fail
  clear x0 x1 xl
  refine (rcopy13_any A n c L w2 HN.out (by omega) (HL.out _ hB) (fun x hx => (HOK.out x hx).below hB)).mono ?_
  rintro e w3 ⟨vw, rfl, hro, hb⟩
  replace hB := hB.trans (hb.mono hB.size)
  rw [HT.out] at hro
  obtain ⟨Aw, cw, rfl⟩ := hro.rl.len HTN.out
  have HW := Lib.hid hro.rl
  clear hro hb
  go_wp2_with fail
  refine (sortVB (HRL.out _ hB) (by rw [HTN.out]; omega) D HD.out).mono ?_
  rintro e w4 ⟨vs, rfl, hsl, hso, hb4⟩
  have HB3 := Lib.hid hB
  have HB4 := Lib.hid (hB.trans (hb4.mono hB.size))
  obtain ⟨As, cs, rfl⟩ := hsl.len HKD.out
  have HSO := Lib.hid hso
  have HSL := Lib.hid (fun w' (hb : Below w4.heap.size w4 w') => hsl.below hb)
  have HW4 := Lib.hid (fun w' (hb : Below w4.heap.size w4 w') => (HW.out.below hb4).below hb)
  have HB34 := Lib.hid hb4
  clear hsl hso hb4 hB
  go_wp2_with fail
  obtain ⟨A9, n9, c9, L9, e9, hl9, hm9, s9, ok9⟩ := HW4.out w4 (Below.refl _ _)
  injection e9 with e1 e2 e3
  subst e1 e2 e3
  refine Calls.mono (rsort13_any Aw n cw L9 w4 hl9 (by omega) s9 ok9) ?_
  rintro e w5 h5
  obtain ⟨vt, rfl, hto, hb5⟩ := sortP_ds h5
  rw [hm9, HD.out] at hto
  obtain ⟨At, ct, rfl⟩ := hto.rl.len HKD.out
  have HTL := Lib.hid (fun w' (hb : Below w5.heap.size w5 w') => hto.rl.below hb)
  have hB5 := hb5
  clear h5 hl9 hm9 s9 ok9 hto hb5
  obtain ⟨R, hR⟩ : ∃ R, (compactT (sortT (D ++ [(H, rt)]))).take most.toNat = R := ⟨_, rfl⟩
  have HRR := Lib.hid hR
  clear hR
  have HRn : Hid (R.length ≤ 1000) := by
    show R.length ≤ 1000
    rw [← HRR.out, List.length_take]
    have h1 := kpT_len (sortT (D ++ [(H, rt)])) (sortT (D ++ [(H, rt)])).length
    have h2 := sortT_len (D ++ [(H, rt)])
    rw [List.length_append, HKD.out] at h2
    simp at h2
    unfold compactT
    omega
  have hB05 := HB4.out.trans (hB5.mono HB4.out.size)
  have x0 : w5.cell? ⟨w.heap.size, 0, none⟩ = some (.slice B m k) := (HX.out _ hB05).cell 0
  have x1 : w5.cell? ⟨w.heap.size, 1, none⟩ = some (.int .i64 rt) := (HX.out _ hB05).cell 1
  have xl := (HX.out _ hB05).lt
  go_wp2_with fail
  clear x0 x1 xl
  refine (insV (HTL.out _ (Below.refl _ _)) (HRV.out _ hB05) (by rw [HKD.out]; omega) most R HRR.out).mono ?_
  rintro e w6 ⟨va, rfl, hva, hb6⟩
  have hB6 := hB5.trans (hb6.mono hB5.size)
  have hB06 := HB4.out.trans (hB6.mono HB4.out.size)
  have htl6 := HTL.out _ hb6
  have HVA := Lib.hid (fun w' (hb : Below w6.heap.size w6 w') => hva.below hb)
  have HTL6 := Lib.hid (fun w' (hb : Below w6.heap.size w6 w') => htl6.below hb)
  clear hva htl6 hb6 HTL hB5 hB05
  have x0 : w6.cell? ⟨w.heap.size, 0, none⟩ = some (.slice B m k) := (HX.out _ hB06).cell 0
  have x1 : w6.cell? ⟨w.heap.size, 1, none⟩ = some (.int .i64 rt) := (HX.out _ hB06).cell 1
  have xl := (HX.out _ hB06).lt
  go_wp2_with fail
  clear x0 x1 xl
  refine (rins13V (HTL6.out _ (Below.refl _ _)) (HRV.out _ hB06) (by rw [HKD.out]; omega) most R HRR.out).mono ?_
  rintro e w7 ⟨vb, rfl, hvb, hb7⟩
  have hB7 := hB6.trans (hb7.mono hB6.size)
  have hva7 := HVA.out _ hb7
  have htl7 := HTL6.out _ hb7
  have HVA := Lib.hid (fun w' (hb : Below w7.heap.size w7 w') => hva7.below hb)
  have HVB := Lib.hid (fun w' (hb : Below w7.heap.size w7 w') => hvb.below hb)
  have HTL := Lib.hid (fun w' (hb : Below w7.heap.size w7 w') => htl7.below hb)
  clear hva7 htl7 hvb hb7 hB6 hB06 HTL6
  go_wp2_with fail
  refine (rsame13V (HSL.out _ hB7) (HTL.out _ (Below.refl _ _)) (by rw [HKD.out]; omega) (by rw [HKD.out]; omega) true (by simp)).mono ?_
  rintro e w8 ⟨rfl, hb8⟩
  go_wp2_with fail
  refine (rsame13V (HVA.out _ hb8) (HVB.out _ hb8) (by have := HRn.out; omega) (by have := HRn.out; omega) true (by simp)).mono ?_
  rintro e w9 ⟨rfl, hb9⟩
  have hb79 := hb8.trans (hb9.mono hb8.size)
  have hB9 := hB7.trans (hb79.mono hB7.size)
  have hB09 := HB4.out.trans (hB9.mono HB4.out.size)
  obtain ⟨bb, hbb⟩ : ∃ z, decide (T = D) = z := ⟨_, rfl⟩
  have HBB := Lib.hid hbb
  clear hbb
  go_wp2_with fail
  refine (sameV (HRL.out _ hB09) (HTL.out _ hb79) (by rw [HTN.out]; omega) (by rw [HKD.out]; omega) bb HBB.out).mono ?_
  rintro e w10 ⟨rfl, hb10⟩
  have hb710 := hb79.trans (hb10.mono hb79.size)
  have hB10 := hB9.trans (hb10.mono hB9.size)
  have hB010 := HB4.out.trans (hB10.mono HB4.out.size)
  go_wp2_with fail
  refine (rsame13V (HRL.out _ hB010) (HTL.out _ hb710) (by rw [HTN.out]; omega) (by rw [HKD.out]; omega) bb HBB.out).mono ?_
  rintro e w11 ⟨rfl, hb11⟩
  have HB11 := Lib.hid (hB10.trans (hb11.mono hB10.size))
  have hbbn : (bb != bb) = false := by simp
  clear hb8 hb9 hb10 hb11 hb79 hb710 hB9 hB09 hB10 hB010 hB7 HVA HVB HTL
  go_wp2_with fail
  clear hbbn
  go_loopw [14] (fun iv wr => ∃ i : Nat, iv = .int .i64 i ∧ i ≤ n ∧ Below w4.heap.size w4 wr) (fun iv _ => n - (intOf iv).toNat)
  case atStart => exact ⟨0, rfl, by omega, HB11.out⟩
  case round =>
    obtain ⟨i, rfl, hin, hB⟩ := hrel
    have hB0 := HB4.out.trans (hB.mono HB4.out.size)
    by_cases h1 : i < n
    · have h1z : (i : Int) < (n : Int) := by omega
      obtain ⟨adx, Ax, nx, cx, hax, x0, x1, lx, mx, sx⟩ := (HRL.out _ hB0).cells (k := i) h1
      obtain ⟨x, hx⟩ : ∃ z, gT T i = z := ⟨_, rfl⟩
      rw [hx] at x1 lx sx
      obtain ⟨Hx, tx⟩ := x
      replace x1 : wr.cell? ⟨(adx.add (i * 2)).block, (adx.add (i * 2)).off + 1, none⟩ = some (.int .i64 tx) := x1
      replace sx : Sl wr wr.heap.size 3 Ax nx cx (flatHp Hx) := sx
      have Lx : Hid (Hx.length = nx) := lx
      have Vx := Lib.hid hx
      have Sx := Lib.hid (fun (dd : Nat) (os : Array Obj) => sx.up (below_regrown wr dd os))
      clear hx lx sx
      subst hax
      have z0 : wr.cell? ⟨w.heap.size, 0, none⟩ = some (.slice B m k) := (HX.out _ hB0).cell 0
      have z1 : wr.cell? ⟨w.heap.size, 1, none⟩ = some (.int .i64 rt) := (HX.out _ hB0).cell 1
      have zl := (HX.out _ hB0).lt
      have SR := Lib.hid (fun (dd : Nat) (os : Array Obj) => (HS.out _ hB0).up (below_regrown wr dd os))
      obtain ⟨z, hz⟩ : ∃ z, cmpR tx Hx rt H = z := ⟨_, rfl⟩
      obtain ⟨lb, hlb⟩ : ∃ b, decide (cmpR tx Hx rt H < 0) = b := ⟨_, rfl⟩
      have HZ := Lib.hid hz
      have HLB := Lib.hid hlb
      have hzz : (z != z) = false := by simp
      have hll : (lb != lb) = false := by simp
      have hm6 : m ≤ 1000000 := by omega
      clear hz hlb
      go_wp2_with fail
      have q_x0 := fun d os => cell_regrown x0 d os
      have q_x1 := fun d os => cell_regrown x1 d os
      have q_z0 := fun d os => cell_regrown z0 d os
      have q_z1 := fun d os => cell_regrown z1 d os
      try simp only [List.append]
      first | refine wp_region_text_below ?_ | refine wp_region_quiet_below (by kernel_rfl) (by kernel_rfl) ?_
      repeat (go_big_quiet_step ((first | (go_at_call 17; with_reducible exact Calls.regrown_of (ocmp_any Ax B nx cx m k Hx H tx rt _ Lx.out HNH.out mx hm6 (Sx.out _ _) (SR.out _ _) z HZ.out)) | (go_at_call 18; with_reducible exact Calls.regrown_of (rcmp13_any Ax B nx cx m k Hx H tx rt _ Lx.out HNH.out mx hm6 (Sx.out _ _) (SR.out _ _) z HZ.out)) | (go_at_call 19; with_reducible exact Calls.regrown_of (oless_any Ax B nx cx m k Hx H tx rt _ Lx.out HNH.out mx hm6 (Sx.out _ _) (SR.out _ _) lb HLB.out)) | (go_at_call 20; with_reducible exact Calls.regrown_of (rless13_any Ax B nx cx m k Hx H tx rt _ Lx.out HNH.out mx hm6 (Sx.out _ _) (SR.out _ _) lb HLB.out)))))
      refine wpQuiet_nil ?_
      intro _ hqw
      obtain ⟨pq, hqw⟩ := hqw
      subst hqw
      clear q_x0 q_x1 q_z0 q_z1
      replace hB := hB.trans ((below_regrown wr pq.d pq.os).mono hB.size)
      clear x0 x1 z0 z1 zl Sx SR hzz hll hB0
      generalize grow (redrawn wr pq.d) pq.os = wq at *
      go_wp2
      go_roundw
      case rel => exact ⟨i + 1, by go_num, by omega, hB⟩
      case measure => simp [intOf]; omega
    · have h1z : ¬ (i : Int) < (n : Int) := by omega
      obtain ⟨wA, hwA⟩ : ∃ x, x = wr := ⟨_, rfl⟩
      subst hwA
      clear hB0 h1 hin
      rcases HSO.out with hD0 | hso
      · have hk0 : kd = 0 := by have := HKD.out; rw [hD0] at this; simpa using this.symm
        subst hk0
        go_wp2
        go_loopw [15] (fun iv wr => iv = .int .i64 0 ∧ Below w4.heap.size w4 wr) (fun iv _ => 0)
        case atStart => exact ⟨rfl, hB⟩
        case round =>
          clear hB
          obtain ⟨rfl, hB⟩ := hrel
          have hB0 := HB4.out.trans (hB.mono HB4.out.size)
          go_wp2_with fail
          refine (rsame13V (HRL.out _ hB0) (HW4.out _ hB) (by rw [HTN.out]; omega) (by rw [HTN.out]; omega) true (by simp)).mono ?_
          rintro e w12 ⟨rfl, hb12⟩
          go_wp2
          go_ret
          exact ⟨by simp, hb0.trans ((hB0.trans (hb12.mono hB0.size)).mono hs0)⟩
      · obtain ⟨g, cc, LS, he, hg, hLS, hown, hall⟩ := hso
        injection he with he1 he2 he3
        subst he1 he3
        have hLSn : LS.length = kd := by rw [← HKD.out, ← hLS, List.length_map]
        have HMU : Hid (Mut wA w3.heap.size g cs LS) := Mut.below (w := w4) ⟨by rw [← hLSn] at hown; exact hown, fun x hx => ⟨_, (hall x hx).2.2⟩, fun x hx => (hall x hx).2.1⟩ hB
        have HLS := Lib.hid hLSn
        have HNB := Lib.hid (fun x hx => (hall x hx).1.2.1 : ∀ x ∈ LS, x.h.n ≤ 1000000)
        have hB3 := HB34.out.trans (hB.mono HB34.out.size)
        clear hLSn hown hall he2
        go_wp2
        clear h1z
        go_loopw [15, 16] (fun iv jv wr => ∃ i : Nat, iv = .int .i64 i ∧ i ≤ kd ∧ Hid (Mut wr w3.heap.size g cs LS) ∧ Below w3.heap.size w3 wr) (fun iv _ _ => kd - (intOf iv).toNat)
        case atStart => exact ⟨0, rfl, by omega, HMU, hB3⟩
        case round =>
          clear HMU hB3
          obtain ⟨i, rfl, hin, HMU, hB3⟩ := hrel
          by_cases h1 : i < kd
          · have h1z : (i : Int) < (kd : Int) := by omega
            obtain ⟨wO, hwO⟩ : ∃ x, x = wr := ⟨_, rfl⟩
            subst hwO
            go_wp2
            have hxm : gRx LS i ∈ LS := gRx_mem (by rw [HLS.out]; exact h1)
            obtain ⟨x, hx⟩ : ∃ x, gRx LS i = x := ⟨_, rfl⟩
            have HXE := Lib.hid hx
            rw [hx] at hxm
            have HXM := Lib.hid hxm
            clear hx hxm
            obtain ⟨⟨xA, xn, xc, xt⟩, xd⟩ := x
            go_loopw [16] (fun jv wr => ∃ j : Nat, jv = .int .i64 j ∧ j ≤ xn ∧ Hid (Mut wr w3.heap.size g cs LS) ∧ Below w3.heap.size w3 wr) (fun jv _ => xn - (intOf jv).toNat)
            case atStart => exact ⟨0, rfl, by omega, HMU, hB3⟩
            case round =>
              clear HMU hB3
              obtain ⟨j, rfl, hjn, HMU, hB3⟩ := hrel
              have hrow := HMU.out.row
              obtain ⟨c0, c1⟩ := ownRh_at hrow (by simp [hdRx]) (k := i) (by rw [HLS.out]; exact h1)
              rw [gRx_hd (by rw [HLS.out]; exact h1), HXE.out] at c0
              replace c0 : wr.cell? ⟨g, i * 2, none⟩ = some (.slice xA xn xc) := c0
              have hgl := (hrow.lt g rfl).2
              clear c1 hrow
              have hxn : xn ≤ 1000000 := HNB.out _ HXM.out
              by_cases h2 : j < xn
              · have h2z : (j : Int) < (xn : Int) := by omega
                obtain ⟨xs, hxs⟩ := HMU.out.has _ HXM.out
                obtain ⟨gx, cx, hex, hcx⟩ := own_posJ hxs (by show 0 < xn; omega)
                have hex' : Value.slice xA xn xc = .slice (some ⟨gx, 0, none⟩) xn cx := hex
                injection hex' with hA hn hc
                subst hA hc
                have hxs' : wr.ownsRow w3.heap.size 34 3 (.slice (some ⟨gx, 0, none⟩) xn xc) xn xs := hxs
                have hst := World.ownsRow.stored hxs' (j * 3) (.int .i64 (-7))
                have hgx := hxs'.lt gx rfl
                have hfz := World.ownsRow.frozenAt hxs' (j * 3)
                obtain ⟨uc, hcl⟩ : ∃ u, wr.cell? ⟨gx, j * 3, none⟩ = some u := by
                  have h5 : xs.length = xn * 3 := hxs'.1
                  exact ⟨xs[j * 3]'(by omega), (hxs'.cellAt (j * 3) (by omega)).trans (List.getElem?_eq_getElem _)⟩
                have hgne : gx ≠ g := fun e => HMU.out.off _ HXM.out ⟨gx, 0, none⟩ rfl e
                have HM2 : Hid (Mut (wr.setCell ⟨gx, j * 3, none⟩ (.int .i64 (-7))) w3.heap.size g cs LS) := HMU.out.store hgne _ _
                have hB32 : Below w3.heap.size w3 (wr.setCell ⟨gx, j * 3, none⟩ (.int .i64 (-7))) := hB3.grown hst.2 hB3.size (fun q hq => by injection hq with hq; omega)
                clear hst hxs hxs' hex hB3 HMU
                go_wp2
                go_roundw
                case rel => exact ⟨j + 1, by go_num, by omega, HM2, hB32⟩
                case measure => simp [intOf]; omega
              · have h2z : ¬ (j : Int) < (xn : Int) := by omega
                go_wp2
                go_roundw
                case rel => exact ⟨i + 1, by go_num, by omega, HMU, hB3⟩
                case measure => simp [intOf]; omega
          · have h1z : ¬ (i : Int) < (kd : Int) := by omega
            have hB0 := HB3.out.trans (hB3.mono HB3.out.size)
            go_wp2_with fail
            refine (rsame13V (HRL.out _ hB0) (HW.out.below hB3) (by rw [HTN.out]; omega) (by rw [HTN.out]; omega) true (by simp)).mono ?_
            rintro e w12 ⟨rfl, hb12⟩
            go_wp2
            go_ret
            exact ⟨by simp, hb0.trans ((hB0.trans (hb12.mono hB0.size)).mono hs0)⟩
theorem orderTells_walk (A : Option Addr) (n c : Nat) (L : List Rx) (B : Option Addr) (m k : Nat) (ns : List Int) (rt most : Int) (nl : L.length = n) (nls : ns.length = m * 3) (_ : ∀ z ∈ ns, (Lit.int .i64 z).wf = true) (_ : (Lit.int .i64 most).wf = true) (w : World) (hl : Sl w w.heap.size 2 A n c (flatRh (hdRx L))) (hr : ∀ x ∈ L, x.raw w) (hs : Sl w w.heap.size 3 B m k (ns.map (Value.int .i64))) :
    Calls Try.prog 3 #[.slice A n c, .agg #[.slice B m k, .int .i64 rt], .int .i64 most] w fun e w' => e = .returned (.bool true) ∧ Below w.heap.size w w' := by
  obtain ⟨H, hH, hf⟩ := rowsHp_of m ns nls
  rw [hf] at hs
  exact orderTells_w A n c L B m k H rt most nl hH w hl hr hs
theorem orderTells_own : ownKnob Try.prog.godebug = none := by kernel_rfl
theorem orderTells_laidOut : laidOutB Try.prog = true := by kernel_rfl

set_option maxHeartbeats 1000000 in
set_option maxRecDepth 100000 in
theorem orderTells_lifted (os : Os) (started : os.Started) (H : Type) (enc : TypeId × Value → H) :
    ReturnsInHanded {} Try.checked os 3 .any (Rows.orderTellsSpec.pre6 enc Try.prog Try.f3 Rows.orderTellsRow.domain false) (Rows.orderTellsSpec.post enc Try.prog Try.f3 false true false false) := by
  refine returnsInHanded_of_change (C := Try.checked) orderTells_own started (by kernel_rfl) Try.func3
    (ChangeSpec.witness6 (enc := enc) (C := Try.checked) false ⟨#[], #[.slice none 0 0, .agg #[.slice none 0 0, .int .i64 0], .int .i64 0], []⟩ 8 (by kernel_rfl) (by kernel_rfl) (by kernel_rfl) (by kernel_rfl)) ?_
  intro W base args ds gs before hval0 hW hcnd _
  have hval : ∀ (j : Nat) t v, Try.f3.params[j]? = some t → args[j]? = some v → Value.okWide Try.prog W .any base t v := hval0
  have hW' := hW
  obtain ⟨p, q, hA0, hV, rfl, hfz, hnd⟩ := hW
  have hA : DataW.TrodAll enc Try.prog W 0 (fun _ => true) true Try.f3.params.toList args.toList ds p := hA0
  rw [Try.params3] at hA hval
  obtain ⟨v0, vs0, d0, ds0, p0, q0, hargs, rfl, rfl, h0, r0⟩ := trodAll_cons hA
  obtain ⟨v1, vs1, d1, ds1, p1, q1, rfl, rfl, rfl, h1, r1⟩ := trodAll_cons r0
  obtain ⟨v2, vs2, d2, ds2, p2, q2, rfl, rfl, rfl, h2, r2⟩ := trodAll_cons r1
  obtain ⟨rfl, rfl, rfl⟩ := trodAll_nil r2
  obtain rfl : args = #[v0, v1, v2] := by cases args; simp_all
  obtain ⟨rfl, rfl⟩ := trodVars_none hV
  obtain ⟨A0, n0, c0, L0, rfl, hl0, nl0, w0⟩ := open_routes 4 Try.underlying22 Try.underlying25 (by kernel_rfl) Try.underlying23 Try.underlying3 (by kernel_rfl) (by kernel_rfl) (hval 0 22 v0 rfl rfl) h0
  obtain ⟨A1, n1, c1, ns1, a1, rfl, hl1, nl1, w1, wa1⟩ := open_hdr 4 (e := 34) (K := 3) Try.underlying25 (by kernel_rfl) (by kernel_rfl) (by kernel_rfl) (by kernel_rfl) (by kernel_rfl) (by omega) (hval 1 25 v1 rfl rfl) h1
  obtain ⟨a2, rfl, rfl, rfl, w2⟩ := open_int Try.underlying3 (hval 2 3 v2 rfl rfl) h2
  clear hA0 hval0
  refine (orderTells_walk A0 n0 c0 L0 A1 n1 c1 ns1 a1 a2 nl0 nl1 w1 w2 W hl0 w0 hl1).mono fun e W' ⟨he, bel⟩ => ?_
  subst he
  exact ⟨_, rfl, law_post orderTells_laidOut (by kernel_rfl) rfl Try.underlying4 rfl rfl hW' bel⟩

theorem orderTells_proved : Rows.OrderTellsSaid :=
  OpenClaim.holds_of_wide 3 Try.f3 rfl rfl rfl rfl rfl rfl rfl ⟨rfl, rfl, rfl, rfl, rfl⟩ rfl rfl rfl rfl rfl (by kernel_rfl) Try.func3 (by kernel_rfl)
    (of_decide_eq_true (by kernel_rfl)) (by unfold Func.isWrapper; first | (rw [if_pos (by decide +kernel)]; kernel_rfl) | (rw [if_neg (by decide +kernel)]; exact ⟨rfl, rfl⟩))
    (fun os started H enc _ => orderTells_lifted os started H enc)
#print axioms orderTells_proved
end Go.Proofs.Ytbhhkaaidhapbaa
