/- The document's own ledger: a ledger where that of an ID is so. -/
import Derived.Test.YtejcjpfljcfibaaRef09b
namespace Go.Proofs.Ytejcjpfljcfibaa
open Go.ChangeShapes Go.WideShapes Go.ChangeAt Go.RowKit Go.Sort
set_option linter.unusedSimpArgs false
set_option linter.unusedVariables false
abbrev WSt := List Bk × Bool
def stepX (y : Bk) (st : WSt) (r : Bk) : WSt :=
  let s1 : WSt := if st.2 = false ∧ y.id ≤ r.id then (st.1 ++ [y], true) else st
  if r.id = y.id then s1 else (s1.1 ++ [r], s1.2)
theorem foldX_true (y : Bk) : ∀ (d : List Bk) (o : List Bk), d.foldl (stepX y) (o, true) = (o ++ d.filter (fun r => decide (r.id ≠ y.id)), true)
  | [], o => by simp
  | r :: d, o => by
    rw [List.foldl_cons]
    by_cases h : r.id = y.id
    · have e : stepX y (o, true) r = (o, true) := by simp [stepX, h]
      rw [e, foldX_true y d o]; simp [h]
    · have e : stepX y (o, true) r = (o ++ [r], true) := by simp [stepX, h]
      rw [e, foldX_true y d (o ++ [r])]; simp [h]
def finX (y : Bk) (st : WSt) : List Bk := if st.2 = true then st.1 else st.1 ++ [y]
theorem sort_tail {r : Bk} {d : List Bk} (h : SortB (r :: d)) : SortB d ∧ ∀ x ∈ d, r.id < x.id := ⟨(List.pairwise_cons.1 h).2, (List.pairwise_cons.1 h).1⟩
theorem filter_up {id : Int} {d : List Bk} (h : ∀ x ∈ d, id < x.id) : d.filter (fun x => decide (x.id < id)) = [] ∧ d.filter (fun x => decide (id < x.id)) = d ∧ d.filter (fun r => decide (r.id ≠ id)) = d := by
  refine ⟨List.filter_eq_nil_iff.2 (fun x hx => by have := h x hx; simp; omega), List.filter_eq_self.2 (fun x hx => by have := h x hx; simp; omega), List.filter_eq_self.2 (fun x hx => by have := h x hx; simp; omega)⟩
theorem foldX_false (y : Bk) : ∀ (d : List Bk) (o : List Bk), SortB d → finX y (d.foldl (stepX y) (o, false)) = o ++ d.filter (fun x => decide (x.id < y.id)) ++ [y] ++ d.filter (fun x => decide (y.id < x.id))
  | [], o, _ => by simp [finX]
  | r :: d, o, h => by
    obtain ⟨h1, h2⟩ := sort_tail h
    rw [List.foldl_cons]
    by_cases hl : r.id < y.id
    · have e : stepX y (o, false) r = (o ++ [r], false) := by
        have : ¬ y.id ≤ r.id := by omega
        have h3 : ¬ r.id = y.id := by omega
        simp [stepX, this, h3]
      have hn : ¬ y.id < r.id := by omega
      rw [e, foldX_false y d (o ++ [r]) h1]
      simp [hl, hn]
    · obtain ⟨f1, f2, f3⟩ := filter_up (id := y.id) (d := d) (fun x hx => by have := h2 x hx; omega)
      have hle : y.id ≤ r.id := by omega
      by_cases he : r.id = y.id
      · have e : stepX y (o, false) r = (o ++ [y], true) := by simp [stepX, he]
        have hn : ¬ y.id < r.id := by omega
        rw [e, foldX_true, f3]
        simp only [finX, if_true, List.filter_cons, hl, hn, decide_false, Bool.false_eq_true, if_false, f1, f2]
        simp
      · have e : stepX y (o, false) r = (o ++ [y] ++ [r], true) := by simp [stepX, he, hle]
        have hn : y.id < r.id := by omega
        rw [e, foldX_true, f3]
        simp only [finX, if_true, List.filter_cons, hl, hn, decide_false, decide_true, Bool.false_eq_true, if_false, f1, f2]
        simp
theorem filter_split {id : Int} : ∀ {d : List Bk}, SortB d → d.filter (fun r => decide (r.id ≠ id)) = d.filter (fun x => decide (x.id < id)) ++ d.filter (fun x => decide (id < x.id))
  | [], _ => rfl
  | r :: d, h => by
    obtain ⟨h1, h2⟩ := sort_tail h
    by_cases hl : r.id < id
    · have hn : ¬ id < r.id := by omega
      have hne : r.id ≠ id := by omega
      simp only [List.filter_cons, hl, hn, hne, ne_eq, not_false_eq_true, decide_true, decide_false, if_true, Bool.false_eq_true, if_false]
      have := filter_split (id := id) h1
      simp only [ne_eq] at this
      rw [this]
      simp
    · obtain ⟨f1, f2, f3⟩ := filter_up (id := id) (d := d) (fun x hx => by have := h2 x hx; omega)
      simp only [ne_eq] at f3
      by_cases he : r.id = id
      · have hn : ¬ id < r.id := by omega
        simp [List.filter_cons, he, f1, f2, f3]
        exact fun a ha => by have := h2 a ha; omega
      · have hn : id < r.id := by omega
        simp [List.filter_cons, hl, he, hn, f1, f2, f3]
        exact fun a ha => by have := h2 a ha; omega
theorem with_more {d : List Bk} {y : Bk} (hs : SortB d) : finX y (d.foldl (stepX y) ([], zeroU y)) = moreB d y.id y := by
  obtain ⟨m1, m2⟩ := more_parts y.id hs
  unfold moreB
  rw [m1, m2]
  cases hz : zeroU y with
  | true => rw [foldX_true, filter_split hs]; simp [finX]
  | false => rw [foldX_false y d [] hs]; simp
theorem foldX_next {y : Bk} {st : WSt} {d : List Bk} {i : Nat} (h : i < d.length) : (d.take (i + 1)).foldl (stepX y) st = stepX y ((d.take i).foldl (stepX y) st) (gBk d i) := by
  rw [take_nextBk h, List.foldl_append]; rfl
theorem foldX_len (y : Bk) : ∀ (d : List Bk) (st : WSt), (d.foldl (stepX y) st).1.length ≤ st.1.length + 2 * d.length
  | [], st => by simp
  | r :: d, st => by
    rw [List.foldl_cons]
    have h1 := foldX_len y d (stepX y st r)
    have h2 : (stepX y st r).1.length ≤ st.1.length + 2 := by
      unfold stepX
      by_cases ha : st.2 = false ∧ y.id ≤ r.id
      · simp only [ha, and_self, if_true]; split <;> simp
      · simp only [ha, if_false]; split <;> simp
    simp only [List.length_cons]
    omega

theorem ownB {w : World} {base base' : Nat} {e : TypeId} {size n : Nat} {v : Value} {xs : List Value} (h : w.ownsRow base e size v n xs) (hb : base' ≤ base) : w.ownsRow base' e size v n xs := by
  refine ⟨h.1, ?_⟩
  rcases h.2 with hx | ⟨g, cap, cur, rfl, hb', rest⟩
  · exact .inl hx
  · exact .inr ⟨g, cap, cur, rfl, by omega, rest⟩
theorem flatBk_one_ (y : Bk) : flatBk [y] = [.int .i64 y.id, .int .i64 y.ua, .int .i64 y.ub, .int .i64 y.uc] := rfl
set_option maxHeartbeats 4000000 in
set_option maxRecDepth 100000 in
theorem rwith_any (A : Option Addr) (n c : Nat) (d : List Bk) (y : Bk) (w : World) (hd : d.length = n) (hn : n ≤ 100000) (h : Sl w w.heap.size 4 A n c (flatBk d)) (hs : SortB d) (l : List Bk) (hl : moreB d y.id y = l) :
    Calls Try.prog 35 #[.slice A n c, .int .i64 y.id, .agg #[.int .i64 y.ua, .int .i64 y.ub, .int .i64 y.uc]] w fun e w' => ∃ v, e = .returned v ∧ w'.ownsRow w.heap.size 43 4 v l.length (flatBk l) ∧ Below w.heap.size w w' := by
  obtain ⟨i0, hi0, hz0, hz1, hz2⟩ := info_parts infoBk
  have hBa : Below w.heap.size w (w.alloc (.cells #[.int .i64 y.ua, .int .i64 y.ub, .int .i64 y.uc] 38)) := by (repeat (first | exact Below.refl _ _ | refine Below.alloc ?_ (by first | omega | (simp; done) | (simp; omega)) _ | refine Below.setCell ?_ (by first | omega | (simp; done) | (simp; omega)) _ | refine Below.drew ?_))
  have hX := Blok.new w 38 #[.int .i64 y.ua, .int .i64 y.ub, .int .i64 y.uc]
  have hlw := h.below hBa
  have hsz : (w.alloc (.cells #[.int .i64 y.ua, .int .i64 y.ub, .int .i64 y.uc] 38)).heap.size = w.heap.size + 1 := World.size_alloc _ _
  have hwm := with_more (y := y) hs
  rw [hl] at hwm
  have hzu : ∀ w0, (binOp .eql 38 (.agg #[.int .i64 y.ua, .int .i64 y.ub, .int .i64 y.uc]) (.agg #[.int .i64 0, .int .i64 0, .int .i64 0])).run Try.prog w0 = .ok (.bool (zeroU y)) w0 := fun w0 => eql3 y.ua y.ub y.uc 0 0 0 w0
  have hfl := foldX_len y d ([], zeroU y)
  have HD := Lib.hid hd
  have HWM := Lib.hid hwm
  clear h hd hs hl hwm hfl
  go_enter Try.func35, Try.ntmps35
  go_wp2
  generalize w.alloc (.cells #[.int .i64 y.ua, .int .i64 y.ub, .int .i64 y.uc] 38) = w2 at *
  have HL := Lib.hid hlw
  have HX := Lib.hid hX
  have HB := Lib.hid hBa
  clear hlw hX hBa
  go_loopw [7, 8, 9] (fun ov bv iv wr => ∃ (o : List Bk) (k i : Nat) (b : Bool), bv = .bool b ∧ iv = .int .i64 i ∧ i ≤ n ∧ k ≤ 2 * i ∧ Hid (o.length = k) ∧ wr.ownsRow (w.heap.size + 1) 43 4 ov k (flatBk o) ∧ Below (w.heap.size + 1) w2 wr ∧ Hid ((d.take i).foldl (stepX y) ([], zeroU y) = (o, b))) (fun _ _ iv _ => n - (intOf iv).toNat)
  case atStart => exact ⟨[], 0, 0, zeroU y, rfl, rfl, by omega, by omega, rfl, World.ownsRow_nil _ _ _ _, Below.refl _ _, rfl⟩
  case round =>
    obtain ⟨o, k, i, b, rfl, rfl, hi, hk, HO, hown, hb2, HF⟩ := hrel
    have hs2 := hb2.size
    have hXr := HX.out.below hb2 (by omega)
    have x0 : wr.cell? ⟨w.heap.size, 0, none⟩ = some (.int .i64 y.ua) := hXr.cell 0
    have x1 : wr.cell? ⟨w.heap.size, 1, none⟩ = some (.int .i64 y.ub) := hXr.cell 1
    have x2 : wr.cell? ⟨w.heap.size, 2, none⟩ = some (.int .i64 y.uc) := hXr.cell 2
    have hltx := hXr.lt
    have hlr := HL.out.below (hb2.mono (by omega))
    by_cases hin : i < n
    · obtain ⟨ad, rfl, hab, c0, c1, c2, c3⟩ := hlr.lst.atBk HD.out hin
      have hfx := foldX_next (y := y) (st := ([], zeroU y)) (d := d) (i := i) (by rw [HD.out]; exact hin)
      rw [HF.out] at hfx
      obtain ⟨r, hr⟩ : ∃ r, gBk d i = r := ⟨_, rfl⟩
      rw [hr] at c0 c1 c2 c3 hfx
      have hal : (ad.add (i * 4)).block < w.heap.size := by unfold Addr.add; split <;> exact hab
      have HFX := Lib.hid hfx
      have hr0 := hr
      clear hfx hr hXr hlr
      have HR := Lib.hid hr0
      cases b
      · by_cases hle : y.id ≤ r.id
        · have g1 : decide (r.id ≥ y.id) = true := decide_eq_true hle
          by_cases he : r.id = y.id
          · have g2 : (r.id != y.id) = false := by simp [he]
            have hst : stepX y (o, false) r = (o ++ [y], true) := by simp [stepX, hle, he]
            have HST := Lib.hid hst
            clear hst hle he
            go_wp2_with (first | (at_builtin; refine wpList_append_own _ rfl _ _ 22 rfl (w.heap.size + 1) 43 i0 _ 4 32 Try.underlying22 hi0 hz0 hz1 hz2 rfl (by decide) _ _ _ rfl (hown.alloc _) ⟨wr.heap.size, 0, none⟩ 1 1 [.int .i64 y.id, .int .i64 y.ua, .int .i64 y.ub, .int .i64 y.uc] rfl rfl (by exact lit_cells wr #[.int .i64 y.id, .int .i64 y.ua, .int .i64 y.ub, .int .i64 y.uc] _ _ rfl) (by simp [Value.oneCell']) (by unfold maxLen; omega) (by omega) (by simp; omega) ?_; intro v' w3 hown' hgrow3 hnil3; have hbN : Below (w.heap.size + 1) w2 w3 := (hb2.alloc (by omega) _).grown hgrow3 (by simp; omega) (fun q hq => (hown.lt q hq).1); have hsN := hbN.size; clear hgrow3 hnil3 x0 x1 x2 hb2 hown; obtain ⟨ae, he, _, e0, e1, e2, e3⟩ := (HL.out.below (hbN.mono (by omega))).lst.atBk HD.out hin; injection he with he; subst he; rw [HR.out] at e0 e1 e2 e3; clear c0 c1 c2 c3))
            skip
            go_roundw
            case rel => exact ⟨o ++ [y], k + 1, i + 1, true, rfl, by go_num, by omega, by omega, by simp [Hid, HO.out], (by rw [flatBk_append, flatBk_one_]; exact hown'), hbN, HFX.out.trans HST.out⟩
            case measure => simp [intOf]; omega
          · have g2 : (r.id != y.id) = true := by simp [he]
            have hst : stepX y (o, false) r = (o ++ [y] ++ [r], true) := by simp [stepX, hle, he]
            have HST := Lib.hid hst
            clear hst hle he
            go_wp2_with (first | (at_builtin; refine wpList_append_own _ rfl _ _ 22 rfl (w.heap.size + 1) 43 i0 _ 4 32 Try.underlying22 hi0 hz0 hz1 hz2 rfl (by decide) _ _ _ rfl (hown.alloc _) ⟨wr.heap.size, 0, none⟩ 1 1 [.int .i64 y.id, .int .i64 y.ua, .int .i64 y.ub, .int .i64 y.uc] rfl rfl (by exact lit_cells wr #[.int .i64 y.id, .int .i64 y.ua, .int .i64 y.ub, .int .i64 y.uc] _ _ rfl) (by simp [Value.oneCell']) (by unfold maxLen; omega) (by omega) (by simp; omega) ?_; intro v' w3 hown' hgrow3 hnil3; have hbN : Below (w.heap.size + 1) w2 w3 := (hb2.alloc (by omega) _).grown hgrow3 (by simp; omega) (fun q hq => (hown.lt q hq).1); have hsN := hbN.size; clear hgrow3 hnil3 x0 x1 x2 hb2 hown; obtain ⟨ae, he, _, e0, e1, e2, e3⟩ := (HL.out.below (hbN.mono (by omega))).lst.atBk HD.out hin; injection he with he; subst he; rw [HR.out] at e0 e1 e2 e3; clear c0 c1 c2 c3) | (at_builtin; refine wpList_append_own _ rfl _ _ 22 rfl (w.heap.size + 1) 43 i0 _ 4 32 Try.underlying22 hi0 hz0 hz1 hz2 rfl (by decide) _ _ _ rfl (hown'.alloc _) ⟨w3.heap.size, 0, none⟩ 1 1 [.int .i64 r.id, .int .i64 r.ua, .int .i64 r.ub, .int .i64 r.uc] rfl rfl (by exact lit_cells w3 #[.int .i64 r.id, .int .i64 r.ua, .int .i64 r.ub, .int .i64 r.uc] _ _ rfl) (by simp [Value.oneCell']) (by unfold maxLen; omega) (by omega) (by simp; omega) ?_; intro v2 w4 hown2 hgrow4 hnil4; have hbM : Below (w.heap.size + 1) w2 w4 := (hbN.alloc (by omega) _).grown hgrow4 (by simp; omega) (fun q hq => (hown'.lt q hq).1); clear hgrow4 hnil4 hbN hown'))
            skip
            go_roundw
            case rel => exact ⟨o ++ [y] ++ [r], k + 1 + 1, i + 1, true, rfl, by go_num, by omega, by omega, by simp [Hid, HO.out], (by rw [flatBk_append, flatBk_append, flatBk_one_, flatBk_one_]; exact hown2), hbM, HFX.out.trans HST.out⟩
            case measure => simp [intOf]; omega
        · have g1 : decide (r.id ≥ y.id) = false := decide_eq_false hle
          have he : ¬ r.id = y.id := by omega
          have g2 : (r.id != y.id) = true := by simp [he]
          have hst : stepX y (o, false) r = (o ++ [r], false) := by simp [stepX, hle, he]
          have HST := Lib.hid hst
          clear hst hle he
          go_wp2_with (first | (at_builtin; refine wpList_append_own _ rfl _ _ 22 rfl (w.heap.size + 1) 43 i0 _ 4 32 Try.underlying22 hi0 hz0 hz1 hz2 rfl (by decide) _ _ _ rfl (hown.alloc _) ⟨wr.heap.size, 0, none⟩ 1 1 [.int .i64 r.id, .int .i64 r.ua, .int .i64 r.ub, .int .i64 r.uc] rfl rfl (by exact lit_cells wr #[.int .i64 r.id, .int .i64 r.ua, .int .i64 r.ub, .int .i64 r.uc] _ _ rfl) (by simp [Value.oneCell']) (by unfold maxLen; omega) (by omega) (by simp; omega) ?_; intro v2 w4 hown2 hgrow4 hnil4; have hbM : Below (w.heap.size + 1) w2 w4 := (hb2.alloc (by omega) _).grown hgrow4 (by simp; omega) (fun q hq => (hown.lt q hq).1); clear hgrow4 hnil4 hb2 hown))
          skip
          go_roundw
          case rel => exact ⟨o ++ [r], k + 1, i + 1, false, rfl, by go_num, by omega, by omega, by simp [Hid, HO.out], (by rw [flatBk_append, flatBk_one_]; exact hown2), hbM, HFX.out.trans HST.out⟩
          case measure => simp [intOf]; omega
      · by_cases he : r.id = y.id
        · have g2 : (r.id != y.id) = false := by simp [he]
          have hst : stepX y (o, true) r = (o, true) := by simp [stepX, he]
          have HST := Lib.hid hst
          clear hst he
          go_wp2_with fail
          go_roundw
          case rel => exact ⟨o, k, i + 1, true, rfl, by go_num, by omega, by omega, by simp [Hid, HO.out], hown, hb2, HFX.out.trans HST.out⟩
          case measure => simp [intOf]; omega
        · have g2 : (r.id != y.id) = true := by simp [he]
          have hst : stepX y (o, true) r = (o ++ [r], true) := by simp [stepX, he]
          have HST := Lib.hid hst
          clear hst he
          go_wp2_with (first | (at_builtin; refine wpList_append_own _ rfl _ _ 22 rfl (w.heap.size + 1) 43 i0 _ 4 32 Try.underlying22 hi0 hz0 hz1 hz2 rfl (by decide) _ _ _ rfl (hown.alloc _) ⟨wr.heap.size, 0, none⟩ 1 1 [.int .i64 r.id, .int .i64 r.ua, .int .i64 r.ub, .int .i64 r.uc] rfl rfl (by exact lit_cells wr #[.int .i64 r.id, .int .i64 r.ua, .int .i64 r.ub, .int .i64 r.uc] _ _ rfl) (by simp [Value.oneCell']) (by unfold maxLen; omega) (by omega) (by simp; omega) ?_; intro v2 w4 hown2 hgrow4 hnil4; have hbM : Below (w.heap.size + 1) w2 w4 := (hb2.alloc (by omega) _).grown hgrow4 (by simp; omega) (fun q hq => (hown.lt q hq).1); clear hgrow4 hnil4 hb2 hown))
          skip
          go_roundw
          case rel => exact ⟨o ++ [r], k + 1, i + 1, true, rfl, by go_num, by omega, by omega, by simp [Hid, HO.out], (by rw [flatBk_append, flatBk_one_]; exact hown2), hbM, HFX.out.trans HST.out⟩
          case measure => simp [intOf]; omega
    · have hie : i = n := by omega
      have hf := HF.out
      rw [List.take_of_length_le (by rw [HD.out]; omega)] at hf
      have hw := HWM.out
      rw [hf] at hw
      clear hf HF HWM hlr hXr
      cases b
      · have hlo : l = o ++ [y] := by rw [← hw]; simp [finX]
        have HLO := Lib.hid hlo
        clear hw hlo
        go_wp2_with (first | (at_builtin; refine wpList_append_own _ rfl _ _ 22 rfl (w.heap.size + 1) 43 i0 _ 4 32 Try.underlying22 hi0 hz0 hz1 hz2 rfl (by decide) _ _ _ rfl (hown.alloc _) ⟨wr.heap.size, 0, none⟩ 1 1 [.int .i64 y.id, .int .i64 y.ua, .int .i64 y.ub, .int .i64 y.uc] rfl rfl (by exact lit_cells wr #[.int .i64 y.id, .int .i64 y.ua, .int .i64 y.ub, .int .i64 y.uc] _ _ rfl) (by simp [Value.oneCell']) (by unfold maxLen; omega) (by omega) (by simp; omega) ?_; intro v' w3 hown' hgrow3 hnil3; have hbN : Below (w.heap.size + 1) w2 w3 := (hb2.alloc (by omega) _).grown hgrow3 (by simp; omega) (fun q hq => (hown.lt q hq).1); clear hgrow3 hnil3))
        go_ret
        refine ⟨_, rfl, ?_, HB.out.trans (hbN.mono (by omega))⟩
        rw [HLO.out, flatBk_append, flatBk_one_, List.length_append, HO.out]
        exact ownB hown' (by omega)
      · have hlo : l = o := by rw [← hw]; simp [finX]
        have HLO := Lib.hid hlo
        clear hw hlo
        go_wp2_with fail
        go_ret
        refine ⟨_, rfl, ?_, HB.out.trans (hb2.mono (by omega))⟩
        rw [HLO.out, HO.out]
        exact ownB hown (by omega)
end Go.Proofs.Ytejcjpfljcfibaa
