/- The document's own earliest times: with. It makes new memory alone. -/
import Derived.Test.YtblihpghalhjoaaRef15
namespace Go.Proofs.Ytblihpghalhjoaa
open Go.ChangeShapes Go.WideShapes Go.ChangeAt Go.RowKit Go.Sort Hp
set_option linter.unusedSimpArgs false
set_option linter.unusedVariables false
theorem drop_cons2 {d : List (Int × Int)} {i : Nat} (h : i < d.length) : d.drop i = gt d i :: d.drop (i + 1) := by
  rw [List.drop_eq_getElem_cons h]
  unfold gt
  rw [List.getD_eq_getElem?_getD, List.getElem?_eq_getElem h]; rfl
theorem withR_len {n a : Int} : ∀ (r : List (Int × Int)) (laid : Bool), (withR n a r laid).length ≤ r.length + 1
  | [], laid => by cases laid <;> simp [withR]
  | x :: r, laid => by
    have h1 := withR_len (n := n) (a := a) r true
    have h2 := withR_len (n := n) (a := a) r false
    have h3 : ∀ r : List (Int × Int), (withR n a r true).length ≤ r.length := by
      intro r
      induction r with
      | nil => simp [withR]
      | cons y s ih =>
        rw [withR, if_neg (by simp), List.nil_append, Bool.true_or, List.length_append]
        by_cases e : y.1 = n <;> simp [e] <;> omega
    have h4 := h3 r
    rw [withR, List.length_append, List.length_append]
    by_cases hc : n ≤ x.1 <;> by_cases e : x.1 = n <;> cases laid <;> simp [hc, e] <;> omega
set_option maxHeartbeats 4000000 in
set_option maxRecDepth 100000 in
theorem rwith15_any (A : Option Addr) (n c : Nat) (d : List (Int × Int)) (q a : Int) (w : World) (hd : d.length = n) (hn : n ≤ 100000) (h : Sl w w.heap.size 2 A n c (flat2 d)) :
    Calls Try.prog 41 #[.slice A n c, .int .i64 q, .int .i64 a] w fun e w' => ∃ v, e = .returned v ∧ w'.ownsRow w.heap.size 46 2 v (withR q a d false).length (flat2 (withR q a d false)) ∧ Below w.heap.size w w' := by
  obtain ⟨i0, hi0, hz0, hz1, hz2⟩ := info_parts ready_info
  have HD := Lib.hid hd
  have HL := Lib.hid h
  clear hd h
  go_enter Try.func41, Try.ntmps41
  go_wp2_with fail
  go_loopw [7, 8, 9] (fun ev bv iv wr => ∃ (i m : Nat) (es : List (Int × Int)) (lb : Bool), iv = .int .i64 i ∧ bv = .bool lb ∧ i ≤ n ∧ m ≤ 2 * i ∧ Hid (es.length = m) ∧ Hid (es ++ withR q a (d.drop i) lb = withR q a d false) ∧ wr.ownsRow w.heap.size 46 2 ev m (flat2 es) ∧ Below w.heap.size w wr) (fun ev bv iv _ => n - (intOf iv).toNat)
  case atStart => exact ⟨0, 0, [], false, rfl, rfl, by omega, by omega, rfl, by simp [Hid], World.ownsRow_nil _ _ _ _, Below.refl _ _⟩
  case round =>
    obtain ⟨i, m, es, lb, rfl, rfl, hi, hm, HE, HF, hown, hB⟩ := hrel
    have hs := hB.size
    obtain ⟨Ae, ce, rfl⟩ := slice_of_own hown
    have HNW := Lib.hid hown
    clear hown
    by_cases hin : i < n
    · obtain ⟨ad, rfl, hab, c0, c1⟩ := (HL.out.up hB).lst.fst2 HD.out hin
      obtain ⟨x, hx⟩ : ∃ x, gt d i = x := ⟨_, rfl⟩
      have hdr := drop_cons2 (d := d) (i := i) (by rw [HD.out]; exact hin)
      rw [hx] at c0 c1 hdr
      have HX := Lib.hid hx
      have HD2 := Lib.hid hdr
      clear hx hdr
      cases lb
      · by_cases hle : q ≤ x.1
        · have hws : withR q a (x :: d.drop (i + 1)) false = [(q, a)] ++ (if x.1 = q then [] else [x]) ++ withR q a (d.drop (i + 1)) true := by rw [withR, if_pos ⟨rfl, hle⟩, show (false || decide (q ≤ x.1)) = true by simp [hle]]
          have g0 : decide (x.1 ≥ q) = true := decide_eq_true hle
          go_upto_region 9 with (first | (at_builtin; refine wpList_append_own _ rfl _ _ 24 rfl w.heap.size 46 i0 _ 2 16 Try.underlying24 hi0 hz0 hz1 hz2 rfl (by decide) _ _ _ rfl (HNW.out.alloc _) ⟨wr.heap.size, 0, none⟩ 1 1 [.int .i64 q, .int .i64 a] rfl rfl (by exact lit_cells wr #[.int .i64 q, .int .i64 a] _ _ rfl) (by simp [Value.oneCell']) (by unfold maxLen; omega) (by omega) (by simp; omega) ?_; intro v' w3 hown' hgrow3 hnil3; clear hnil3))
          clear g0 c0 c1
          have hbN : Below w.heap.size w w3 := (hB.alloc hs _).grown hgrow3 (by simp; omega) (fun q' hq => by have := (HNW.out.lt q' hq).1; omega)
          clear hgrow3
          have hsN := hbN.size
          obtain ⟨ad2, hA2, hab2, c0, c1⟩ := (HL.out.up hbN).lst.fst2 HD.out hin
          rw [HX.out] at c0 c1
          injection hA2 with hA2
          subst hA2
          have HN2 := Lib.hid hown'
          clear hown'
          by_cases he : x.1 = q
          · have HNX : Hid (es ++ [(q, a)] ++ withR q a (d.drop (i + 1)) true = withR q a d false) := by
              have h := HF.out
              rw [HD2.out, hws, if_pos he, List.append_nil] at h
              rw [List.append_assoc]
              exact h
            have g1 : (x.1 != q) = false := by simp [he]
            clear he hws
            go_wp2_with fail
            go_roundw
            case rel => exact ⟨i + 1, m + 1, es ++ [(q, a)], true, by go_num, rfl, by omega, by omega, by simp [Hid, HE.out], HNX, (by rw [flat2_append]; exact HN2.out), hbN⟩
            case measure => simp [intOf]; omega
          · have HNX : Hid (es ++ [(q, a)] ++ [x] ++ withR q a (d.drop (i + 1)) true = withR q a d false) := by
              have h := HF.out
              rw [HD2.out, hws, if_neg he] at h
              show es ++ [(q, a)] ++ [x] ++ withR q a (d.drop (i + 1)) true = withR q a d false
              rw [← h]
              simp
            have g1 : (x.1 != q) = true := by simp [he]
            clear he hws
            obtain ⟨w4, hw4⟩ : ∃ z, z = w3 := ⟨_, rfl⟩
            subst hw4
            go_wp2_with (first | (at_builtin; refine wpList_append_own _ rfl _ _ 24 rfl w.heap.size 46 i0 _ 2 16 Try.underlying24 hi0 hz0 hz1 hz2 rfl (by decide) _ _ _ rfl (HN2.out.alloc _) ⟨w4.heap.size, 0, none⟩ 1 1 [.int .i64 x.1, .int .i64 x.2] rfl rfl (by exact lit_cells w4 #[.int .i64 x.1, .int .i64 x.2] _ _ rfl) (by simp [Value.oneCell']) (by unfold maxLen; omega) (by omega) (by simp; omega) ?_; intro v' w3 hown' hgrow3 hnil3; clear hnil3))
            have hbM : Below w.heap.size w w3 := (hbN.alloc hsN _).grown hgrow3 (by simp; omega) (fun q' hq => by have := (HN2.out.lt q' hq).1; omega)
            clear hgrow3
            go_roundw
            case rel => exact ⟨i + 1, m + 1 + 1, es ++ [(q, a)] ++ [x], true, by go_num, rfl, by omega, by omega, by simp [Hid, HE.out], HNX, (by rw [flat2_append, flat2_append]; exact hown'), hbM⟩
            case measure => simp [intOf]; omega
        · have hws : withR q a (x :: d.drop (i + 1)) false = (if x.1 = q then [] else [x]) ++ withR q a (d.drop (i + 1)) false := by rw [withR, if_neg (fun e => hle e.2), List.nil_append, show (false || decide (q ≤ x.1)) = false by simp [hle]]
          have g0 : decide (x.1 ≥ q) = false := decide_eq_false hle
          by_cases he : x.1 = q
          · exact absurd (he ▸ Int.le_refl _) hle
          · have HNX : Hid (es ++ [x] ++ withR q a (d.drop (i + 1)) false = withR q a d false) := by
              have h := HF.out
              rw [HD2.out, hws, if_neg he] at h
              rw [List.append_assoc]
              exact h
            have g1 : (x.1 != q) = true := by simp [he]
            clear he hws
            go_wp2_with (first | (at_builtin; refine wpList_append_own _ rfl _ _ 24 rfl w.heap.size 46 i0 _ 2 16 Try.underlying24 hi0 hz0 hz1 hz2 rfl (by decide) _ _ _ rfl (HNW.out.alloc _) ⟨wr.heap.size, 0, none⟩ 1 1 [.int .i64 x.1, .int .i64 x.2] rfl rfl (by exact lit_cells wr #[.int .i64 x.1, .int .i64 x.2] _ _ rfl) (by simp [Value.oneCell']) (by unfold maxLen; omega) (by omega) (by simp; omega) ?_; intro v' w3 hown' hgrow3 hnil3; clear hnil3))
            have hbN : Below w.heap.size w w3 := (hB.alloc hs _).grown hgrow3 (by simp; omega) (fun q' hq => by have := (HNW.out.lt q' hq).1; omega)
            clear hgrow3
            go_roundw
            case rel => exact ⟨i + 1, m + 1, es ++ [x], false, by go_num, rfl, by omega, by omega, by simp [Hid, HE.out], HNX, (by rw [flat2_append]; exact hown'), hbN⟩
            case measure => simp [intOf]; omega
      · have hws : withR q a (x :: d.drop (i + 1)) true = (if x.1 = q then [] else [x]) ++ withR q a (d.drop (i + 1)) true := by rw [withR, if_neg (by simp), List.nil_append, Bool.true_or]
        by_cases he : x.1 = q
        · have HNX : Hid (es ++ withR q a (d.drop (i + 1)) true = withR q a d false) := by
            have h := HF.out
            rw [HD2.out, hws, if_pos he, List.nil_append] at h
            exact h
          have g1 : (x.1 != q) = false := by simp [he]
          clear he hws
          go_wp2_with fail
          go_roundw
          case rel => exact ⟨i + 1, m, es, true, by go_num, rfl, by omega, by omega, HE, HNX, HNW.out, hB⟩
          case measure => simp [intOf]; omega
        · have HNX : Hid (es ++ [x] ++ withR q a (d.drop (i + 1)) true = withR q a d false) := by
            have h := HF.out
            rw [HD2.out, hws, if_neg he] at h
            rw [List.append_assoc]
            exact h
          have g1 : (x.1 != q) = true := by simp [he]
          clear he hws
          go_wp2_with (first | (at_builtin; refine wpList_append_own _ rfl _ _ 24 rfl w.heap.size 46 i0 _ 2 16 Try.underlying24 hi0 hz0 hz1 hz2 rfl (by decide) _ _ _ rfl (HNW.out.alloc _) ⟨wr.heap.size, 0, none⟩ 1 1 [.int .i64 x.1, .int .i64 x.2] rfl rfl (by exact lit_cells wr #[.int .i64 x.1, .int .i64 x.2] _ _ rfl) (by simp [Value.oneCell']) (by unfold maxLen; omega) (by omega) (by simp; omega) ?_; intro v' w3 hown' hgrow3 hnil3; clear hnil3))
          have hbN : Below w.heap.size w w3 := (hB.alloc hs _).grown hgrow3 (by simp; omega) (fun q' hq => by have := (HNW.out.lt q' hq).1; omega)
          clear hgrow3
          go_roundw
          case rel => exact ⟨i + 1, m + 1, es ++ [x], true, by go_num, rfl, by omega, by omega, by simp [Hid, HE.out], HNX, (by rw [flat2_append]; exact hown'), hbN⟩
          case measure => simp [intOf]; omega
    · obtain rfl : i = n := by omega
      have hdn : d.drop i = [] := List.drop_eq_nil_of_le (by rw [HD.out]; exact Nat.le_refl _)
      have hf := HF.out
      rw [hdn, withR] at hf
      cases lb
      · rw [if_neg (by simp)] at hf
        have HF2 := Lib.hid hf
        clear hf hdn
        go_wp2_with (first | (at_builtin; refine wpList_append_own _ rfl _ _ 24 rfl w.heap.size 46 i0 _ 2 16 Try.underlying24 hi0 hz0 hz1 hz2 rfl (by decide) _ _ _ rfl (HNW.out.alloc _) ⟨wr.heap.size, 0, none⟩ 1 1 [.int .i64 q, .int .i64 a] rfl rfl (by exact lit_cells wr #[.int .i64 q, .int .i64 a] _ _ rfl) (by simp [Value.oneCell']) (by unfold maxLen; omega) (by omega) (by simp; omega) ?_; intro v' w3 hown' hgrow3 hnil3; clear hnil3))
        have hbN : Below w.heap.size w w3 := (hB.alloc hs _).grown hgrow3 (by simp; omega) (fun q' hq => by have := (HNW.out.lt q' hq).1; omega)
        clear hgrow3
        go_ret
        exact ⟨_, rfl, by rw [← HF2.out, List.length_append, HE.out, flat2_append]; exact hown', hbN⟩
      · rw [if_pos rfl, List.append_nil] at hf
        have HF2 := Lib.hid hf
        clear hf hdn
        go_wp2_with fail
        go_ret
        exact ⟨_, rfl, by rw [← HF2.out, HE.out]; exact HNW.out, hB⟩
end Go.Proofs.Ytblihpghalhjoaa
