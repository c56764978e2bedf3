/- The document's own fewest hops. It makes new memory alone. -/
import Derived.Test.YtjkcjbcbnnpmfaaRef16c
namespace Go.Proofs.Ytjkcjbcbnnpmfaa
open Go.ChangeShapes Go.WideShapes Go.ChangeAt Go.RowKit Go.Sort Hp
set_option linter.unusedSimpArgs false
set_option linter.unusedVariables false
set_option maxHeartbeats 4000000 in
set_option maxRecDepth 100000 in
theorem rlfew16_any (Ae : Option Addr) (ne ce : Nat) (l : List Ed) (x q now by_ size : Int) (As : Option Addr) (ns cs : Nat) (sh : List Int) (w : World) (hde : l.length = ne) (hne : ne ≤ 200) (hds : sh.length = ns) (hns : ns ≤ 100000) (hle : Sl w w.heap.size 8 Ae ne ce (flatEd l)) (hls : Sl w w.heap.size 1 As ns cs (sh.map (Value.int .i64)))
    (o : Option Nat) (ho : (askE l x now size && nodeB q && inB by_ 0 1099511627776) = true → IsFew l size (opn sh q) q by_ x now o) (hno : (askE l x now size && nodeB q && inB by_ 0 1099511627776) = false → o = none) (ov : Int) (ob : Bool) (hov : ((o.getD 0 : Nat) : Int) = ov) (hob : o.isSome = ob) :
    Calls Try.prog 10 #[.slice Ae ne ce, .int .i64 x, .int .i64 q, .int .i64 now, .int .i64 by_, .int .i64 size, .slice As ns cs] w fun e w' => e = .returned (.tuple #[.int .i64 ov, .bool ob]) ∧ Below w.heap.size w w' := by
  have HDE := Lib.hid hde
  have HDS := Lib.hid hds
  have HLE := Lib.hid (fun w' (hb : Below w.heap.size w w') => hle.up hb)
  have HLS := Lib.hid (fun w' (hb : Below w.heap.size w w') => hls.up hb)
  obtain ⟨ak, hak⟩ : ∃ b, (askE l x now size && nodeB q) = b := ⟨_, rfl⟩
  have HAK := Lib.hid hak
  rw [hak] at ho hno
  have HOV := Lib.hid hov
  have HOB := Lib.hid hob
  clear hde hds hle hls hak hov hob
  by_cases hby : by_ < 0 ∨ 1099511627776 < by_
  · have hib : inB by_ 0 1099511627776 = false := by unfold inB; exact decide_eq_false (by omega)
    have he : o = none := hno (by rw [hib, Bool.and_false])
    have h1 : ov = 0 := by rw [← HOV.out, he]; rfl
    have h2 : ob = false := by rw [← HOB.out, he]; rfl
    subst h1 h2
    clear he hib ho hno
    have hcs : (ak = false) ∨ (ak = true ∧ by_ < 0) ∨ (ak = true ∧ ¬ by_ < 0 ∧ 1099511627776 < by_) := by
      cases ak with
      | false => exact .inl rfl
      | true => by_cases h : by_ < 0
                · exact .inr (.inl ⟨rfl, h⟩)
                · exact .inr (.inr ⟨rfl, h, by omega⟩)
    clear hby
    rcases hcs with rfl | ⟨rfl, h1⟩ | ⟨rfl, h1, h2⟩
    all_goals
      go_enter Try.func10, Try.ntmps10
      go_wp2_with fail
      refine (rasked12_any Ae ne ce l x q now size w HDE.out (by omega) (HLE.out _ (Below.refl _ _)) _ HAK.out).mono ?_
      rintro e w1 ⟨rfl, hB⟩
      go_wp2_with fail
      exact bodyPost_ret (v := .tuple #[.int .i64 0, .bool false]) (by simp [results, Try.results10, go_sem]) rfl ⟨rfl, hB⟩
  · have hby2 : 0 ≤ by_ ∧ by_ ≤ 1099511627776 := by omega
    have hib : inB by_ 0 1099511627776 = true := by unfold inB; exact decide_eq_true hby2
    rw [hib, Bool.and_true] at ho hno
    have hn1 : ¬ by_ < 0 := by omega
    have hn2 : ¬ 1099511627776 < by_ := by omega
    clear hib hby
    cases ak with
    | false =>
      have he : o = none := hno rfl
      have h1 : ov = 0 := by rw [← HOV.out, he]; rfl
      have h2 : ob = false := by rw [← HOB.out, he]; rfl
      subst h1 h2
      clear he ho hno
      go_enter Try.func10, Try.ntmps10
      go_wp2_with fail
      refine (rasked12_any Ae ne ce l x q now size w HDE.out (by omega) (HLE.out _ (Below.refl _ _)) false HAK.out).mono ?_
      rintro e w1 ⟨rfl, hB⟩
      go_wp2_with fail
      exact bodyPost_ret (v := .tuple #[.int .i64 0, .bool false]) (by simp [results, Try.results10, go_sem]) rfl ⟨rfl, hB⟩
    | true =>
      have HFO := Lib.hid (ho rfl)
      have HASK : Hid (askE l q by_ size = true) := by
        have h1 := HAK.out
        rw [Bool.and_eq_true] at h1
        obtain ⟨g1, g2, g3, g4⟩ := askE_spec.1 h1.1
        have g5 : 1 ≤ q ∧ q ≤ 255 := by have := h1.2; unfold nodeB inB at this; exact of_decide_eq_true this
        exact askE_spec.2 ⟨g5, hby2, g3, g4⟩
      clear ho hno
      go_enter Try.func10, Try.ntmps10
      go_wp2_with fail
      refine (rasked12_any Ae ne ce l x q now size w HDE.out (by omega) (HLE.out _ (Below.refl _ _)) true HAK.out).mono ?_
      rintro e w1 ⟨rfl, hB⟩
      go_wp2_with fail
      go_loopw [16] (fun hv wr => ∃ h : Nat, hv = .int .i64 h ∧ h ≤ ne + 1 ∧ Hid (∀ k, k < h → ∀ t, lateL l size (opn sh q) q by_ k x = some t → t < now) ∧ Below w.heap.size w wr) (fun hv _ => ne + 1 - (intOf hv).toNat)
      case atStart => exact ⟨0, rfl, by omega, fun k hk => by omega, hB⟩
      case round =>
        clear hB
        obtain ⟨h, rfl, hh, HN, hB⟩ := hrel
        by_cases hle : h ≤ ne
        · have g0 : decide ((h : Int) ≤ (ne : Int)) = true := decide_eq_true (by omega)
          go_wp2_with fail
          clear g0
          refine (rltimes16_any Ae ne ce l q by_ size (h : Int) As ns cs sh wr HDE.out hne HDS.out hns (HLE.out _ hB) (HLS.out _ hB)).mono ?_
          rintro e w2 ⟨A2, n2, c2, r, rfl, hr, hn2, hL, hs, hb⟩
          replace hB := hB.trans (hb.mono hB.size)
          have HAT : Hid (atR r = lateL l size (opn sh q) q by_ h) := by have := hL.yes HASK.out (by omega); rw [Int.toNat_natCast] at this; exact this
          have HR := Lib.hid hr
          obtain ⟨u, hu⟩ : ∃ z, (lateL l size (opn sh q) q by_ h x).getD 0 = z := ⟨_, rfl⟩
          obtain ⟨ok, hok⟩ : ∃ z, (lateL l size (opn sh q) q by_ h x).isSome = z := ⟨_, rfl⟩
          have HU := Lib.hid hu
          have HK := Lib.hid hok
          clear hb hL hr hu hok
          go_wp2_with fail
          refine (rat15_any A2 n2 c2 r x w2 HR.out (by omega) hs u ok (by rw [HAT.out]; exact HU.out) (by rw [HAT.out]; exact HK.out)).mono ?_
          rintro e w3 ⟨rfl, hb⟩
          replace hB := hB.trans (hb.mono hB.size)
          clear hb hs
          by_cases hin : ok = true ∧ now ≤ u
          · obtain ⟨rfl, hnu⟩ := hin
            have hL : lateL l size (opn sh q) q by_ h x = some u := by
              have h1 := HU.out
              have h2 := HK.out
              cases hc : lateL l size (opn sh q) q by_ h x with
              | none => rw [hc] at h2; cases h2
              | some z => rw [hc] at h1; rw [← h1]; rfl
            have he : o = some h := few_one HFO.out ⟨⟨u, hL, hnu⟩, HN.out⟩
            have h1 : ov = (h : Int) := by rw [← HOV.out, he]; rfl
            have h2 : ob = true := by rw [← HOB.out, he]; rfl
            subst h1 h2
            have g1 : decide (now ≤ u) = true := decide_eq_true hnu
            clear hL he hnu
            go_wp2_with fail
            exact bodyPost_ret (v := .tuple #[.int .i64 (h : Int), .bool true]) (by simp [results, Try.results10, go_sem]) rfl ⟨rfl, hB⟩
          · have hno : ∀ t, lateL l size (opn sh q) q by_ h x = some t → t < now := fun t ht => by
              have h1 := HU.out
              have h2 := HK.out
              rw [ht] at h1 h2
              have h3 : t = u := h1
              rcases not_both hin with e | ⟨_, e⟩
              · rw [e] at h2; cases h2
              · omega
            have HN2 : Hid (∀ k, k < h + 1 → ∀ t, lateL l size (opn sh q) q by_ k x = some t → t < now) := fun k hk t ht => by
              by_cases e : k = h
              · subst e; exact hno t ht
              · exact HN.out k (by omega) t ht
            have hc := not_both hin
            clear hin hno
            rcases hc with rfl | ⟨rfl, hnu⟩
            · go_wp2_with fail
              go_roundw
              case rel => exact ⟨h + 1, by go_num, by omega, HN2, hB⟩
              case measure => simp [intOf]; omega
            · have g1 : decide (now ≤ u) = false := decide_eq_false hnu
              clear hnu
              go_wp2_with fail
              go_roundw
              case rel => exact ⟨h + 1, by go_num, by omega, HN2, hB⟩
              case measure => simp [intOf]; omega
        · obtain rfl : h = ne + 1 := by omega
          have he : o = none := few_one HFO.out (fun k t ht => by
            rcases Nat.lt_or_ge k (ne + 1) with e | e
            · exact HN.out k e t ht
            · rw [lateL_same hby2.2 hby2.1 (h := k) (k := ne) (by rw [HDE.out]; omega) (by rw [HDE.out]; omega)] at ht
              exact HN.out ne (by omega) t ht)
          have h1 : ov = 0 := by rw [← HOV.out, he]; rfl
          have h2 : ob = false := by rw [← HOB.out, he]; rfl
          subst h1 h2
          have g0 : decide (((ne : Int) + 1) ≤ (ne : Int)) = false := decide_eq_false (by omega)
          clear he
          go_wp2_with fail
          exact bodyPost_ret (v := .tuple #[.int .i64 0, .bool false]) (by simp [results, Try.results10, go_sem]) rfl ⟨rfl, hB⟩
end Go.Proofs.Ytjkcjbcbnnpmfaa
