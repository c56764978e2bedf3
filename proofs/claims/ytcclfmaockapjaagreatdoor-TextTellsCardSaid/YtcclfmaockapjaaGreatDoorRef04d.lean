
/- The document's own answer for layer 4: what words say. No condition but on sizes. -/
import Derived.Test.YtcclfmaockapjaaGreatDoorRef04c
import Derived.Test.YtcclfmaockapjaaGreatDoorFacts5
namespace Go.Proofs.YtcclfmaockapjaaGreatDoor
open Go.ChangeShapes Go.WideShapes Go.ChangeAt Go.RowKit Go.Sort
set_option linter.unusedSimpArgs false
set_option linter.unusedVariables false
/-- Do these words begin as directives of that kind, and are they as many? -/
def fitsD (op kd : Int) (l : List Bytes) : Prop := l.length = 2 + formLen op kd ∧ gS l 0 = gS opW op.toNat ∧ gS l 1 = gS kdW kd.toNat
theorem bare_len {op kd : Int} (h : (op = 1 ∨ op = 2 ∨ op = 3) ∧ (kd = 1 ∨ kd = 2)) : (numsD ⟨op, kd, 0, 0, 0, 0, 0, 0, 0, 0, 0, 0, 0⟩).length = formLen op kd := by
  obtain ⟨h1, h2⟩ := h
  rcases h1 with rfl | rfl | rfl <;> rcases h2 with rfl | rfl <;> rfl
theorem bare_known {op kd : Int} (h : (op = 1 ∨ op = 2 ∨ op = 3) ∧ (kd = 1 ∨ kd = 2)) : knownD ⟨op, kd, 0, 0, 0, 0, 0, 0, 0, 0, 0, 0, 0⟩ = true := by
  obtain ⟨h1, h2⟩ := h
  rcases h1 with rfl | rfl | rfl <;> rcases h2 with rfl | rfl <;> rfl
theorem form_known {op kd : Int} (h : (op = 1 ∨ op = 2 ∨ op = 3) ∧ (kd = 1 ∨ kd = 2)) : (formV op kd).isSome = true := bare_known h
theorem fits_parse {op kd : Int} {l : List Bytes} (h : (op = 1 ∨ op = 2 ∨ op = 3) ∧ (kd = 1 ∨ kd = 2)) (hf : fitsD op kd l) :
    parseD l = match numsF (l.drop 2) with
      | none => (zeroDr, 2)
      | some ns => if rightD (madeD op kd ns) = true then (madeD op kd ns, 0) else (zeroDr, 1) := by
  obtain ⟨f1, f2, f3⟩ := hf
  have e1 : opF (gS l 0) = op := by rw [f2]; obtain ⟨h1, _⟩ := h; rcases h1 with rfl | rfl | rfl <;> rfl
  have e2 : kdF (gS l 1) = kd := by rw [f3]; obtain ⟨_, h2⟩ := h; rcases h2 with rfl | rfl <;> rfl
  have hk := form_known h
  unfold parseD
  rw [if_neg (by omega), e1, e2, if_neg (by rw [hk]; simp)]
  cases hn : numsF (l.drop 2) with
  | none => rfl
  | some ns =>
    have hl := numsF_len hn
    rw [List.length_drop] at hl
    dsimp only
    have hM := made_at hk (show ns.length = formLen op kd by omega)
    rw [if_pos (by omega)]
    have hr : rightD (madeD op kd ns) = mayD (madeD op kd ns) := by
      unfold rightD knownD
      rw [hM.op_, hM.kd_, hk, hM.keep]
      simp
    rw [hr]
theorem fits_none {l : List Bytes} (h : ∀ op kd : Int, ((op = 1 ∨ op = 2 ∨ op = 3) ∧ (kd = 1 ∨ kd = 2)) → ¬ fitsD op kd l) : parseD l = (zeroDr, 2) := by
  unfold parseD
  split
  · rfl
  · rename_i hl
    split
    · rfl
    · rename_i hk
      have hk2 : (formV (opF (gS l 0)) (kdF (gS l 1))).isSome = true := by
        cases hh : (formV (opF (gS l 0)) (kdF (gS l 1))).isSome with
        | true => rfl
        | false => exact absurd hh hk
      obtain ⟨_, _, _, _, hop, hkd⟩ := form_of hk2
      have hn := h _ _ ⟨hop, hkd⟩
      cases hns : numsF (l.drop 2) with
      | none => rfl
      | some ns =>
        have hlen := numsF_len hns
        rw [List.length_drop] at hlen
        dsimp only
        rw [if_neg]
        intro e
        exact hn ⟨by omega, (gS_opF hop).symm, (gS_kdF hkd).symm⟩
theorem rnums_sl (o k fl : Nat) (hk : ((o : Int) = 1 ∨ (o : Int) = 2 ∨ (o : Int) = 3) ∧ ((k : Int) = 1 ∨ (k : Int) = 2)) (hl : (numsD ⟨o, k, 0, 0, 0, 0, 0, 0, 0, 0, 0, 0, 0⟩).length = fl) (w : World) :
    Calls Tryz.prog 37 #[.agg #[.int .i64 (o : Int), .int .i64 (k : Int), .int .i64 0, .int .i64 0, .int .i64 0, .int .i64 0, .int .i64 0, .int .i64 0, .int .i64 0, .int .i64 0, .int .i64 0, .int .i64 0, .int .i64 0]] w fun e w' => ∃ A c, e = .returned (.slice A fl c) ∧ Below w.heap.size w w' := by
  refine (rnums_any ⟨o, k, 0, 0, 0, 0, 0, 0, 0, 0, 0, 0, 0⟩ (bare_known hk) w).mono ?_
  rintro e w1 ⟨v, rfl, hv, hb⟩
  rw [hl] at hv
  obtain ⟨A, c, rfl⟩ := slice_of_own hv
  exact ⟨A, c, rfl, hb⟩
theorem ne_str {a b : Bytes} (h : a ≠ b) : ((bs a).toList == (bs b).toList) = false := by
  rw [beq_eq_false_iff_ne]
  intro e
  exact h ((str_ne _ _).1 e)
/-- The number of the round: 2 * (op - 1) + (kd - 1). -/
def Past (l : List Bytes) (j : Nat) : Prop := ∀ op kd : Int, ((op = 1 ∨ op = 2 ∨ op = 3) ∧ (kd = 1 ∨ kd = 2)) → 2 * (op - 1) + (kd - 1) < (j : Int) → ¬ fitsD op kd l
theorem Past.next {l : List Bytes} {j : Nat} {op kd : Int} (h : Past l j) (hj : 2 * (op - 1) + (kd - 1) = (j : Int)) (hk : (op = 1 ∨ op = 2 ∨ op = 3) ∧ (kd = 1 ∨ kd = 2)) (hn : ¬ fitsD op kd l) : Past l (j + 1) := by
  intro o k hok hlt hf
  by_cases e : 2 * (o - 1) + (k - 1) = (j : Int)
  · have : o = op ∧ k = kd := by omega
    obtain ⟨rfl, rfl⟩ := this
    exact hn hf
  · exact h o k hok (by omega) hf
theorem Past.all {l : List Bytes} (h : Past l 6) : parseD l = (zeroDr, 2) := fits_none fun op kd hk => h op kd hk (by omega)
set_option maxHeartbeats 8000000 in
set_option maxRecDepth 100000 in
theorem rparse04_any (A : Option Addr) (n c : Nat) (l : List Bytes) (w : World) (hd : l.length = n) (hn : n ≤ 100000) (hsz : ∀ x ∈ l, x.length ≤ maxLen) (h : Sl w w.heap.size 1 A n c (vs l)) (z : Dr) (q : Int) (hz : parseD l = (z, q)) :
    Calls Tryz.prog 18 #[.slice A n c] w fun e w' => e = .returned (.tuple #[.agg #[.int .i64 z.op, .int .i64 z.kd, .int .i64 z.id, .int .i64 z.fr, .int .i64 z.tn, .int .i64 z.st, .int .i64 z.en, .int .i64 z.rt, .int .i64 z.rf, .int .i64 z.rn, .int .i64 z.rs, .int .i64 z.re, .int .i64 z.ro], .int .i64 q]) ∧ Below w.heap.size w w' := by
  obtain ⟨i0, hi0, hz0, hz1, hz2⟩ := info_parts infoI04
  have hX := Blok.new w 41 #[.int .i64 0, .int .i64 0, .int .i64 0, .int .i64 0, .int .i64 0, .int .i64 0, .int .i64 0, .int .i64 0, .int .i64 0, .int .i64 0, .int .i64 0, .int .i64 0, .int .i64 0]
  have hB : Below w.heap.size w (w.alloc (.cells #[.int .i64 0, .int .i64 0, .int .i64 0, .int .i64 0, .int .i64 0, .int .i64 0, .int .i64 0, .int .i64 0, .int .i64 0, .int .i64 0, .int .i64 0, .int .i64 0, .int .i64 0] 41)) := by (repeat (first | exact Below.refl _ _ | refine Below.alloc ?_ (by first | omega | (simp; done) | (simp; omega)) _ | refine Below.setCell ?_ (by first | omega | (simp; done) | (simp; omega)) _ | refine Below.drew ?_))
  have hs := hB.size
  have HD := Lib.hid hd
  have HSZ := Lib.hid hsz
  have HZ := Lib.hid hz
  have HL := Lib.hid h
  clear hd hsz hz h
  go_enter Tryz.func18, Tryz.ntmps18
  go_upto_region 1 with fail
  generalize w.alloc (.cells #[.int .i64 0, .int .i64 0, .int .i64 0, .int .i64 0, .int .i64 0, .int .i64 0, .int .i64 0, .int .i64 0, .int .i64 0, .int .i64 0, .int .i64 0, .int .i64 0, .int .i64 0] 41) = w0 at *
  have HX0 := Lib.hid hX
  have HB0 := Lib.hid hB
  have hlx := hX.lt
  clear hX hB hs
  go_wp2_with fail
  go_loopw [4] (fun ov wr => ∃ (o : Nat), ov = .int .i64 o ∧ 1 ≤ o ∧ o ≤ 4 ∧ Hid (Past l (2 * (o - 1))) ∧ Below w0.heap.size w0 wr) (fun ov _ => 4 - (intOf ov).toNat)
  case atStart => exact ⟨1, rfl, by omega, by omega, fun op kd hk hlt => by omega, Below.refl _ _⟩
  case round =>
    obtain ⟨o, rfl, ho1, ho4, HP, hB1⟩ := hrel
    by_cases ho : o ≤ 3
    · have hgo : (o : Int) ≤ 3 := by omega
      have HB1 := Lib.hid hB1
      clear hB1
      go_wp2_with fail
      go_loopw [5] (fun kv wk => ∃ (k : Nat), kv = .int .i64 k ∧ 1 ≤ k ∧ k ≤ 3 ∧ Hid (Past l (2 * (o - 1) + (k - 1))) ∧ Below w0.heap.size w0 wk) (fun kv _ => 3 - (intOf kv).toNat)
      case atStart => exact ⟨1, rfl, by omega, by omega, HP, HB1.out⟩
      case round =>
        obtain ⟨k, rfl, hk1, hk3, HQ, hB⟩ := hrel
        clear HP HB1
        have hs := hB.size
        by_cases hk : k ≤ 2
        · have hgk : (k : Int) ≤ 2 := by omega
          have hok : ((o : Int) = 1 ∨ (o : Int) = 2 ∨ (o : Int) = 3) ∧ ((k : Int) = 1 ∨ (k : Int) = 2) := by omega
          obtain ⟨fl, hfl⟩ : ∃ f, formLen (o : Int) (k : Int) = f := ⟨_, rfl⟩
          have hfb : fl ≤ 6 := by rw [← hfl]; unfold formLen; repeat' split
                                  all_goals omega
          have hbn : (numsD ⟨o, k, 0, 0, 0, 0, 0, 0, 0, 0, 0, 0, 0⟩).length = fl := by rw [bare_len hok, hfl]
          have HBN := Lib.hid hbn
          have HOK := Lib.hid hok
          have HFL := Lib.hid hfl
          clear hfl hbn hok
          obtain ⟨so, hso⟩ : ∃ s, gS opW (o : Int).toNat = s := ⟨_, rfl⟩
          obtain ⟨sk, hsk⟩ : ∃ s, gS kdW (k : Int).toNat = s := ⟨_, rfl⟩
          have HSO := Lib.hid hso
          have HSK := Lib.hid hsk
          clear hso hsk
          go_upto_region 8 with fail
          have hF := Blok.new wr 41 #[.int .i64 (o : Int), .int .i64 (k : Int), .int .i64 0, .int .i64 0, .int .i64 0, .int .i64 0, .int .i64 0, .int .i64 0, .int .i64 0, .int .i64 0, .int .i64 0, .int .i64 0, .int .i64 0]
          have hb : Below wr.heap.size wr (wr.alloc (.cells #[.int .i64 (o : Int), .int .i64 (k : Int), .int .i64 0, .int .i64 0, .int .i64 0, .int .i64 0, .int .i64 0, .int .i64 0, .int .i64 0, .int .i64 0, .int .i64 0, .int .i64 0, .int .i64 0] 41)) := by (repeat (first | exact Below.refl _ _ | refine Below.alloc ?_ (by first | omega | (simp; done) | (simp; omega)) _ | refine Below.setCell ?_ (by first | omega | (simp; done) | (simp; omega)) _ | refine Below.drew ?_))
          replace hB := hB.trans (hb.mono hs)
          replace hs := hB.size
          clear hb
          generalize wr.alloc (.cells #[.int .i64 (o : Int), .int .i64 (k : Int), .int .i64 0, .int .i64 0, .int .i64 0, .int .i64 0, .int .i64 0, .int .i64 0, .int .i64 0, .int .i64 0, .int .i64 0, .int .i64 0, .int .i64 0] 41) = w1 at *
          generalize hzz : wr.heap.size = bf at *
          clear hzz
          have y0 : w1.cell? ⟨bf, 0, none⟩ = some (.int .i64 (o : Int)) := hF.cell 0
          have y1 : w1.cell? ⟨bf, 1, none⟩ = some (.int .i64 (k : Int)) := hF.cell 1
          have y2 : w1.cell? ⟨bf, 2, none⟩ = some (.int .i64 0) := hF.cell 2
          have y3 : w1.cell? ⟨bf, 3, none⟩ = some (.int .i64 0) := hF.cell 3
          have y4 : w1.cell? ⟨bf, 4, none⟩ = some (.int .i64 0) := hF.cell 4
          have y5 : w1.cell? ⟨bf, 5, none⟩ = some (.int .i64 0) := hF.cell 5
          have y6 : w1.cell? ⟨bf, 6, none⟩ = some (.int .i64 0) := hF.cell 6
          have y7 : w1.cell? ⟨bf, 7, none⟩ = some (.int .i64 0) := hF.cell 7
          have y8 : w1.cell? ⟨bf, 8, none⟩ = some (.int .i64 0) := hF.cell 8
          have y9 : w1.cell? ⟨bf, 9, none⟩ = some (.int .i64 0) := hF.cell 9
          have y10 : w1.cell? ⟨bf, 10, none⟩ = some (.int .i64 0) := hF.cell 10
          have y11 : w1.cell? ⟨bf, 11, none⟩ = some (.int .i64 0) := hF.cell 11
          have y12 : w1.cell? ⟨bf, 12, none⟩ = some (.int .i64 0) := hF.cell 12
          have lt_y := hF.lt
          go_wp2_with fail
          clear y0 y1 y2 y3 y4 y5 y6 y7 y8 y9 y10 y11 y12 lt_y
          refine (first_any ⟨o, k, 0, 0, 0, 0, 0, 0, 0, 0, 0, 0, 0⟩ (bare_known HOK.out) w1).mono ?_
          rintro e w2 ⟨g, rfl, hown, hb⟩
          rw [show gS opW (⟨o, k, 0, 0, 0, 0, 0, 0, 0, 0, 0, 0, 0⟩ : Dr).op.toNat = so from HSO.out, show gS kdW (⟨o, k, 0, 0, 0, 0, 0, 0, 0, 0, 0, 0, 0⟩ : Dr).kd.toNat = sk from HSK.out] at hown
          replace hF := hF.below hb hF.lt
          replace hB := hB.trans (hb.mono hs)
          replace hs := hB.size
          clear hb
          have hlg := Sl.of_own hown
          have hg0 : w2.cell? ⟨g, 0, none⟩ = some (.string (bs so)) := by
            obtain ⟨ad, e, _, hc⟩ := hlg.lst.atS (k := 0) rfl (by omega)
            injection e with e
            subst e
            simpa [Addr.add, gS] using hc
          have hg1 : w2.cell? ⟨g, 1, none⟩ = some (.string (bs sk)) := by
            obtain ⟨ad, e, _, hc⟩ := hlg.lst.atS (k := 1) rfl (by omega)
            injection e with e
            subst e
            simpa [Addr.add, gS] using hc
          clear hlg hown
          have hl2 := (HL.out.up HB0.out).up hB
          have hf0 := hF
          have HB2 := Lib.hid hB
          have hs2 := hs
          by_cases hfit : fitsD (o : Int) (k : Int) l
          · obtain ⟨f1, f2, f3⟩ := hfit
            rw [HD.out, HFL.out] at f1
            rw [HSO.out] at f2
            rw [HSK.out] at f3
            have HFP := Lib.hid (fits_parse HOK.out (l := l) ⟨by rw [HD.out, HFL.out]; exact f1, by rw [HSO.out]; exact f2, by rw [HSK.out]; exact f3⟩)
            have g1 : ((n : Int) != 2 + (fl : Int)) = false := by simp; omega
            obtain ⟨ad, rfl, hab, c0⟩ := hl2.lst.atS (k := 0) HD.out (by omega)
            obtain ⟨_, ee, _, c1⟩ := hl2.lst.atS (k := 1) HD.out (by omega)
            injection ee with ee
            subst ee
            rw [add_zero_, f2] at c0
            rw [← addr_at ad 1 (by omega), f3] at c1
            have E1 := Lib.hid f1
            have y0 : w2.cell? ⟨bf, 0, none⟩ = some (.int .i64 (o : Int)) := hF.cell 0
            have y1 : w2.cell? ⟨bf, 1, none⟩ = some (.int .i64 (k : Int)) := hF.cell 1
            have y2 : w2.cell? ⟨bf, 2, none⟩ = some (.int .i64 0) := hF.cell 2
            have y3 : w2.cell? ⟨bf, 3, none⟩ = some (.int .i64 0) := hF.cell 3
            have y4 : w2.cell? ⟨bf, 4, none⟩ = some (.int .i64 0) := hF.cell 4
            have y5 : w2.cell? ⟨bf, 5, none⟩ = some (.int .i64 0) := hF.cell 5
            have y6 : w2.cell? ⟨bf, 6, none⟩ = some (.int .i64 0) := hF.cell 6
            have y7 : w2.cell? ⟨bf, 7, none⟩ = some (.int .i64 0) := hF.cell 7
            have y8 : w2.cell? ⟨bf, 8, none⟩ = some (.int .i64 0) := hF.cell 8
            have y9 : w2.cell? ⟨bf, 9, none⟩ = some (.int .i64 0) := hF.cell 9
            have y10 : w2.cell? ⟨bf, 10, none⟩ = some (.int .i64 0) := hF.cell 10
            have y11 : w2.cell? ⟨bf, 11, none⟩ = some (.int .i64 0) := hF.cell 11
            have y12 : w2.cell? ⟨bf, 12, none⟩ = some (.int .i64 0) := hF.cell 12
            have lt_y := hF.lt
            clear f1 f2 f3 hF hl2
            generalize bs so = s1 at *
            generalize bs sk = s3 at *
            go_upto_region 9 with fail
            have hwr : IntKind.i64.wrap (2 + (fl : Int)) = 2 + (fl : Int) := IntWalk.i64_in _ (by omega)
            have hn0 : (0 : Int) < (n : Int) := by have := E1.out; omega
            have hn00 : ¬ n = 0 := by have := E1.out; omega
            have hn1 : (1 : Int) < (n : Int) := by have := E1.out; omega
            have hn11 : 1 < n := by have := E1.out; omega
            refine gen_frame ?_
            intro a0 ha0
            try simp only [List.append]
            refine wp_region_frames rfl (by kernel_rfl) (by kernel_rfl) (fun V x w' => Below w2.heap.size w2 w' ∧ (V.getD 0 true = true → x 0 = .slice (some ad) n c) ∧ (V.getD 1 true = true → x 1 = .int .i64 (n : Int)) ∧ (V.getD 2 true = true → x 2 = .agg #[.int .i64 (o : Int), .int .i64 (k : Int), .int .i64 0, .int .i64 0, .int .i64 0, .int .i64 0, .int .i64 0, .int .i64 0, .int .i64 0, .int .i64 0, .int .i64 0, .int .i64 0, .int .i64 0]) ∧ (V.getD 3 true = true → ∃ A8 c8, x 3 = .slice A8 fl c8) ∧ (V.getD 4 true = true → x 4 = .int .i64 (fl : Int)) ∧ (V.getD 5 true = true → x 5 = .int .i64 (2 + (fl : Int))) ∧ (V.getD 6 true = true → x 6 = .bool false) ∧ (V.getD 7 true = true → x 7 = .bool false) ∧ (V.getD 8 true = true → x 8 = .slice (some ad) n c) ∧ (V.getD 9 true = true → x 9 = .pointer (some ad)) ∧ (V.getD 10 true = true → x 10 = .string s1) ∧ (V.getD 11 true = true → x 11 = .slice (some ⟨g, 0, none⟩) 2 2) ∧ (V.getD 12 true = true → x 12 = .pointer (some ⟨g, 0, none⟩)) ∧ (V.getD 13 true = true → x 13 = .string s1) ∧ (V.getD 14 true = true → x 14 = .bool false) ∧ (V.getD 15 true = true → x 15 = .bool false) ∧ (V.getD 16 true = true → x 16 = .bool false) ∧ (V.getD 17 true = true → x 17 = .slice (some ad) n c) ∧ (V.getD 18 true = true → x 18 = .pointer (some ⟨ad.block, ad.off + 1, none⟩)) ∧ (V.getD 19 true = true → x 19 = .string s3) ∧ (V.getD 20 true = true → x 20 = .slice (some ⟨g, 0, none⟩) 2 2) ∧ (V.getD 21 true = true → x 21 = .pointer (some ⟨g, 1, none⟩)) ∧ (V.getD 22 true = true → x 22 = .string s3) ∧ (V.getD 23 true = true → x 23 = .bool false) ∧ (V.getD 24 true = true → x 24 = .bool false)) ?_ ?_ ?_
            · intro x
              refine ⟨(Below.refl _ _).drew, ?_, ?_, ?_, ?_, ?_, ?_, ?_, ?_, ?_, ?_, ?_, ?_, ?_, ?_, ?_, ?_, ?_, ?_, ?_, ?_, ?_, ?_, ?_, ?_, ?_⟩ <;> exact fun h => by simp at h
            · intro V x b w' hbq hsz hF i hi hun haf hcl
              obtain ⟨hBw, f0, f1, f2, f3, f4, f5, f6, f7, f8, f9, f10, f11, f12, f13, f14, f15, f16, f17, f18, f19, f20, f21, f22, f23, f24⟩ := hF
              have hbe : b = putAll a0 [some 26, some 27, some 28, some 29, some 30, some 31, some 32, some 33, some 34, some 35, some 36, some 37, some 38, some 39, some 40, some 41, some 42, some 43, some 44, some 45, some 46, some 47, some 48, some 49, some 50] x 0 := hbq
              have hz0 : a0.tmps.size = 82 := by rw [ha0]; rfl
              have e0 : b.eval (.tmp 0) = .slice (some ad) n c := by rw [hbe, eval_out _ _ _ (by decide), ha0]; rfl
              have t0 : b.tmps[0]?.getD undef = .slice (some ad) n c := by simpa [Act.eval] using e0
              have e6 : b.eval (.tmp 6) = .pointer (some ⟨bf, 0, none⟩) := by rw [hbe, eval_out _ _ _ (by decide), ha0]; rfl
              have t6 : b.tmps[6]?.getD undef = .pointer (some ⟨bf, 0, none⟩) := by simpa [Act.eval] using e6
              have e7 : b.eval (.tmp 7) = .slice (some ⟨g, 0, none⟩) 2 2 := by rw [hbe, eval_out _ _ _ (by decide), ha0]; rfl
              have t7 : b.tmps[7]?.getD undef = .slice (some ⟨g, 0, none⟩) 2 2 := by simpa [Act.eval] using e7
              clear hbq
              have hi' : i < 25 := hi
              clear hi
              obtain rfl | rfl | rfl | rfl | rfl | rfl | rfl | rfl | rfl | rfl | rfl | rfl | rfl | rfl | rfl | rfl | rfl | rfl | rfl | rfl | rfl | rfl | rfl | rfl | rfl : i = 0 ∨ i = 1 ∨ i = 2 ∨ i = 3 ∨ i = 4 ∨ i = 5 ∨ i = 6 ∨ i = 7 ∨ i = 8 ∨ i = 9 ∨ i = 10 ∨ i = 11 ∨ i = 12 ∨ i = 13 ∨ i = 14 ∨ i = 15 ∨ i = 16 ∨ i = 17 ∨ i = 18 ∨ i = 19 ∨ i = 20 ∨ i = 21 ∨ i = 22 ∨ i = 23 ∨ i = 24 := by omega
              · refine wpOp_runs (v := .slice (some ad) n c) rfl rfl (by simp [execOp, go_sem, t0]) ⟨_, _, rfl, rfl, ⟨hBw, fun _ => upd_same _ _ _, kE f1 rfl, kE f2 rfl, fun h => by obtain ⟨A8, c8, hx⟩ := f3 (by rw [← getD_set_ne true (show 0 ≠ 3 by decide)]; exact h); exact ⟨A8, c8, by rw [upd_ne x _ (by decide)]; exact hx⟩, kE f4 rfl, kE f5 rfl, kE f6 rfl, kE f7 rfl, kE f8 rfl, kE f9 rfl, kE f10 rfl, kE f11 rfl, kE f12 rfl, kE f13 rfl, kE f14 rfl, kE f15 rfl, kE f16 rfl, kE f17 rfl, kE f18 rfl, kE f19 rfl, kE f20 rfl, kE f21 rfl, kE f22 rfl, kE f23 rfl, kE f24 rfl⟩⟩
              · have d0 := getD_ft (haf _ rfl ⟨0, .data⟩ (by simp) rfl)
                have e26 : b.eval (.tmp 26) = .slice (some ad) n c := by rw [hbe, eval_in _ _ _ 0 (by decide) rfl (by rw [hz0]; decide)]; exact f0 d0
                have t26 : b.tmps[26]?.getD undef = .slice (some ad) n c := by have tv := e26; simpa only [Act.eval, Array.getD_eq_getD_getElem?] using tv
                refine wpOp_runs (v := .int .i64 (n : Int)) rfl rfl (by simp [execOp, go_sem, t26]) ⟨_, _, rfl, rfl, ⟨hBw, kE f0 rfl, fun _ => upd_same _ _ _, kE f2 rfl, fun h => by obtain ⟨A8, c8, hx⟩ := f3 (by rw [← getD_set_ne true (show 1 ≠ 3 by decide)]; exact h); exact ⟨A8, c8, by rw [upd_ne x _ (by decide)]; exact hx⟩, kE f4 rfl, kE f5 rfl, kE f6 rfl, kE f7 rfl, kE f8 rfl, kE f9 rfl, kE f10 rfl, kE f11 rfl, kE f12 rfl, kE f13 rfl, kE f14 rfl, kE f15 rfl, kE f16 rfl, kE f17 rfl, kE f18 rfl, kE f19 rfl, kE f20 rfl, kE f21 rfl, kE f22 rfl, kE f23 rfl, kE f24 rfl⟩⟩
              · have rr0 := (hBw.cell (block_lt_of_cell y0)).trans y0
                have rr1 := (hBw.cell (block_lt_of_cell y1)).trans y1
                have rr2 := (hBw.cell (block_lt_of_cell y2)).trans y2
                have rr3 := (hBw.cell (block_lt_of_cell y3)).trans y3
                have rr4 := (hBw.cell (block_lt_of_cell y4)).trans y4
                have rr5 := (hBw.cell (block_lt_of_cell y5)).trans y5
                have rr6 := (hBw.cell (block_lt_of_cell y6)).trans y6
                have rr7 := (hBw.cell (block_lt_of_cell y7)).trans y7
                have rr8 := (hBw.cell (block_lt_of_cell y8)).trans y8
                have rr9 := (hBw.cell (block_lt_of_cell y9)).trans y9
                have rr10 := (hBw.cell (block_lt_of_cell y10)).trans y10
                have rr11 := (hBw.cell (block_lt_of_cell y11)).trans y11
                have rr12 := (hBw.cell (block_lt_of_cell y12)).trans y12
                refine wpOp_runs (v := .agg #[.int .i64 (o : Int), .int .i64 (k : Int), .int .i64 0, .int .i64 0, .int .i64 0, .int .i64 0, .int .i64 0, .int .i64 0, .int .i64 0, .int .i64 0, .int .i64 0, .int .i64 0, .int .i64 0]) rfl rfl (by simp [execOp, go_sem, t6, rr0, rr1, rr2, rr3, rr4, rr5, rr6, rr7, rr8, rr9, rr10, rr11, rr12]) ⟨_, _, rfl, rfl, ⟨hBw, kE f0 rfl, kE f1 rfl, fun _ => upd_same _ _ _, fun h => by obtain ⟨A8, c8, hx⟩ := f3 (by rw [← getD_set_ne true (show 2 ≠ 3 by decide)]; exact h); exact ⟨A8, c8, by rw [upd_ne x _ (by decide)]; exact hx⟩, kE f4 rfl, kE f5 rfl, kE f6 rfl, kE f7 rfl, kE f8 rfl, kE f9 rfl, kE f10 rfl, kE f11 rfl, kE f12 rfl, kE f13 rfl, kE f14 rfl, kE f15 rfl, kE f16 rfl, kE f17 rfl, kE f18 rfl, kE f19 rfl, kE f20 rfl, kE f21 rfl, kE f22 rfl, kE f23 rfl, kE f24 rfl⟩⟩
              · have d2 := getD_ft (haf _ rfl ⟨2, .data⟩ (by simp) rfl)
                have e28 : b.eval (.tmp 28) = .agg #[.int .i64 (o : Int), .int .i64 (k : Int), .int .i64 0, .int .i64 0, .int .i64 0, .int .i64 0, .int .i64 0, .int .i64 0, .int .i64 0, .int .i64 0, .int .i64 0, .int .i64 0, .int .i64 0] := by rw [hbe, eval_in _ _ _ 2 (by decide) rfl (by rw [hz0]; decide)]; exact f2 d2
                have t28 : b.tmps[28]?.getD undef = .agg #[.int .i64 (o : Int), .int .i64 (k : Int), .int .i64 0, .int .i64 0, .int .i64 0, .int .i64 0, .int .i64 0, .int .i64 0, .int .i64 0, .int .i64 0, .int .i64 0, .int .i64 0, .int .i64 0] := by have tv := e28; simpa only [Act.eval, Array.getD_eq_getD_getElem?] using tv
                refine wpOp_call_on rfl (by simp [Region.wanted]) 37 #[.tmp 28] _ rfl #[.agg #[.int .i64 (o : Int), .int .i64 (k : Int), .int .i64 0, .int .i64 0, .int .i64 0, .int .i64 0, .int .i64 0, .int .i64 0, .int .i64 0, .int .i64 0, .int .i64 0, .int .i64 0, .int .i64 0]] (by simp [e28]) Tryz.func37 rfl rfl ?_
                refine (rnums_sl o k fl HOK.out HBN.out w').mono ?_
                rintro e w'' ⟨A8, c8, rfl, hb⟩
                exact ⟨_, rfl, _, _, rfl, rfl, ⟨hBw.trans (hb.mono hBw.size), kE f0 rfl, kE f1 rfl, kE f2 rfl, fun _ => ⟨A8, c8, upd_same _ _ _⟩, kE f4 rfl, kE f5 rfl, kE f6 rfl, kE f7 rfl, kE f8 rfl, kE f9 rfl, kE f10 rfl, kE f11 rfl, kE f12 rfl, kE f13 rfl, kE f14 rfl, kE f15 rfl, kE f16 rfl, kE f17 rfl, kE f18 rfl, kE f19 rfl, kE f20 rfl, kE f21 rfl, kE f22 rfl, kE f23 rfl, kE f24 rfl⟩⟩
              · have d3 := getD_ft (haf _ rfl ⟨3, .data⟩ (by simp) rfl)
                obtain ⟨A8, c8, hx⟩ := f3 d3
                have e29 : b.eval (.tmp 29) = .slice A8 fl c8 := by rw [hbe, eval_in _ _ _ 3 (by decide) rfl (by rw [hz0]; decide)]; exact hx
                have t29 : b.tmps[29]?.getD undef = .slice A8 fl c8 := by have tv := e29; simpa only [Act.eval, Array.getD_eq_getD_getElem?] using tv
                refine wpOp_runs (v := .int .i64 (fl : Int)) rfl rfl (by simp [execOp, go_sem, t29]) ⟨_, _, rfl, rfl, ⟨hBw, kE f0 rfl, kE f1 rfl, kE f2 rfl, fun h => by obtain ⟨A8, c8, hx⟩ := f3 (by rw [← getD_set_ne true (show 4 ≠ 3 by decide)]; exact h); exact ⟨A8, c8, by rw [upd_ne x _ (by decide)]; exact hx⟩, fun _ => upd_same _ _ _, kE f5 rfl, kE f6 rfl, kE f7 rfl, kE f8 rfl, kE f9 rfl, kE f10 rfl, kE f11 rfl, kE f12 rfl, kE f13 rfl, kE f14 rfl, kE f15 rfl, kE f16 rfl, kE f17 rfl, kE f18 rfl, kE f19 rfl, kE f20 rfl, kE f21 rfl, kE f22 rfl, kE f23 rfl, kE f24 rfl⟩⟩
              · have d4 := getD_ft (haf _ rfl ⟨4, .data⟩ (by simp) rfl)
                have e30 : b.eval (.tmp 30) = .int .i64 (fl : Int) := by rw [hbe, eval_in _ _ _ 4 (by decide) rfl (by rw [hz0]; decide)]; exact f4 d4
                have t30 : b.tmps[30]?.getD undef = .int .i64 (fl : Int) := by have tv := e30; simpa only [Act.eval, Array.getD_eq_getD_getElem?] using tv
                refine wpOp_runs (v := .int .i64 (2 + (fl : Int))) rfl rfl (by simp [execOp, go_sem, t30, hwr]) ⟨_, _, rfl, rfl, ⟨hBw, kE f0 rfl, kE f1 rfl, kE f2 rfl, fun h => by obtain ⟨A8, c8, hx⟩ := f3 (by rw [← getD_set_ne true (show 5 ≠ 3 by decide)]; exact h); exact ⟨A8, c8, by rw [upd_ne x _ (by decide)]; exact hx⟩, kE f4 rfl, fun _ => upd_same _ _ _, kE f6 rfl, kE f7 rfl, kE f8 rfl, kE f9 rfl, kE f10 rfl, kE f11 rfl, kE f12 rfl, kE f13 rfl, kE f14 rfl, kE f15 rfl, kE f16 rfl, kE f17 rfl, kE f18 rfl, kE f19 rfl, kE f20 rfl, kE f21 rfl, kE f22 rfl, kE f23 rfl, kE f24 rfl⟩⟩
              · have d1 := getD_ft (haf _ rfl ⟨1, .data⟩ (by simp) rfl)
                have e27 : b.eval (.tmp 27) = .int .i64 (n : Int) := by rw [hbe, eval_in _ _ _ 1 (by decide) rfl (by rw [hz0]; decide)]; exact f1 d1
                have t27 : b.tmps[27]?.getD undef = .int .i64 (n : Int) := by have tv := e27; simpa only [Act.eval, Array.getD_eq_getD_getElem?] using tv
                have d5 := getD_ft (haf _ rfl ⟨5, .data⟩ (by simp) rfl)
                have e31 : b.eval (.tmp 31) = .int .i64 (2 + (fl : Int)) := by rw [hbe, eval_in _ _ _ 5 (by decide) rfl (by rw [hz0]; decide)]; exact f5 d5
                have t31 : b.tmps[31]?.getD undef = .int .i64 (2 + (fl : Int)) := by have tv := e31; simpa only [Act.eval, Array.getD_eq_getD_getElem?] using tv
                refine wpOp_runs (v := .bool false) rfl rfl (by simp [execOp, go_sem, t27, t31, g1]) ⟨_, _, rfl, rfl, ⟨hBw, kE f0 rfl, kE f1 rfl, kE f2 rfl, fun h => by obtain ⟨A8, c8, hx⟩ := f3 (by rw [← getD_set_ne true (show 6 ≠ 3 by decide)]; exact h); exact ⟨A8, c8, by rw [upd_ne x _ (by decide)]; exact hx⟩, kE f4 rfl, kE f5 rfl, fun _ => upd_same _ _ _, kE f7 rfl, kE f8 rfl, kE f9 rfl, kE f10 rfl, kE f11 rfl, kE f12 rfl, kE f13 rfl, kE f14 rfl, kE f15 rfl, kE f16 rfl, kE f17 rfl, kE f18 rfl, kE f19 rfl, kE f20 rfl, kE f21 rfl, kE f22 rfl, kE f23 rfl, kE f24 rfl⟩⟩
              · have d6 := getD_ft (haf _ rfl ⟨6, .data⟩ (by simp) rfl)
                have e32 : b.eval (.tmp 32) = .bool false := by rw [hbe, eval_in _ _ _ 6 (by decide) rfl (by rw [hz0]; decide)]; exact f6 d6
                have t32 : b.tmps[32]?.getD undef = .bool false := by have tv := e32; simpa only [Act.eval, Array.getD_eq_getD_getElem?] using tv
                refine wpOp_runs (v := .bool false) rfl rfl (by simp [execOp, go_sem, t32]) ⟨_, _, rfl, rfl, ⟨hBw, kE f0 rfl, kE f1 rfl, kE f2 rfl, fun h => by obtain ⟨A8, c8, hx⟩ := f3 (by rw [← getD_set_ne true (show 7 ≠ 3 by decide)]; exact h); exact ⟨A8, c8, by rw [upd_ne x _ (by decide)]; exact hx⟩, kE f4 rfl, kE f5 rfl, kE f6 rfl, fun _ => upd_same _ _ _, kE f8 rfl, kE f9 rfl, kE f10 rfl, kE f11 rfl, kE f12 rfl, kE f13 rfl, kE f14 rfl, kE f15 rfl, kE f16 rfl, kE f17 rfl, kE f18 rfl, kE f19 rfl, kE f20 rfl, kE f21 rfl, kE f22 rfl, kE f23 rfl, kE f24 rfl⟩⟩
              · have d7 := getD_ft (haf _ rfl ⟨7, .guard⟩ (by simp) rfl)
                have e33 : b.eval (.tmp 33) = .bool false := by rw [hbe, eval_in _ _ _ 7 (by decide) rfl (by rw [hz0]; decide)]; exact f7 d7
                have t33 : b.tmps[33]?.getD undef = .bool false := by have tv := e33; simpa only [Act.eval, Array.getD_eq_getD_getElem?] using tv
                refine wpOp_runs_on (v := .slice (some ad) n c) rfl (wanted_on rfl rfl rfl t33) (by simp [execOp, go_sem, t0]) ⟨_, _, rfl, rfl, ⟨hBw, kE f0 rfl, kE f1 rfl, kE f2 rfl, fun h => by obtain ⟨A8, c8, hx⟩ := f3 (by rw [← getD_set_ne true (show 8 ≠ 3 by decide)]; exact h); exact ⟨A8, c8, by rw [upd_ne x _ (by decide)]; exact hx⟩, kE f4 rfl, kE f5 rfl, kE f6 rfl, kE f7 rfl, fun _ => upd_same _ _ _, kE f9 rfl, kE f10 rfl, kE f11 rfl, kE f12 rfl, kE f13 rfl, kE f14 rfl, kE f15 rfl, kE f16 rfl, kE f17 rfl, kE f18 rfl, kE f19 rfl, kE f20 rfl, kE f21 rfl, kE f22 rfl, kE f23 rfl, kE f24 rfl⟩⟩
              · have d7 := getD_ft (haf _ rfl ⟨7, .guard⟩ (by simp) rfl)
                have e33 : b.eval (.tmp 33) = .bool false := by rw [hbe, eval_in _ _ _ 7 (by decide) rfl (by rw [hz0]; decide)]; exact f7 d7
                have t33 : b.tmps[33]?.getD undef = .bool false := by have tv := e33; simpa only [Act.eval, Array.getD_eq_getD_getElem?] using tv
                have d8 := getD_ft (haf _ rfl ⟨8, .data⟩ (by simp) rfl)
                have e34 : b.eval (.tmp 34) = .slice (some ad) n c := by rw [hbe, eval_in _ _ _ 8 (by decide) rfl (by rw [hz0]; decide)]; exact f8 d8
                have t34 : b.tmps[34]?.getD undef = .slice (some ad) n c := by have tv := e34; simpa only [Act.eval, Array.getD_eq_getD_getElem?] using tv
                refine wpOp_runs_on (v := .pointer (some ad)) rfl (wanted_on rfl rfl rfl t33) (by simp [execOp, go_sem, t34, hn0, hn00, add_zero_]) ⟨_, _, rfl, rfl, ⟨hBw, kE f0 rfl, kE f1 rfl, kE f2 rfl, fun h => by obtain ⟨A8, c8, hx⟩ := f3 (by rw [← getD_set_ne true (show 9 ≠ 3 by decide)]; exact h); exact ⟨A8, c8, by rw [upd_ne x _ (by decide)]; exact hx⟩, kE f4 rfl, kE f5 rfl, kE f6 rfl, kE f7 rfl, kE f8 rfl, fun _ => upd_same _ _ _, kE f10 rfl, kE f11 rfl, kE f12 rfl, kE f13 rfl, kE f14 rfl, kE f15 rfl, kE f16 rfl, kE f17 rfl, kE f18 rfl, kE f19 rfl, kE f20 rfl, kE f21 rfl, kE f22 rfl, kE f23 rfl, kE f24 rfl⟩⟩
              · have d7 := getD_ft (haf _ rfl ⟨7, .guard⟩ (by simp) rfl)
                have e33 : b.eval (.tmp 33) = .bool false := by rw [hbe, eval_in _ _ _ 7 (by decide) rfl (by rw [hz0]; decide)]; exact f7 d7
                have t33 : b.tmps[33]?.getD undef = .bool false := by have tv := e33; simpa only [Act.eval, Array.getD_eq_getD_getElem?] using tv
                have d9 := getD_ft (haf _ rfl ⟨9, .data⟩ (by simp) rfl)
                have e35 : b.eval (.tmp 35) = .pointer (some ad) := by rw [hbe, eval_in _ _ _ 9 (by decide) rfl (by rw [hz0]; decide)]; exact f9 d9
                have t35 : b.tmps[35]?.getD undef = .pointer (some ad) := by have tv := e35; simpa only [Act.eval, Array.getD_eq_getD_getElem?] using tv
                have rr := (hBw.cell (block_lt_of_cell c0)).trans c0
                refine wpOp_runs_on (v := .string s1) rfl (wanted_on rfl rfl rfl t33) (by simp [execOp, go_sem, t35, rr]) ⟨_, _, rfl, rfl, ⟨hBw, kE f0 rfl, kE f1 rfl, kE f2 rfl, fun h => by obtain ⟨A8, c8, hx⟩ := f3 (by rw [← getD_set_ne true (show 10 ≠ 3 by decide)]; exact h); exact ⟨A8, c8, by rw [upd_ne x _ (by decide)]; exact hx⟩, kE f4 rfl, kE f5 rfl, kE f6 rfl, kE f7 rfl, kE f8 rfl, kE f9 rfl, fun _ => upd_same _ _ _, kE f11 rfl, kE f12 rfl, kE f13 rfl, kE f14 rfl, kE f15 rfl, kE f16 rfl, kE f17 rfl, kE f18 rfl, kE f19 rfl, kE f20 rfl, kE f21 rfl, kE f22 rfl, kE f23 rfl, kE f24 rfl⟩⟩
              · have d7 := getD_ft (haf _ rfl ⟨7, .guard⟩ (by simp) rfl)
                have e33 : b.eval (.tmp 33) = .bool false := by rw [hbe, eval_in _ _ _ 7 (by decide) rfl (by rw [hz0]; decide)]; exact f7 d7
                have t33 : b.tmps[33]?.getD undef = .bool false := by have tv := e33; simpa only [Act.eval, Array.getD_eq_getD_getElem?] using tv
                refine wpOp_runs_on (v := .slice (some ⟨g, 0, none⟩) 2 2) rfl (wanted_on rfl rfl rfl t33) (by simp [execOp, go_sem, t7]) ⟨_, _, rfl, rfl, ⟨hBw, kE f0 rfl, kE f1 rfl, kE f2 rfl, fun h => by obtain ⟨A8, c8, hx⟩ := f3 (by rw [← getD_set_ne true (show 11 ≠ 3 by decide)]; exact h); exact ⟨A8, c8, by rw [upd_ne x _ (by decide)]; exact hx⟩, kE f4 rfl, kE f5 rfl, kE f6 rfl, kE f7 rfl, kE f8 rfl, kE f9 rfl, kE f10 rfl, fun _ => upd_same _ _ _, kE f12 rfl, kE f13 rfl, kE f14 rfl, kE f15 rfl, kE f16 rfl, kE f17 rfl, kE f18 rfl, kE f19 rfl, kE f20 rfl, kE f21 rfl, kE f22 rfl, kE f23 rfl, kE f24 rfl⟩⟩
              · have d7 := getD_ft (haf _ rfl ⟨7, .guard⟩ (by simp) rfl)
                have e33 : b.eval (.tmp 33) = .bool false := by rw [hbe, eval_in _ _ _ 7 (by decide) rfl (by rw [hz0]; decide)]; exact f7 d7
                have t33 : b.tmps[33]?.getD undef = .bool false := by have tv := e33; simpa only [Act.eval, Array.getD_eq_getD_getElem?] using tv
                have d11 := getD_ft (haf _ rfl ⟨11, .data⟩ (by simp) rfl)
                have e37 : b.eval (.tmp 37) = .slice (some ⟨g, 0, none⟩) 2 2 := by rw [hbe, eval_in _ _ _ 11 (by decide) rfl (by rw [hz0]; decide)]; exact f11 d11
                have t37 : b.tmps[37]?.getD undef = .slice (some ⟨g, 0, none⟩) 2 2 := by have tv := e37; simpa only [Act.eval, Array.getD_eq_getD_getElem?] using tv
                refine wpOp_runs_on (v := .pointer (some ⟨g, 0, none⟩)) rfl (wanted_on rfl rfl rfl t33) (by simp [execOp, go_sem, t37]) ⟨_, _, rfl, rfl, ⟨hBw, kE f0 rfl, kE f1 rfl, kE f2 rfl, fun h => by obtain ⟨A8, c8, hx⟩ := f3 (by rw [← getD_set_ne true (show 12 ≠ 3 by decide)]; exact h); exact ⟨A8, c8, by rw [upd_ne x _ (by decide)]; exact hx⟩, kE f4 rfl, kE f5 rfl, kE f6 rfl, kE f7 rfl, kE f8 rfl, kE f9 rfl, kE f10 rfl, kE f11 rfl, fun _ => upd_same _ _ _, kE f13 rfl, kE f14 rfl, kE f15 rfl, kE f16 rfl, kE f17 rfl, kE f18 rfl, kE f19 rfl, kE f20 rfl, kE f21 rfl, kE f22 rfl, kE f23 rfl, kE f24 rfl⟩⟩
              · have d7 := getD_ft (haf _ rfl ⟨7, .guard⟩ (by simp) rfl)
                have e33 : b.eval (.tmp 33) = .bool false := by rw [hbe, eval_in _ _ _ 7 (by decide) rfl (by rw [hz0]; decide)]; exact f7 d7
                have t33 : b.tmps[33]?.getD undef = .bool false := by have tv := e33; simpa only [Act.eval, Array.getD_eq_getD_getElem?] using tv
                have d12 := getD_ft (haf _ rfl ⟨12, .data⟩ (by simp) rfl)
                have e38 : b.eval (.tmp 38) = .pointer (some ⟨g, 0, none⟩) := by rw [hbe, eval_in _ _ _ 12 (by decide) rfl (by rw [hz0]; decide)]; exact f12 d12
                have t38 : b.tmps[38]?.getD undef = .pointer (some ⟨g, 0, none⟩) := by have tv := e38; simpa only [Act.eval, Array.getD_eq_getD_getElem?] using tv
                have rr := (hBw.cell (block_lt_of_cell hg0)).trans hg0
                refine wpOp_runs_on (v := .string s1) rfl (wanted_on rfl rfl rfl t33) (by simp [execOp, go_sem, t38, rr]) ⟨_, _, rfl, rfl, ⟨hBw, kE f0 rfl, kE f1 rfl, kE f2 rfl, fun h => by obtain ⟨A8, c8, hx⟩ := f3 (by rw [← getD_set_ne true (show 13 ≠ 3 by decide)]; exact h); exact ⟨A8, c8, by rw [upd_ne x _ (by decide)]; exact hx⟩, kE f4 rfl, kE f5 rfl, kE f6 rfl, kE f7 rfl, kE f8 rfl, kE f9 rfl, kE f10 rfl, kE f11 rfl, kE f12 rfl, fun _ => upd_same _ _ _, kE f14 rfl, kE f15 rfl, kE f16 rfl, kE f17 rfl, kE f18 rfl, kE f19 rfl, kE f20 rfl, kE f21 rfl, kE f22 rfl, kE f23 rfl, kE f24 rfl⟩⟩
              · have d7 := getD_ft (haf _ rfl ⟨7, .guard⟩ (by simp) rfl)
                have e33 : b.eval (.tmp 33) = .bool false := by rw [hbe, eval_in _ _ _ 7 (by decide) rfl (by rw [hz0]; decide)]; exact f7 d7
                have t33 : b.tmps[33]?.getD undef = .bool false := by have tv := e33; simpa only [Act.eval, Array.getD_eq_getD_getElem?] using tv
                have d10 := getD_ft (haf _ rfl ⟨10, .data⟩ (by simp) rfl)
                have e36 : b.eval (.tmp 36) = .string s1 := by rw [hbe, eval_in _ _ _ 10 (by decide) rfl (by rw [hz0]; decide)]; exact f10 d10
                have t36 : b.tmps[36]?.getD undef = .string s1 := by have tv := e36; simpa only [Act.eval, Array.getD_eq_getD_getElem?] using tv
                have d13 := getD_ft (haf _ rfl ⟨13, .data⟩ (by simp) rfl)
                have e39 : b.eval (.tmp 39) = .string s1 := by rw [hbe, eval_in _ _ _ 13 (by decide) rfl (by rw [hz0]; decide)]; exact f13 d13
                have t39 : b.tmps[39]?.getD undef = .string s1 := by have tv := e39; simpa only [Act.eval, Array.getD_eq_getD_getElem?] using tv
                refine wpOp_runs_on (v := .bool false) rfl (wanted_on rfl rfl rfl t33) (by simp [execOp, go_sem, t36, t39]) ⟨_, _, rfl, rfl, ⟨hBw, kE f0 rfl, kE f1 rfl, kE f2 rfl, fun h => by obtain ⟨A8, c8, hx⟩ := f3 (by rw [← getD_set_ne true (show 14 ≠ 3 by decide)]; exact h); exact ⟨A8, c8, by rw [upd_ne x _ (by decide)]; exact hx⟩, kE f4 rfl, kE f5 rfl, kE f6 rfl, kE f7 rfl, kE f8 rfl, kE f9 rfl, kE f10 rfl, kE f11 rfl, kE f12 rfl, kE f13 rfl, fun _ => upd_same _ _ _, kE f15 rfl, kE f16 rfl, kE f17 rfl, kE f18 rfl, kE f19 rfl, kE f20 rfl, kE f21 rfl, kE f22 rfl, kE f23 rfl, kE f24 rfl⟩⟩
              · have d7 := getD_ft (haf _ rfl ⟨7, .data⟩ (by simp) rfl)
                have e33 : b.eval (.tmp 33) = .bool false := by rw [hbe, eval_in _ _ _ 7 (by decide) rfl (by rw [hz0]; decide)]; exact f7 d7
                have t33 : b.tmps[33]?.getD undef = .bool false := by have tv := e33; simpa only [Act.eval, Array.getD_eq_getD_getElem?] using tv
                have d14 := getD_ft (haf _ rfl ⟨14, .data⟩ (by simp) rfl)
                have e40 : b.eval (.tmp 40) = .bool false := by rw [hbe, eval_in _ _ _ 14 (by decide) rfl (by rw [hz0]; decide)]; exact f14 d14
                have t40 : b.tmps[40]?.getD undef = .bool false := by have tv := e40; simpa only [Act.eval, Array.getD_eq_getD_getElem?] using tv
                refine wpOp_runs (v := .bool false) rfl rfl (by simp [execOp, go_sem, t33, t40]) ⟨_, _, rfl, rfl, ⟨hBw, kE f0 rfl, kE f1 rfl, kE f2 rfl, fun h => by obtain ⟨A8, c8, hx⟩ := f3 (by rw [← getD_set_ne true (show 15 ≠ 3 by decide)]; exact h); exact ⟨A8, c8, by rw [upd_ne x _ (by decide)]; exact hx⟩, kE f4 rfl, kE f5 rfl, kE f6 rfl, kE f7 rfl, kE f8 rfl, kE f9 rfl, kE f10 rfl, kE f11 rfl, kE f12 rfl, kE f13 rfl, kE f14 rfl, fun _ => upd_same _ _ _, kE f16 rfl, kE f17 rfl, kE f18 rfl, kE f19 rfl, kE f20 rfl, kE f21 rfl, kE f22 rfl, kE f23 rfl, kE f24 rfl⟩⟩
              · have d15 := getD_ft (haf _ rfl ⟨15, .data⟩ (by simp) rfl)
                have e41 : b.eval (.tmp 41) = .bool false := by rw [hbe, eval_in _ _ _ 15 (by decide) rfl (by rw [hz0]; decide)]; exact f15 d15
                have t41 : b.tmps[41]?.getD undef = .bool false := by have tv := e41; simpa only [Act.eval, Array.getD_eq_getD_getElem?] using tv
                refine wpOp_runs (v := .bool false) rfl rfl (by simp [execOp, go_sem, t41]) ⟨_, _, rfl, rfl, ⟨hBw, kE f0 rfl, kE f1 rfl, kE f2 rfl, fun h => by obtain ⟨A8, c8, hx⟩ := f3 (by rw [← getD_set_ne true (show 16 ≠ 3 by decide)]; exact h); exact ⟨A8, c8, by rw [upd_ne x _ (by decide)]; exact hx⟩, kE f4 rfl, kE f5 rfl, kE f6 rfl, kE f7 rfl, kE f8 rfl, kE f9 rfl, kE f10 rfl, kE f11 rfl, kE f12 rfl, kE f13 rfl, kE f14 rfl, kE f15 rfl, fun _ => upd_same _ _ _, kE f17 rfl, kE f18 rfl, kE f19 rfl, kE f20 rfl, kE f21 rfl, kE f22 rfl, kE f23 rfl, kE f24 rfl⟩⟩
              · have d16 := getD_ft (haf _ rfl ⟨16, .guard⟩ (by simp) rfl)
                have e42 : b.eval (.tmp 42) = .bool false := by rw [hbe, eval_in _ _ _ 16 (by decide) rfl (by rw [hz0]; decide)]; exact f16 d16
                have t42 : b.tmps[42]?.getD undef = .bool false := by have tv := e42; simpa only [Act.eval, Array.getD_eq_getD_getElem?] using tv
                refine wpOp_runs_on (v := .slice (some ad) n c) rfl (wanted_on rfl rfl rfl t42) (by simp [execOp, go_sem, t0]) ⟨_, _, rfl, rfl, ⟨hBw, kE f0 rfl, kE f1 rfl, kE f2 rfl, fun h => by obtain ⟨A8, c8, hx⟩ := f3 (by rw [← getD_set_ne true (show 17 ≠ 3 by decide)]; exact h); exact ⟨A8, c8, by rw [upd_ne x _ (by decide)]; exact hx⟩, kE f4 rfl, kE f5 rfl, kE f6 rfl, kE f7 rfl, kE f8 rfl, kE f9 rfl, kE f10 rfl, kE f11 rfl, kE f12 rfl, kE f13 rfl, kE f14 rfl, kE f15 rfl, kE f16 rfl, fun _ => upd_same _ _ _, kE f18 rfl, kE f19 rfl, kE f20 rfl, kE f21 rfl, kE f22 rfl, kE f23 rfl, kE f24 rfl⟩⟩
              · have d16 := getD_ft (haf _ rfl ⟨16, .guard⟩ (by simp) rfl)
                have e42 : b.eval (.tmp 42) = .bool false := by rw [hbe, eval_in _ _ _ 16 (by decide) rfl (by rw [hz0]; decide)]; exact f16 d16
                have t42 : b.tmps[42]?.getD undef = .bool false := by have tv := e42; simpa only [Act.eval, Array.getD_eq_getD_getElem?] using tv
                have d17 := getD_ft (haf _ rfl ⟨17, .data⟩ (by simp) rfl)
                have e43 : b.eval (.tmp 43) = .slice (some ad) n c := by rw [hbe, eval_in _ _ _ 17 (by decide) rfl (by rw [hz0]; decide)]; exact f17 d17
                have t43 : b.tmps[43]?.getD undef = .slice (some ad) n c := by have tv := e43; simpa only [Act.eval, Array.getD_eq_getD_getElem?] using tv
                refine wpOp_runs_on (v := .pointer (some ⟨ad.block, ad.off + 1, none⟩)) rfl (wanted_on rfl rfl rfl t42) (by simp [execOp, go_sem, t43, hn1, hn11]) ⟨_, _, rfl, rfl, ⟨hBw, kE f0 rfl, kE f1 rfl, kE f2 rfl, fun h => by obtain ⟨A8, c8, hx⟩ := f3 (by rw [← getD_set_ne true (show 18 ≠ 3 by decide)]; exact h); exact ⟨A8, c8, by rw [upd_ne x _ (by decide)]; exact hx⟩, kE f4 rfl, kE f5 rfl, kE f6 rfl, kE f7 rfl, kE f8 rfl, kE f9 rfl, kE f10 rfl, kE f11 rfl, kE f12 rfl, kE f13 rfl, kE f14 rfl, kE f15 rfl, kE f16 rfl, kE f17 rfl, fun _ => upd_same _ _ _, kE f19 rfl, kE f20 rfl, kE f21 rfl, kE f22 rfl, kE f23 rfl, kE f24 rfl⟩⟩
              · have d16 := getD_ft (haf _ rfl ⟨16, .guard⟩ (by simp) rfl)
                have e42 : b.eval (.tmp 42) = .bool false := by rw [hbe, eval_in _ _ _ 16 (by decide) rfl (by rw [hz0]; decide)]; exact f16 d16
                have t42 : b.tmps[42]?.getD undef = .bool false := by have tv := e42; simpa only [Act.eval, Array.getD_eq_getD_getElem?] using tv
                have d18 := getD_ft (haf _ rfl ⟨18, .data⟩ (by simp) rfl)
                have e44 : b.eval (.tmp 44) = .pointer (some ⟨ad.block, ad.off + 1, none⟩) := by rw [hbe, eval_in _ _ _ 18 (by decide) rfl (by rw [hz0]; decide)]; exact f18 d18
                have t44 : b.tmps[44]?.getD undef = .pointer (some ⟨ad.block, ad.off + 1, none⟩) := by have tv := e44; simpa only [Act.eval, Array.getD_eq_getD_getElem?] using tv
                have rr := (hBw.cell (block_lt_of_cell c1)).trans c1
                refine wpOp_runs_on (v := .string s3) rfl (wanted_on rfl rfl rfl t42) (by simp [execOp, go_sem, t44, rr]) ⟨_, _, rfl, rfl, ⟨hBw, kE f0 rfl, kE f1 rfl, kE f2 rfl, fun h => by obtain ⟨A8, c8, hx⟩ := f3 (by rw [← getD_set_ne true (show 19 ≠ 3 by decide)]; exact h); exact ⟨A8, c8, by rw [upd_ne x _ (by decide)]; exact hx⟩, kE f4 rfl, kE f5 rfl, kE f6 rfl, kE f7 rfl, kE f8 rfl, kE f9 rfl, kE f10 rfl, kE f11 rfl, kE f12 rfl, kE f13 rfl, kE f14 rfl, kE f15 rfl, kE f16 rfl, kE f17 rfl, kE f18 rfl, fun _ => upd_same _ _ _, kE f20 rfl, kE f21 rfl, kE f22 rfl, kE f23 rfl, kE f24 rfl⟩⟩
              · have d16 := getD_ft (haf _ rfl ⟨16, .guard⟩ (by simp) rfl)
                have e42 : b.eval (.tmp 42) = .bool false := by rw [hbe, eval_in _ _ _ 16 (by decide) rfl (by rw [hz0]; decide)]; exact f16 d16
                have t42 : b.tmps[42]?.getD undef = .bool false := by have tv := e42; simpa only [Act.eval, Array.getD_eq_getD_getElem?] using tv
                refine wpOp_runs_on (v := .slice (some ⟨g, 0, none⟩) 2 2) rfl (wanted_on rfl rfl rfl t42) (by simp [execOp, go_sem, t7]) ⟨_, _, rfl, rfl, ⟨hBw, kE f0 rfl, kE f1 rfl, kE f2 rfl, fun h => by obtain ⟨A8, c8, hx⟩ := f3 (by rw [← getD_set_ne true (show 20 ≠ 3 by decide)]; exact h); exact ⟨A8, c8, by rw [upd_ne x _ (by decide)]; exact hx⟩, kE f4 rfl, kE f5 rfl, kE f6 rfl, kE f7 rfl, kE f8 rfl, kE f9 rfl, kE f10 rfl, kE f11 rfl, kE f12 rfl, kE f13 rfl, kE f14 rfl, kE f15 rfl, kE f16 rfl, kE f17 rfl, kE f18 rfl, kE f19 rfl, fun _ => upd_same _ _ _, kE f21 rfl, kE f22 rfl, kE f23 rfl, kE f24 rfl⟩⟩
              · have d16 := getD_ft (haf _ rfl ⟨16, .guard⟩ (by simp) rfl)
                have e42 : b.eval (.tmp 42) = .bool false := by rw [hbe, eval_in _ _ _ 16 (by decide) rfl (by rw [hz0]; decide)]; exact f16 d16
                have t42 : b.tmps[42]?.getD undef = .bool false := by have tv := e42; simpa only [Act.eval, Array.getD_eq_getD_getElem?] using tv
                have d20 := getD_ft (haf _ rfl ⟨20, .data⟩ (by simp) rfl)
                have e46 : b.eval (.tmp 46) = .slice (some ⟨g, 0, none⟩) 2 2 := by rw [hbe, eval_in _ _ _ 20 (by decide) rfl (by rw [hz0]; decide)]; exact f20 d20
                have t46 : b.tmps[46]?.getD undef = .slice (some ⟨g, 0, none⟩) 2 2 := by have tv := e46; simpa only [Act.eval, Array.getD_eq_getD_getElem?] using tv
                refine wpOp_runs_on (v := .pointer (some ⟨g, 1, none⟩)) rfl (wanted_on rfl rfl rfl t42) (by simp [execOp, go_sem, t46]) ⟨_, _, rfl, rfl, ⟨hBw, kE f0 rfl, kE f1 rfl, kE f2 rfl, fun h => by obtain ⟨A8, c8, hx⟩ := f3 (by rw [← getD_set_ne true (show 21 ≠ 3 by decide)]; exact h); exact ⟨A8, c8, by rw [upd_ne x _ (by decide)]; exact hx⟩, kE f4 rfl, kE f5 rfl, kE f6 rfl, kE f7 rfl, kE f8 rfl, kE f9 rfl, kE f10 rfl, kE f11 rfl, kE f12 rfl, kE f13 rfl, kE f14 rfl, kE f15 rfl, kE f16 rfl, kE f17 rfl, kE f18 rfl, kE f19 rfl, kE f20 rfl, fun _ => upd_same _ _ _, kE f22 rfl, kE f23 rfl, kE f24 rfl⟩⟩
              · have d16 := getD_ft (haf _ rfl ⟨16, .guard⟩ (by simp) rfl)
                have e42 : b.eval (.tmp 42) = .bool false := by rw [hbe, eval_in _ _ _ 16 (by decide) rfl (by rw [hz0]; decide)]; exact f16 d16
                have t42 : b.tmps[42]?.getD undef = .bool false := by have tv := e42; simpa only [Act.eval, Array.getD_eq_getD_getElem?] using tv
                have d21 := getD_ft (haf _ rfl ⟨21, .data⟩ (by simp) rfl)
                have e47 : b.eval (.tmp 47) = .pointer (some ⟨g, 1, none⟩) := by rw [hbe, eval_in _ _ _ 21 (by decide) rfl (by rw [hz0]; decide)]; exact f21 d21
                have t47 : b.tmps[47]?.getD undef = .pointer (some ⟨g, 1, none⟩) := by have tv := e47; simpa only [Act.eval, Array.getD_eq_getD_getElem?] using tv
                have rr := (hBw.cell (block_lt_of_cell hg1)).trans hg1
                refine wpOp_runs_on (v := .string s3) rfl (wanted_on rfl rfl rfl t42) (by simp [execOp, go_sem, t47, rr]) ⟨_, _, rfl, rfl, ⟨hBw, kE f0 rfl, kE f1 rfl, kE f2 rfl, fun h => by obtain ⟨A8, c8, hx⟩ := f3 (by rw [← getD_set_ne true (show 22 ≠ 3 by decide)]; exact h); exact ⟨A8, c8, by rw [upd_ne x _ (by decide)]; exact hx⟩, kE f4 rfl, kE f5 rfl, kE f6 rfl, kE f7 rfl, kE f8 rfl, kE f9 rfl, kE f10 rfl, kE f11 rfl, kE f12 rfl, kE f13 rfl, kE f14 rfl, kE f15 rfl, kE f16 rfl, kE f17 rfl, kE f18 rfl, kE f19 rfl, kE f20 rfl, kE f21 rfl, fun _ => upd_same _ _ _, kE f23 rfl, kE f24 rfl⟩⟩
              · have d16 := getD_ft (haf _ rfl ⟨16, .guard⟩ (by simp) rfl)
                have e42 : b.eval (.tmp 42) = .bool false := by rw [hbe, eval_in _ _ _ 16 (by decide) rfl (by rw [hz0]; decide)]; exact f16 d16
                have t42 : b.tmps[42]?.getD undef = .bool false := by have tv := e42; simpa only [Act.eval, Array.getD_eq_getD_getElem?] using tv
                have d19 := getD_ft (haf _ rfl ⟨19, .data⟩ (by simp) rfl)
                have e45 : b.eval (.tmp 45) = .string s3 := by rw [hbe, eval_in _ _ _ 19 (by decide) rfl (by rw [hz0]; decide)]; exact f19 d19
                have t45 : b.tmps[45]?.getD undef = .string s3 := by have tv := e45; simpa only [Act.eval, Array.getD_eq_getD_getElem?] using tv
                have d22 := getD_ft (haf _ rfl ⟨22, .data⟩ (by simp) rfl)
                have e48 : b.eval (.tmp 48) = .string s3 := by rw [hbe, eval_in _ _ _ 22 (by decide) rfl (by rw [hz0]; decide)]; exact f22 d22
                have t48 : b.tmps[48]?.getD undef = .string s3 := by have tv := e48; simpa only [Act.eval, Array.getD_eq_getD_getElem?] using tv
                refine wpOp_runs_on (v := .bool false) rfl (wanted_on rfl rfl rfl t42) (by simp [execOp, go_sem, t45, t48]) ⟨_, _, rfl, rfl, ⟨hBw, kE f0 rfl, kE f1 rfl, kE f2 rfl, fun h => by obtain ⟨A8, c8, hx⟩ := f3 (by rw [← getD_set_ne true (show 23 ≠ 3 by decide)]; exact h); exact ⟨A8, c8, by rw [upd_ne x _ (by decide)]; exact hx⟩, kE f4 rfl, kE f5 rfl, kE f6 rfl, kE f7 rfl, kE f8 rfl, kE f9 rfl, kE f10 rfl, kE f11 rfl, kE f12 rfl, kE f13 rfl, kE f14 rfl, kE f15 rfl, kE f16 rfl, kE f17 rfl, kE f18 rfl, kE f19 rfl, kE f20 rfl, kE f21 rfl, kE f22 rfl, fun _ => upd_same _ _ _, kE f24 rfl⟩⟩
              · have d16 := getD_ft (haf _ rfl ⟨16, .data⟩ (by simp) rfl)
                have e42 : b.eval (.tmp 42) = .bool false := by rw [hbe, eval_in _ _ _ 16 (by decide) rfl (by rw [hz0]; decide)]; exact f16 d16
                have t42 : b.tmps[42]?.getD undef = .bool false := by have tv := e42; simpa only [Act.eval, Array.getD_eq_getD_getElem?] using tv
                have d23 := getD_ft (haf _ rfl ⟨23, .data⟩ (by simp) rfl)
                have e49 : b.eval (.tmp 49) = .bool false := by rw [hbe, eval_in _ _ _ 23 (by decide) rfl (by rw [hz0]; decide)]; exact f23 d23
                have t49 : b.tmps[49]?.getD undef = .bool false := by have tv := e49; simpa only [Act.eval, Array.getD_eq_getD_getElem?] using tv
                refine wpOp_runs (v := .bool false) rfl rfl (by simp [execOp, go_sem, t42, t49]) ⟨_, _, rfl, rfl, ⟨hBw, kE f0 rfl, kE f1 rfl, kE f2 rfl, fun h => by obtain ⟨A8, c8, hx⟩ := f3 (by rw [← getD_set_ne true (show 24 ≠ 3 by decide)]; exact h); exact ⟨A8, c8, by rw [upd_ne x _ (by decide)]; exact hx⟩, kE f4 rfl, kE f5 rfl, kE f6 rfl, kE f7 rfl, kE f8 rfl, kE f9 rfl, kE f10 rfl, kE f11 rfl, kE f12 rfl, kE f13 rfl, kE f14 rfl, kE f15 rfl, kE f16 rfl, kE f17 rfl, kE f18 rfl, kE f19 rfl, kE f20 rfl, kE f21 rfl, kE f22 rfl, kE f23 rfl, fun _ => upd_same _ _ _⟩⟩
            intro V x w' hall hF
            obtain ⟨hbF, f0, f1, f2, f3, f4, f5, f6, f7, f8, f9, f10, f11, f12, f13, f14, f15, f16, f17, f18, f19, f20, f21, f22, f23, f24⟩ := hF
            have hx24 := f24 (hall 24 (by decide))
            clear hall f0 f1 f2 f3 f4 f5 f6 f7 f8 f9 f10 f11 f12 f13 f14 f15 f16 f17 f18 f19 f20 f21 f22 f23 f24
            subst ha0
            simp only [List.map_cons, List.map_nil, putAll, hx24]
            clear hx24
            go_simp
            have hB3 := HB2.out.trans (hbF.mono hs2)
            have hs3 := hB3.size
            have HLW := Lib.hid ((HL.out.up HB0.out).up hB3)
            have HX3 := Lib.hid (HX0.out.below hB3 HX0.out.lt)
            have HB3 := Lib.hid (HB0.out.trans (hB3.mono HB0.out.size))
            clear hbF hB3 hs3 HQ hf0 hs hB hs2 HB2
            go_wp2_with fail
            go_loopw [8, 9] (fun ev iv wq => ∃ (i : Nat) (ns : List Int), iv = .int .i64 i ∧ 2 ≤ i ∧ i ≤ n ∧ Hid (numsF ((l.drop 2).take (i - 2)) = some ns) ∧ Hid (ns.length = i - 2) ∧ wq.ownsRow w'.heap.size 3 1 ev (i - 2) (ns.map (Value.int .i64)) ∧ Below w'.heap.size w' wq) (fun _ iv _ => n - (intOf iv).toNat)
            case atStart => exact ⟨2, [], rfl, by omega, by have := E1.out; omega, rfl, rfl, World.ownsRow_nil _ _ _ _, Below.refl _ _⟩
            case round =>
              obtain ⟨i, ns, rfl, hi2, hi, HF, HLN, hown, hBq⟩ := hrel
              have hsz := hBq.size
              obtain ⟨Ae, ce, rfl⟩ := slice_of_own hown
              by_cases hin : i < n
              · obtain ⟨ad2, ea, hab2, c0⟩ := (HLW.out.below hBq).lst.atS HD.out hin
                injection ea with ea
                subst ea
                obtain ⟨x, hx⟩ : ∃ x, gS l i = x := ⟨_, rfl⟩
                rw [hx] at c0
                have hxl : x.length ≤ maxLen := by
                  rw [← hx, gS_eq (by rw [HD.out]; exact hin)]
                  exact HSZ.out _ (List.getElem_mem _)
                have hsx : (bs x).size ≤ maxLen := by rw [bs_size]; exact hxl
                have hnx : (l.drop 2).take (i + 1 - 2) = (l.drop 2).take (i - 2) ++ [x] := by
                  rw [show i + 1 - 2 = (i - 2) + 1 by omega, take_nextS (by rw [List.length_drop, HD.out]; omega)]
                  congr 2
                  rw [← hx]
                  unfold gS
                  rw [List.getD_eq_getElem?_getD, List.getD_eq_getElem?_getD, List.getElem?_drop, show 2 + (i - 2) = i by omega]
                have HNX := Lib.hid hnx
                have HSX := Lib.hid hsx
                clear hnx hsx hxl hx
                go_wp2_with fail
                clear c0
                obtain ⟨p, hp⟩ : ∃ p, parseF x 2147483647 = p := ⟨_, rfl⟩
                refine (rparse_any (bs x) 2147483647 HSX.out wr).mono ?_
                rw [bs_list, hp]
                have HPX := Lib.hid hp
                clear hp
                rintro e w5 ⟨rfl, hb⟩
                replace hown := own_below hown hb
                replace hBq := hBq.trans (hb.mono hsz)
                replace hsz := hBq.size
                clear hb
                cases p with
                | none =>
                  rw [numV_none]
                  have hnone : numsF (l.drop 2) = none := mapM_stop _ (l.drop 2) x (by
                    have : x ∈ (l.drop 2).take (i + 1 - 2) := by rw [HNX.out]; simp
                    exact List.mem_of_mem_take this) HPX.out
                  have hpd := HFP.out
                  rw [hnone, HZ.out] at hpd
                  injection hpd with p1 p2
                  subst p1 p2
                  have hX5 := HX3.out.below hBq HX3.out.lt
                  have hB5 := HB3.out.trans (hBq.mono HB3.out.size)
                  clear hnone hown
                  have x0 : w5.cell? ⟨w.heap.size, 0, none⟩ = some (.int .i64 0) := hX5.cell 0
                  have xf0 := hX5.free 0
                  have x1 : w5.cell? ⟨w.heap.size, 1, none⟩ = some (.int .i64 0) := hX5.cell 1
                  have xf1 := hX5.free 1
                  have x2 : w5.cell? ⟨w.heap.size, 2, none⟩ = some (.int .i64 0) := hX5.cell 2
                  have xf2 := hX5.free 2
                  have x3 : w5.cell? ⟨w.heap.size, 3, none⟩ = some (.int .i64 0) := hX5.cell 3
                  have xf3 := hX5.free 3
                  have x4 : w5.cell? ⟨w.heap.size, 4, none⟩ = some (.int .i64 0) := hX5.cell 4
                  have xf4 := hX5.free 4
                  have x5 : w5.cell? ⟨w.heap.size, 5, none⟩ = some (.int .i64 0) := hX5.cell 5
                  have xf5 := hX5.free 5
                  have x6 : w5.cell? ⟨w.heap.size, 6, none⟩ = some (.int .i64 0) := hX5.cell 6
                  have xf6 := hX5.free 6
                  have x7 : w5.cell? ⟨w.heap.size, 7, none⟩ = some (.int .i64 0) := hX5.cell 7
                  have xf7 := hX5.free 7
                  have x8 : w5.cell? ⟨w.heap.size, 8, none⟩ = some (.int .i64 0) := hX5.cell 8
                  have xf8 := hX5.free 8
                  have x9 : w5.cell? ⟨w.heap.size, 9, none⟩ = some (.int .i64 0) := hX5.cell 9
                  have xf9 := hX5.free 9
                  have x10 : w5.cell? ⟨w.heap.size, 10, none⟩ = some (.int .i64 0) := hX5.cell 10
                  have xf10 := hX5.free 10
                  have x11 : w5.cell? ⟨w.heap.size, 11, none⟩ = some (.int .i64 0) := hX5.cell 11
                  have xf11 := hX5.free 11
                  have x12 : w5.cell? ⟨w.heap.size, 12, none⟩ = some (.int .i64 0) := hX5.cell 12
                  have xf12 := hX5.free 12
                  have lt_x := hX5.lt
                  go_wp2_with fail
                  clear x0 xf0 x1 xf1 x2 xf2 x3 xf3 x4 xf4 x5 xf5 x6 xf6 x7 xf7 x8 xf8 x9 xf9 x10 xf10 x11 xf11 x12 xf12 lt_x
                  have hF : Blok (((((((((((((w5.setCell ⟨w.heap.size, 0, none⟩ (.int .i64 0)).setCell ⟨w.heap.size, 1, none⟩ (.int .i64 0)).setCell ⟨w.heap.size, 2, none⟩ (.int .i64 0)).setCell ⟨w.heap.size, 3, none⟩ (.int .i64 0)).setCell ⟨w.heap.size, 4, none⟩ (.int .i64 0)).setCell ⟨w.heap.size, 5, none⟩ (.int .i64 0)).setCell ⟨w.heap.size, 6, none⟩ (.int .i64 0)).setCell ⟨w.heap.size, 7, none⟩ (.int .i64 0)).setCell ⟨w.heap.size, 8, none⟩ (.int .i64 0)).setCell ⟨w.heap.size, 9, none⟩ (.int .i64 0)).setCell ⟨w.heap.size, 10, none⟩ (.int .i64 0)).setCell ⟨w.heap.size, 11, none⟩ (.int .i64 0)).setCell ⟨w.heap.size, 12, none⟩ (.int .i64 0)) w.heap.size 41 #[.int .i64 0, .int .i64 0, .int .i64 0, .int .i64 0, .int .i64 0, .int .i64 0, .int .i64 0, .int .i64 0, .int .i64 0, .int .i64 0, .int .i64 0, .int .i64 0, .int .i64 0] := by have h := (((((((((((((hX5.set_ 0 (.int .i64 0)).set_ 1 (.int .i64 0)).set_ 2 (.int .i64 0)).set_ 3 (.int .i64 0)).set_ 4 (.int .i64 0)).set_ 5 (.int .i64 0)).set_ 6 (.int .i64 0)).set_ 7 (.int .i64 0)).set_ 8 (.int .i64 0)).set_ 9 (.int .i64 0)).set_ 10 (.int .i64 0)).set_ 11 (.int .i64 0)).set_ 12 (.int .i64 0)); simpa using h
                  have hle0 : w.heap.size ≤ w.heap.size := by first | exact Nat.le_refl _ | omega
                  have hWf : Below w.heap.size w (((((((((((((w5.setCell ⟨w.heap.size, 0, none⟩ (.int .i64 0)).setCell ⟨w.heap.size, 1, none⟩ (.int .i64 0)).setCell ⟨w.heap.size, 2, none⟩ (.int .i64 0)).setCell ⟨w.heap.size, 3, none⟩ (.int .i64 0)).setCell ⟨w.heap.size, 4, none⟩ (.int .i64 0)).setCell ⟨w.heap.size, 5, none⟩ (.int .i64 0)).setCell ⟨w.heap.size, 6, none⟩ (.int .i64 0)).setCell ⟨w.heap.size, 7, none⟩ (.int .i64 0)).setCell ⟨w.heap.size, 8, none⟩ (.int .i64 0)).setCell ⟨w.heap.size, 9, none⟩ (.int .i64 0)).setCell ⟨w.heap.size, 10, none⟩ (.int .i64 0)).setCell ⟨w.heap.size, 11, none⟩ (.int .i64 0)).setCell ⟨w.heap.size, 12, none⟩ (.int .i64 0)) := (((((((((((((hB5.setCell (p := ⟨w.heap.size, 0, none⟩) hle0 (.int .i64 0)).setCell (p := ⟨w.heap.size, 1, none⟩) hle0 (.int .i64 0)).setCell (p := ⟨w.heap.size, 2, none⟩) hle0 (.int .i64 0)).setCell (p := ⟨w.heap.size, 3, none⟩) hle0 (.int .i64 0)).setCell (p := ⟨w.heap.size, 4, none⟩) hle0 (.int .i64 0)).setCell (p := ⟨w.heap.size, 5, none⟩) hle0 (.int .i64 0)).setCell (p := ⟨w.heap.size, 6, none⟩) hle0 (.int .i64 0)).setCell (p := ⟨w.heap.size, 7, none⟩) hle0 (.int .i64 0)).setCell (p := ⟨w.heap.size, 8, none⟩) hle0 (.int .i64 0)).setCell (p := ⟨w.heap.size, 9, none⟩) hle0 (.int .i64 0)).setCell (p := ⟨w.heap.size, 10, none⟩) hle0 (.int .i64 0)).setCell (p := ⟨w.heap.size, 11, none⟩) hle0 (.int .i64 0)).setCell (p := ⟨w.heap.size, 12, none⟩) hle0 (.int .i64 0))
                  have hlF := hF.lt
                  generalize (((((((((((((w5.setCell ⟨w.heap.size, 0, none⟩ (.int .i64 0)).setCell ⟨w.heap.size, 1, none⟩ (.int .i64 0)).setCell ⟨w.heap.size, 2, none⟩ (.int .i64 0)).setCell ⟨w.heap.size, 3, none⟩ (.int .i64 0)).setCell ⟨w.heap.size, 4, none⟩ (.int .i64 0)).setCell ⟨w.heap.size, 5, none⟩ (.int .i64 0)).setCell ⟨w.heap.size, 6, none⟩ (.int .i64 0)).setCell ⟨w.heap.size, 7, none⟩ (.int .i64 0)).setCell ⟨w.heap.size, 8, none⟩ (.int .i64 0)).setCell ⟨w.heap.size, 9, none⟩ (.int .i64 0)).setCell ⟨w.heap.size, 10, none⟩ (.int .i64 0)).setCell ⟨w.heap.size, 11, none⟩ (.int .i64 0)).setCell ⟨w.heap.size, 12, none⟩ (.int .i64 0)) = wf at *
                  have r0 : wf.cell? ⟨w.heap.size, 0, none⟩ = some (.int .i64 0) := hF.cell 0
                  have r1 : wf.cell? ⟨w.heap.size, 1, none⟩ = some (.int .i64 0) := hF.cell 1
                  have r2 : wf.cell? ⟨w.heap.size, 2, none⟩ = some (.int .i64 0) := hF.cell 2
                  have r3 : wf.cell? ⟨w.heap.size, 3, none⟩ = some (.int .i64 0) := hF.cell 3
                  have r4 : wf.cell? ⟨w.heap.size, 4, none⟩ = some (.int .i64 0) := hF.cell 4
                  have r5 : wf.cell? ⟨w.heap.size, 5, none⟩ = some (.int .i64 0) := hF.cell 5
                  have r6 : wf.cell? ⟨w.heap.size, 6, none⟩ = some (.int .i64 0) := hF.cell 6
                  have r7 : wf.cell? ⟨w.heap.size, 7, none⟩ = some (.int .i64 0) := hF.cell 7
                  have r8 : wf.cell? ⟨w.heap.size, 8, none⟩ = some (.int .i64 0) := hF.cell 8
                  have r9 : wf.cell? ⟨w.heap.size, 9, none⟩ = some (.int .i64 0) := hF.cell 9
                  have r10 : wf.cell? ⟨w.heap.size, 10, none⟩ = some (.int .i64 0) := hF.cell 10
                  have r11 : wf.cell? ⟨w.heap.size, 11, none⟩ = some (.int .i64 0) := hF.cell 11
                  have r12 : wf.cell? ⟨w.heap.size, 12, none⟩ = some (.int .i64 0) := hF.cell 12
                  refine bodyPost_ret (v := .tuple #[.agg #[.int .i64 0, .int .i64 0, .int .i64 0, .int .i64 0, .int .i64 0, .int .i64 0, .int .i64 0, .int .i64 0, .int .i64 0, .int .i64 0, .int .i64 0, .int .i64 0, .int .i64 0], .int .i64 2]) (by simp [results, Tryz.results18, go_sem, r0, r1, r2, r3, r4, r5, r6, r7, r8, r9, r10, r11, r12, hlF]) rfl ?_
                  exact ⟨rfl, hWf⟩
                | some m =>
                  rw [numV_some]
                  have hf2 : numsF ((l.drop 2).take (i + 1 - 2)) = some (ns ++ [m]) := by
                    rw [HNX.out]
                    unfold numsF
                    rw [mapM_snoc]
                    have := HF.out
                    unfold numsF at this
                    rw [this]
                    simp [HPX.out]
                  have HF2 := Lib.hid hf2
                  clear hf2
                  go_wp2_with (first | (at_builtin; refine wpList_append_own _ rfl _ _ 33 rfl w'.heap.size 3 i0 _ 1 8 Tryz.underlying33 hi0 hz0 hz1 hz2 rfl (by decide) _ _ _ rfl (hown.alloc _) ⟨w5.heap.size, 0, none⟩ 1 1 [.int .i64 m] rfl rfl (by exact lit_cells w5 #[.int .i64 m] _ _ rfl) (by simp [Value.oneCell']) (by unfold maxLen; omega) (by omega) (by simp; omega) ?_; intro v' w6 hown' hgrow6 hnil6))
                  have hbN : Below w'.heap.size w' w6 := (hBq.alloc hsz _).grown hgrow6 (by simp; omega) (fun q hq => (hown.lt q hq).1)
                  clear hgrow6 hnil6
                  go_wp2_with fail
                  go_roundw
                  case rel => exact ⟨i + 1, ns ++ [m], by go_num, by omega, by omega, HF2, by have h := HLN.out; simp [Hid]; omega, (by rw [ints_app04, show i + 1 - 2 = i - 2 + 1 by omega]; exact hown'), hbN⟩
                  case measure => simp [intOf]; omega
              · obtain rfl : n = i := by omega
                have hf := HF.out
                rw [List.take_of_length_le (by rw [List.length_drop, HD.out]; omega)] at hf
                have hpd := HFP.out
                rw [hf, HZ.out] at hpd
                dsimp only at hpd
                have HPD := Lib.hid hpd
                have hsl := Sl.of_own hown
                have hfl2 : n - 2 = fl := by have := E1.out; omega
                have HLL := Lib.hid (show ns.length = formLen (o : Int) (k : Int) by rw [HLN.out, HFL.out]; exact hfl2)
                clear hf hpd hfl2 hown HF
                go_wp2_with fail
                refine (rmade_any o k ns (form_known HOK.out) HLL.out (n - 2) HLN.out Ae ce wr hsl).mono ?_
                obtain ⟨d1, hd1⟩ : ∃ d, madeD (o : Int) (k : Int) ns = d := ⟨_, rfl⟩
                rw [hd1] at HPD
                rw [hd1]
                clear hd1 hsl
                rintro e w5 ⟨rfl, hb⟩
                replace hBq := hBq.trans (hb.mono hsz)
                replace hsz := hBq.size
                clear hb
                go_upto_region 19 with fail
                have hD1 := Blok.new w5 41 #[.int .i64 d1.op, .int .i64 d1.kd, .int .i64 d1.id, .int .i64 d1.fr, .int .i64 d1.tn, .int .i64 d1.st, .int .i64 d1.en, .int .i64 d1.rt, .int .i64 d1.rf, .int .i64 d1.rn, .int .i64 d1.rs, .int .i64 d1.re, .int .i64 d1.ro]
                have hb : Below w5.heap.size w5 (w5.alloc (.cells #[.int .i64 d1.op, .int .i64 d1.kd, .int .i64 d1.id, .int .i64 d1.fr, .int .i64 d1.tn, .int .i64 d1.st, .int .i64 d1.en, .int .i64 d1.rt, .int .i64 d1.rf, .int .i64 d1.rn, .int .i64 d1.rs, .int .i64 d1.re, .int .i64 d1.ro] 41)) := by (repeat (first | exact Below.refl _ _ | refine Below.alloc ?_ (by first | omega | (simp; done) | (simp; omega)) _ | refine Below.setCell ?_ (by first | omega | (simp; done) | (simp; omega)) _ | refine Below.drew ?_))
                replace hBq := hBq.trans (hb.mono hsz)
                replace hsz := hBq.size
                clear hb
                generalize w5.alloc (.cells #[.int .i64 d1.op, .int .i64 d1.kd, .int .i64 d1.id, .int .i64 d1.fr, .int .i64 d1.tn, .int .i64 d1.st, .int .i64 d1.en, .int .i64 d1.rt, .int .i64 d1.rf, .int .i64 d1.rn, .int .i64 d1.rs, .int .i64 d1.re, .int .i64 d1.ro] 41) = w6 at *
                generalize hzz : w5.heap.size = bd at *
                clear hzz
                have e_0 : w6.cell? ⟨bd, 0, none⟩ = some (.int .i64 d1.op) := hD1.cell 0
                have e_1 : w6.cell? ⟨bd, 1, none⟩ = some (.int .i64 d1.kd) := hD1.cell 1
                have e_2 : w6.cell? ⟨bd, 2, none⟩ = some (.int .i64 d1.id) := hD1.cell 2
                have e_3 : w6.cell? ⟨bd, 3, none⟩ = some (.int .i64 d1.fr) := hD1.cell 3
                have e_4 : w6.cell? ⟨bd, 4, none⟩ = some (.int .i64 d1.tn) := hD1.cell 4
                have e_5 : w6.cell? ⟨bd, 5, none⟩ = some (.int .i64 d1.st) := hD1.cell 5
                have e_6 : w6.cell? ⟨bd, 6, none⟩ = some (.int .i64 d1.en) := hD1.cell 6
                have e_7 : w6.cell? ⟨bd, 7, none⟩ = some (.int .i64 d1.rt) := hD1.cell 7
                have e_8 : w6.cell? ⟨bd, 8, none⟩ = some (.int .i64 d1.rf) := hD1.cell 8
                have e_9 : w6.cell? ⟨bd, 9, none⟩ = some (.int .i64 d1.rn) := hD1.cell 9
                have e_10 : w6.cell? ⟨bd, 10, none⟩ = some (.int .i64 d1.rs) := hD1.cell 10
                have e_11 : w6.cell? ⟨bd, 11, none⟩ = some (.int .i64 d1.re) := hD1.cell 11
                have e_12 : w6.cell? ⟨bd, 12, none⟩ = some (.int .i64 d1.ro) := hD1.cell 12
                have lt_e_ := hD1.lt
                go_wp2_with fail
                clear e_0 e_1 e_2 e_3 e_4 e_5 e_6 e_7 e_8 e_9 e_10 e_11 e_12 lt_e_
                cases hrt : rightD d1
                · have HRT := Lib.hid hrt
                  have hpd := HPD.out
                  rw [hrt, if_neg (by simp)] at hpd
                  injection hpd with p1 p2
                  subst p1 p2
                  refine (rr04_any d1 w6 false HRT.out).mono ?_
                  rintro e w7 ⟨rfl, hb⟩
                  replace hBq := hBq.trans (hb.mono hsz)
                  clear hb hrt hD1
                  have hX7 := HX3.out.below hBq HX3.out.lt
                  have hB7 := HB3.out.trans (hBq.mono HB3.out.size)
                  have x0 : w7.cell? ⟨w.heap.size, 0, none⟩ = some (.int .i64 0) := hX7.cell 0
                  have xf0 := hX7.free 0
                  have x1 : w7.cell? ⟨w.heap.size, 1, none⟩ = some (.int .i64 0) := hX7.cell 1
                  have xf1 := hX7.free 1
                  have x2 : w7.cell? ⟨w.heap.size, 2, none⟩ = some (.int .i64 0) := hX7.cell 2
                  have xf2 := hX7.free 2
                  have x3 : w7.cell? ⟨w.heap.size, 3, none⟩ = some (.int .i64 0) := hX7.cell 3
                  have xf3 := hX7.free 3
                  have x4 : w7.cell? ⟨w.heap.size, 4, none⟩ = some (.int .i64 0) := hX7.cell 4
                  have xf4 := hX7.free 4
                  have x5 : w7.cell? ⟨w.heap.size, 5, none⟩ = some (.int .i64 0) := hX7.cell 5
                  have xf5 := hX7.free 5
                  have x6 : w7.cell? ⟨w.heap.size, 6, none⟩ = some (.int .i64 0) := hX7.cell 6
                  have xf6 := hX7.free 6
                  have x7 : w7.cell? ⟨w.heap.size, 7, none⟩ = some (.int .i64 0) := hX7.cell 7
                  have xf7 := hX7.free 7
                  have x8 : w7.cell? ⟨w.heap.size, 8, none⟩ = some (.int .i64 0) := hX7.cell 8
                  have xf8 := hX7.free 8
                  have x9 : w7.cell? ⟨w.heap.size, 9, none⟩ = some (.int .i64 0) := hX7.cell 9
                  have xf9 := hX7.free 9
                  have x10 : w7.cell? ⟨w.heap.size, 10, none⟩ = some (.int .i64 0) := hX7.cell 10
                  have xf10 := hX7.free 10
                  have x11 : w7.cell? ⟨w.heap.size, 11, none⟩ = some (.int .i64 0) := hX7.cell 11
                  have xf11 := hX7.free 11
                  have x12 : w7.cell? ⟨w.heap.size, 12, none⟩ = some (.int .i64 0) := hX7.cell 12
                  have xf12 := hX7.free 12
                  have lt_x := hX7.lt
                  go_wp2_with fail
                  clear x0 xf0 x1 xf1 x2 xf2 x3 xf3 x4 xf4 x5 xf5 x6 xf6 x7 xf7 x8 xf8 x9 xf9 x10 xf10 x11 xf11 x12 xf12 lt_x
                  have hF : Blok (((((((((((((w7.setCell ⟨w.heap.size, 0, none⟩ (.int .i64 0)).setCell ⟨w.heap.size, 1, none⟩ (.int .i64 0)).setCell ⟨w.heap.size, 2, none⟩ (.int .i64 0)).setCell ⟨w.heap.size, 3, none⟩ (.int .i64 0)).setCell ⟨w.heap.size, 4, none⟩ (.int .i64 0)).setCell ⟨w.heap.size, 5, none⟩ (.int .i64 0)).setCell ⟨w.heap.size, 6, none⟩ (.int .i64 0)).setCell ⟨w.heap.size, 7, none⟩ (.int .i64 0)).setCell ⟨w.heap.size, 8, none⟩ (.int .i64 0)).setCell ⟨w.heap.size, 9, none⟩ (.int .i64 0)).setCell ⟨w.heap.size, 10, none⟩ (.int .i64 0)).setCell ⟨w.heap.size, 11, none⟩ (.int .i64 0)).setCell ⟨w.heap.size, 12, none⟩ (.int .i64 0)) w.heap.size 41 #[.int .i64 0, .int .i64 0, .int .i64 0, .int .i64 0, .int .i64 0, .int .i64 0, .int .i64 0, .int .i64 0, .int .i64 0, .int .i64 0, .int .i64 0, .int .i64 0, .int .i64 0] := by have h := (((((((((((((hX7.set_ 0 (.int .i64 0)).set_ 1 (.int .i64 0)).set_ 2 (.int .i64 0)).set_ 3 (.int .i64 0)).set_ 4 (.int .i64 0)).set_ 5 (.int .i64 0)).set_ 6 (.int .i64 0)).set_ 7 (.int .i64 0)).set_ 8 (.int .i64 0)).set_ 9 (.int .i64 0)).set_ 10 (.int .i64 0)).set_ 11 (.int .i64 0)).set_ 12 (.int .i64 0)); simpa using h
                  have hle0 : w.heap.size ≤ w.heap.size := by first | exact Nat.le_refl _ | omega
                  have hWf : Below w.heap.size w (((((((((((((w7.setCell ⟨w.heap.size, 0, none⟩ (.int .i64 0)).setCell ⟨w.heap.size, 1, none⟩ (.int .i64 0)).setCell ⟨w.heap.size, 2, none⟩ (.int .i64 0)).setCell ⟨w.heap.size, 3, none⟩ (.int .i64 0)).setCell ⟨w.heap.size, 4, none⟩ (.int .i64 0)).setCell ⟨w.heap.size, 5, none⟩ (.int .i64 0)).setCell ⟨w.heap.size, 6, none⟩ (.int .i64 0)).setCell ⟨w.heap.size, 7, none⟩ (.int .i64 0)).setCell ⟨w.heap.size, 8, none⟩ (.int .i64 0)).setCell ⟨w.heap.size, 9, none⟩ (.int .i64 0)).setCell ⟨w.heap.size, 10, none⟩ (.int .i64 0)).setCell ⟨w.heap.size, 11, none⟩ (.int .i64 0)).setCell ⟨w.heap.size, 12, none⟩ (.int .i64 0)) := (((((((((((((hB7.setCell (p := ⟨w.heap.size, 0, none⟩) hle0 (.int .i64 0)).setCell (p := ⟨w.heap.size, 1, none⟩) hle0 (.int .i64 0)).setCell (p := ⟨w.heap.size, 2, none⟩) hle0 (.int .i64 0)).setCell (p := ⟨w.heap.size, 3, none⟩) hle0 (.int .i64 0)).setCell (p := ⟨w.heap.size, 4, none⟩) hle0 (.int .i64 0)).setCell (p := ⟨w.heap.size, 5, none⟩) hle0 (.int .i64 0)).setCell (p := ⟨w.heap.size, 6, none⟩) hle0 (.int .i64 0)).setCell (p := ⟨w.heap.size, 7, none⟩) hle0 (.int .i64 0)).setCell (p := ⟨w.heap.size, 8, none⟩) hle0 (.int .i64 0)).setCell (p := ⟨w.heap.size, 9, none⟩) hle0 (.int .i64 0)).setCell (p := ⟨w.heap.size, 10, none⟩) hle0 (.int .i64 0)).setCell (p := ⟨w.heap.size, 11, none⟩) hle0 (.int .i64 0)).setCell (p := ⟨w.heap.size, 12, none⟩) hle0 (.int .i64 0))
                  have hlF := hF.lt
                  generalize (((((((((((((w7.setCell ⟨w.heap.size, 0, none⟩ (.int .i64 0)).setCell ⟨w.heap.size, 1, none⟩ (.int .i64 0)).setCell ⟨w.heap.size, 2, none⟩ (.int .i64 0)).setCell ⟨w.heap.size, 3, none⟩ (.int .i64 0)).setCell ⟨w.heap.size, 4, none⟩ (.int .i64 0)).setCell ⟨w.heap.size, 5, none⟩ (.int .i64 0)).setCell ⟨w.heap.size, 6, none⟩ (.int .i64 0)).setCell ⟨w.heap.size, 7, none⟩ (.int .i64 0)).setCell ⟨w.heap.size, 8, none⟩ (.int .i64 0)).setCell ⟨w.heap.size, 9, none⟩ (.int .i64 0)).setCell ⟨w.heap.size, 10, none⟩ (.int .i64 0)).setCell ⟨w.heap.size, 11, none⟩ (.int .i64 0)).setCell ⟨w.heap.size, 12, none⟩ (.int .i64 0)) = wf at *
                  have r0 : wf.cell? ⟨w.heap.size, 0, none⟩ = some (.int .i64 0) := hF.cell 0
                  have r1 : wf.cell? ⟨w.heap.size, 1, none⟩ = some (.int .i64 0) := hF.cell 1
                  have r2 : wf.cell? ⟨w.heap.size, 2, none⟩ = some (.int .i64 0) := hF.cell 2
                  have r3 : wf.cell? ⟨w.heap.size, 3, none⟩ = some (.int .i64 0) := hF.cell 3
                  have r4 : wf.cell? ⟨w.heap.size, 4, none⟩ = some (.int .i64 0) := hF.cell 4
                  have r5 : wf.cell? ⟨w.heap.size, 5, none⟩ = some (.int .i64 0) := hF.cell 5
                  have r6 : wf.cell? ⟨w.heap.size, 6, none⟩ = some (.int .i64 0) := hF.cell 6
                  have r7 : wf.cell? ⟨w.heap.size, 7, none⟩ = some (.int .i64 0) := hF.cell 7
                  have r8 : wf.cell? ⟨w.heap.size, 8, none⟩ = some (.int .i64 0) := hF.cell 8
                  have r9 : wf.cell? ⟨w.heap.size, 9, none⟩ = some (.int .i64 0) := hF.cell 9
                  have r10 : wf.cell? ⟨w.heap.size, 10, none⟩ = some (.int .i64 0) := hF.cell 10
                  have r11 : wf.cell? ⟨w.heap.size, 11, none⟩ = some (.int .i64 0) := hF.cell 11
                  have r12 : wf.cell? ⟨w.heap.size, 12, none⟩ = some (.int .i64 0) := hF.cell 12
                  refine bodyPost_ret (v := .tuple #[.agg #[.int .i64 0, .int .i64 0, .int .i64 0, .int .i64 0, .int .i64 0, .int .i64 0, .int .i64 0, .int .i64 0, .int .i64 0, .int .i64 0, .int .i64 0, .int .i64 0, .int .i64 0], .int .i64 1]) (by simp [results, Tryz.results18, go_sem, r0, r1, r2, r3, r4, r5, r6, r7, r8, r9, r10, r11, r12, hlF]) rfl ?_
                  exact ⟨rfl, hWf⟩
                · have HRT := Lib.hid hrt
                  have hpd := HPD.out
                  rw [hrt, if_pos rfl] at hpd
                  injection hpd with p1 p2
                  subst p1 p2
                  refine (rr04_any z w6 true HRT.out).mono ?_
                  rintro e w7 ⟨rfl, hb⟩
                  replace hBq := hBq.trans (hb.mono hsz)
                  have hD7 := hD1.below hb hD1.lt
                  clear hb hrt hD1
                  have hX7 := HX3.out.below hBq HX3.out.lt
                  have hB7 := HB3.out.trans (hBq.mono HB3.out.size)
                  have x0 : w7.cell? ⟨w.heap.size, 0, none⟩ = some (.int .i64 0) := hX7.cell 0
                  have xf0 := hX7.free 0
                  have x1 : w7.cell? ⟨w.heap.size, 1, none⟩ = some (.int .i64 0) := hX7.cell 1
                  have xf1 := hX7.free 1
                  have x2 : w7.cell? ⟨w.heap.size, 2, none⟩ = some (.int .i64 0) := hX7.cell 2
                  have xf2 := hX7.free 2
                  have x3 : w7.cell? ⟨w.heap.size, 3, none⟩ = some (.int .i64 0) := hX7.cell 3
                  have xf3 := hX7.free 3
                  have x4 : w7.cell? ⟨w.heap.size, 4, none⟩ = some (.int .i64 0) := hX7.cell 4
                  have xf4 := hX7.free 4
                  have x5 : w7.cell? ⟨w.heap.size, 5, none⟩ = some (.int .i64 0) := hX7.cell 5
                  have xf5 := hX7.free 5
                  have x6 : w7.cell? ⟨w.heap.size, 6, none⟩ = some (.int .i64 0) := hX7.cell 6
                  have xf6 := hX7.free 6
                  have x7 : w7.cell? ⟨w.heap.size, 7, none⟩ = some (.int .i64 0) := hX7.cell 7
                  have xf7 := hX7.free 7
                  have x8 : w7.cell? ⟨w.heap.size, 8, none⟩ = some (.int .i64 0) := hX7.cell 8
                  have xf8 := hX7.free 8
                  have x9 : w7.cell? ⟨w.heap.size, 9, none⟩ = some (.int .i64 0) := hX7.cell 9
                  have xf9 := hX7.free 9
                  have x10 : w7.cell? ⟨w.heap.size, 10, none⟩ = some (.int .i64 0) := hX7.cell 10
                  have xf10 := hX7.free 10
                  have x11 : w7.cell? ⟨w.heap.size, 11, none⟩ = some (.int .i64 0) := hX7.cell 11
                  have xf11 := hX7.free 11
                  have x12 : w7.cell? ⟨w.heap.size, 12, none⟩ = some (.int .i64 0) := hX7.cell 12
                  have xf12 := hX7.free 12
                  have lt_x := hX7.lt
                  have e_0 : w7.cell? ⟨bd, 0, none⟩ = some (.int .i64 z.op) := hD7.cell 0
                  have e_1 : w7.cell? ⟨bd, 1, none⟩ = some (.int .i64 z.kd) := hD7.cell 1
                  have e_2 : w7.cell? ⟨bd, 2, none⟩ = some (.int .i64 z.id) := hD7.cell 2
                  have e_3 : w7.cell? ⟨bd, 3, none⟩ = some (.int .i64 z.fr) := hD7.cell 3
                  have e_4 : w7.cell? ⟨bd, 4, none⟩ = some (.int .i64 z.tn) := hD7.cell 4
                  have e_5 : w7.cell? ⟨bd, 5, none⟩ = some (.int .i64 z.st) := hD7.cell 5
                  have e_6 : w7.cell? ⟨bd, 6, none⟩ = some (.int .i64 z.en) := hD7.cell 6
                  have e_7 : w7.cell? ⟨bd, 7, none⟩ = some (.int .i64 z.rt) := hD7.cell 7
                  have e_8 : w7.cell? ⟨bd, 8, none⟩ = some (.int .i64 z.rf) := hD7.cell 8
                  have e_9 : w7.cell? ⟨bd, 9, none⟩ = some (.int .i64 z.rn) := hD7.cell 9
                  have e_10 : w7.cell? ⟨bd, 10, none⟩ = some (.int .i64 z.rs) := hD7.cell 10
                  have e_11 : w7.cell? ⟨bd, 11, none⟩ = some (.int .i64 z.re) := hD7.cell 11
                  have e_12 : w7.cell? ⟨bd, 12, none⟩ = some (.int .i64 z.ro) := hD7.cell 12
                  have lt_e_ := hD7.lt
                  go_wp2_with fail
                  clear e_0 e_1 e_2 e_3 e_4 e_5 e_6 e_7 e_8 e_9 e_10 e_11 e_12 lt_e_
                  clear x0 xf0 x1 xf1 x2 xf2 x3 xf3 x4 xf4 x5 xf5 x6 xf6 x7 xf7 x8 xf8 x9 xf9 x10 xf10 x11 xf11 x12 xf12 lt_x
                  have hF : Blok (((((((((((((w7.setCell ⟨w.heap.size, 0, none⟩ (.int .i64 z.op)).setCell ⟨w.heap.size, 1, none⟩ (.int .i64 z.kd)).setCell ⟨w.heap.size, 2, none⟩ (.int .i64 z.id)).setCell ⟨w.heap.size, 3, none⟩ (.int .i64 z.fr)).setCell ⟨w.heap.size, 4, none⟩ (.int .i64 z.tn)).setCell ⟨w.heap.size, 5, none⟩ (.int .i64 z.st)).setCell ⟨w.heap.size, 6, none⟩ (.int .i64 z.en)).setCell ⟨w.heap.size, 7, none⟩ (.int .i64 z.rt)).setCell ⟨w.heap.size, 8, none⟩ (.int .i64 z.rf)).setCell ⟨w.heap.size, 9, none⟩ (.int .i64 z.rn)).setCell ⟨w.heap.size, 10, none⟩ (.int .i64 z.rs)).setCell ⟨w.heap.size, 11, none⟩ (.int .i64 z.re)).setCell ⟨w.heap.size, 12, none⟩ (.int .i64 z.ro)) w.heap.size 41 #[.int .i64 z.op, .int .i64 z.kd, .int .i64 z.id, .int .i64 z.fr, .int .i64 z.tn, .int .i64 z.st, .int .i64 z.en, .int .i64 z.rt, .int .i64 z.rf, .int .i64 z.rn, .int .i64 z.rs, .int .i64 z.re, .int .i64 z.ro] := by have h := (((((((((((((hX7.set_ 0 (.int .i64 z.op)).set_ 1 (.int .i64 z.kd)).set_ 2 (.int .i64 z.id)).set_ 3 (.int .i64 z.fr)).set_ 4 (.int .i64 z.tn)).set_ 5 (.int .i64 z.st)).set_ 6 (.int .i64 z.en)).set_ 7 (.int .i64 z.rt)).set_ 8 (.int .i64 z.rf)).set_ 9 (.int .i64 z.rn)).set_ 10 (.int .i64 z.rs)).set_ 11 (.int .i64 z.re)).set_ 12 (.int .i64 z.ro)); simpa using h
                  have hle0 : w.heap.size ≤ w.heap.size := by first | exact Nat.le_refl _ | omega
                  have hWf : Below w.heap.size w (((((((((((((w7.setCell ⟨w.heap.size, 0, none⟩ (.int .i64 z.op)).setCell ⟨w.heap.size, 1, none⟩ (.int .i64 z.kd)).setCell ⟨w.heap.size, 2, none⟩ (.int .i64 z.id)).setCell ⟨w.heap.size, 3, none⟩ (.int .i64 z.fr)).setCell ⟨w.heap.size, 4, none⟩ (.int .i64 z.tn)).setCell ⟨w.heap.size, 5, none⟩ (.int .i64 z.st)).setCell ⟨w.heap.size, 6, none⟩ (.int .i64 z.en)).setCell ⟨w.heap.size, 7, none⟩ (.int .i64 z.rt)).setCell ⟨w.heap.size, 8, none⟩ (.int .i64 z.rf)).setCell ⟨w.heap.size, 9, none⟩ (.int .i64 z.rn)).setCell ⟨w.heap.size, 10, none⟩ (.int .i64 z.rs)).setCell ⟨w.heap.size, 11, none⟩ (.int .i64 z.re)).setCell ⟨w.heap.size, 12, none⟩ (.int .i64 z.ro)) := (((((((((((((hB7.setCell (p := ⟨w.heap.size, 0, none⟩) hle0 (.int .i64 z.op)).setCell (p := ⟨w.heap.size, 1, none⟩) hle0 (.int .i64 z.kd)).setCell (p := ⟨w.heap.size, 2, none⟩) hle0 (.int .i64 z.id)).setCell (p := ⟨w.heap.size, 3, none⟩) hle0 (.int .i64 z.fr)).setCell (p := ⟨w.heap.size, 4, none⟩) hle0 (.int .i64 z.tn)).setCell (p := ⟨w.heap.size, 5, none⟩) hle0 (.int .i64 z.st)).setCell (p := ⟨w.heap.size, 6, none⟩) hle0 (.int .i64 z.en)).setCell (p := ⟨w.heap.size, 7, none⟩) hle0 (.int .i64 z.rt)).setCell (p := ⟨w.heap.size, 8, none⟩) hle0 (.int .i64 z.rf)).setCell (p := ⟨w.heap.size, 9, none⟩) hle0 (.int .i64 z.rn)).setCell (p := ⟨w.heap.size, 10, none⟩) hle0 (.int .i64 z.rs)).setCell (p := ⟨w.heap.size, 11, none⟩) hle0 (.int .i64 z.re)).setCell (p := ⟨w.heap.size, 12, none⟩) hle0 (.int .i64 z.ro))
                  have hlF := hF.lt
                  generalize (((((((((((((w7.setCell ⟨w.heap.size, 0, none⟩ (.int .i64 z.op)).setCell ⟨w.heap.size, 1, none⟩ (.int .i64 z.kd)).setCell ⟨w.heap.size, 2, none⟩ (.int .i64 z.id)).setCell ⟨w.heap.size, 3, none⟩ (.int .i64 z.fr)).setCell ⟨w.heap.size, 4, none⟩ (.int .i64 z.tn)).setCell ⟨w.heap.size, 5, none⟩ (.int .i64 z.st)).setCell ⟨w.heap.size, 6, none⟩ (.int .i64 z.en)).setCell ⟨w.heap.size, 7, none⟩ (.int .i64 z.rt)).setCell ⟨w.heap.size, 8, none⟩ (.int .i64 z.rf)).setCell ⟨w.heap.size, 9, none⟩ (.int .i64 z.rn)).setCell ⟨w.heap.size, 10, none⟩ (.int .i64 z.rs)).setCell ⟨w.heap.size, 11, none⟩ (.int .i64 z.re)).setCell ⟨w.heap.size, 12, none⟩ (.int .i64 z.ro)) = wf at *
                  have r0 : wf.cell? ⟨w.heap.size, 0, none⟩ = some (.int .i64 z.op) := hF.cell 0
                  have r1 : wf.cell? ⟨w.heap.size, 1, none⟩ = some (.int .i64 z.kd) := hF.cell 1
                  have r2 : wf.cell? ⟨w.heap.size, 2, none⟩ = some (.int .i64 z.id) := hF.cell 2
                  have r3 : wf.cell? ⟨w.heap.size, 3, none⟩ = some (.int .i64 z.fr) := hF.cell 3
                  have r4 : wf.cell? ⟨w.heap.size, 4, none⟩ = some (.int .i64 z.tn) := hF.cell 4
                  have r5 : wf.cell? ⟨w.heap.size, 5, none⟩ = some (.int .i64 z.st) := hF.cell 5
                  have r6 : wf.cell? ⟨w.heap.size, 6, none⟩ = some (.int .i64 z.en) := hF.cell 6
                  have r7 : wf.cell? ⟨w.heap.size, 7, none⟩ = some (.int .i64 z.rt) := hF.cell 7
                  have r8 : wf.cell? ⟨w.heap.size, 8, none⟩ = some (.int .i64 z.rf) := hF.cell 8
                  have r9 : wf.cell? ⟨w.heap.size, 9, none⟩ = some (.int .i64 z.rn) := hF.cell 9
                  have r10 : wf.cell? ⟨w.heap.size, 10, none⟩ = some (.int .i64 z.rs) := hF.cell 10
                  have r11 : wf.cell? ⟨w.heap.size, 11, none⟩ = some (.int .i64 z.re) := hF.cell 11
                  have r12 : wf.cell? ⟨w.heap.size, 12, none⟩ = some (.int .i64 z.ro) := hF.cell 12
                  refine bodyPost_ret (v := .tuple #[.agg #[.int .i64 z.op, .int .i64 z.kd, .int .i64 z.id, .int .i64 z.fr, .int .i64 z.tn, .int .i64 z.st, .int .i64 z.en, .int .i64 z.rt, .int .i64 z.rf, .int .i64 z.rn, .int .i64 z.rs, .int .i64 z.re, .int .i64 z.ro], .int .i64 0]) (by simp [results, Tryz.results18, go_sem, r0, r1, r2, r3, r4, r5, r6, r7, r8, r9, r10, r11, r12, hlF]) rfl ?_
                  exact ⟨rfl, hWf⟩
            
          · have HP2 : Hid (Past l (2 * (o - 1) + (k + 1 - 1))) := by
              have h := HQ.out.next (op := o) (kd := k) (by omega) HOK.out hfit
              show Past _ _
              rw [show 2 * (o - 1) + (k + 1 - 1) = 2 * (o - 1) + (k - 1) + 1 by omega]
              exact h
            clear HQ
            have hcases : n ≠ 2 + fl ∨ (n = 2 + fl ∧ gS l 0 ≠ so) ∨ (n = 2 + fl ∧ gS l 0 = so ∧ gS l 1 ≠ sk) := by
              by_cases e1 : n = 2 + fl
              · by_cases e2 : gS l 0 = so
                · refine .inr (.inr ⟨e1, e2, fun e3 => hfit ⟨by rw [HD.out, HFL.out]; exact e1, by rw [HSO.out]; exact e2, by rw [HSK.out]; exact e3⟩⟩)
                · exact .inr (.inl ⟨e1, e2⟩)
              · exact .inl e1
            clear hfit
            have y0 : w2.cell? ⟨bf, 0, none⟩ = some (.int .i64 (o : Int)) := hF.cell 0
            have y1 : w2.cell? ⟨bf, 1, none⟩ = some (.int .i64 (k : Int)) := hF.cell 1
            have y2 : w2.cell? ⟨bf, 2, none⟩ = some (.int .i64 0) := hF.cell 2
            have y3 : w2.cell? ⟨bf, 3, none⟩ = some (.int .i64 0) := hF.cell 3
            have y4 : w2.cell? ⟨bf, 4, none⟩ = some (.int .i64 0) := hF.cell 4
            have y5 : w2.cell? ⟨bf, 5, none⟩ = some (.int .i64 0) := hF.cell 5
            have y6 : w2.cell? ⟨bf, 6, none⟩ = some (.int .i64 0) := hF.cell 6
            have y7 : w2.cell? ⟨bf, 7, none⟩ = some (.int .i64 0) := hF.cell 7
            have y8 : w2.cell? ⟨bf, 8, none⟩ = some (.int .i64 0) := hF.cell 8
            have y9 : w2.cell? ⟨bf, 9, none⟩ = some (.int .i64 0) := hF.cell 9
            have y10 : w2.cell? ⟨bf, 10, none⟩ = some (.int .i64 0) := hF.cell 10
            have y11 : w2.cell? ⟨bf, 11, none⟩ = some (.int .i64 0) := hF.cell 11
            have y12 : w2.cell? ⟨bf, 12, none⟩ = some (.int .i64 0) := hF.cell 12
            have lt_y := hF.lt
            rcases hcases with e1 | ⟨e1, e2⟩ | ⟨e1, e2, e3⟩
            · have g1 : ((n : Int) != 2 + (fl : Int)) = true := by simp; omega
              clear hF hl2 e1
              go_upto_region 9 with fail
              have hwr : IntKind.i64.wrap (2 + (fl : Int)) = 2 + (fl : Int) := IntWalk.i64_in _ (by omega)
              refine gen_frame ?_
              intro a0 ha0
              try simp only [List.append]
              refine wp_region_frames rfl (by kernel_rfl) (by kernel_rfl) (fun V x w' => Below w2.heap.size w2 w' ∧ (V.getD 0 true = true → x 0 = .slice A n c) ∧ (V.getD 1 true = true → x 1 = .int .i64 (n : Int)) ∧ (V.getD 2 true = true → x 2 = .agg #[.int .i64 (o : Int), .int .i64 (k : Int), .int .i64 0, .int .i64 0, .int .i64 0, .int .i64 0, .int .i64 0, .int .i64 0, .int .i64 0, .int .i64 0, .int .i64 0, .int .i64 0, .int .i64 0]) ∧ (V.getD 3 true = true → ∃ A8 c8, x 3 = .slice A8 fl c8) ∧ (V.getD 4 true = true → x 4 = .int .i64 (fl : Int)) ∧ (V.getD 5 true = true → x 5 = .int .i64 (2 + (fl : Int))) ∧ (V.getD 6 true = true → x 6 = .bool true) ∧ (V.getD 7 true = true → x 7 = .bool true) ∧ (V.getD 8 true = true → x 8 = undef) ∧ (V.getD 9 true = true → x 9 = undef) ∧ (V.getD 10 true = true → x 10 = undef) ∧ (V.getD 11 true = true → x 11 = undef) ∧ (V.getD 12 true = true → x 12 = undef) ∧ (V.getD 13 true = true → x 13 = undef) ∧ (V.getD 14 true = true → x 14 = undef) ∧ (V.getD 15 true = true → x 15 = .bool true) ∧ (V.getD 16 true = true → x 16 = .bool true) ∧ (V.getD 17 true = true → x 17 = undef) ∧ (V.getD 18 true = true → x 18 = undef) ∧ (V.getD 19 true = true → x 19 = undef) ∧ (V.getD 20 true = true → x 20 = undef) ∧ (V.getD 21 true = true → x 21 = undef) ∧ (V.getD 22 true = true → x 22 = undef) ∧ (V.getD 23 true = true → x 23 = undef) ∧ (V.getD 24 true = true → x 24 = .bool true)) ?_ ?_ ?_
              · intro x
                refine ⟨(Below.refl _ _).drew, ?_, ?_, ?_, ?_, ?_, ?_, ?_, ?_, ?_, ?_, ?_, ?_, ?_, ?_, ?_, ?_, ?_, ?_, ?_, ?_, ?_, ?_, ?_, ?_, ?_⟩ <;> exact fun h => by simp at h
              · intro V x b w' hbq hsz hF i hi hun haf hcl
                obtain ⟨hBw, f0, f1, f2, f3, f4, f5, f6, f7, f8, f9, f10, f11, f12, f13, f14, f15, f16, f17, f18, f19, f20, f21, f22, f23, f24⟩ := hF
                have hbe : b = putAll a0 [some 26, some 27, some 28, some 29, some 30, some 31, some 32, some 33, some 34, some 35, some 36, some 37, some 38, some 39, some 40, some 41, some 42, some 43, some 44, some 45, some 46, some 47, some 48, some 49, some 50] x 0 := hbq
                have hz0 : a0.tmps.size = 82 := by rw [ha0]; rfl
                have e0 : b.eval (.tmp 0) = .slice A n c := by rw [hbe, eval_out _ _ _ (by decide), ha0]; rfl
                have t0 : b.tmps[0]?.getD undef = .slice A n c := by simpa [Act.eval] using e0
                have e6 : b.eval (.tmp 6) = .pointer (some ⟨bf, 0, none⟩) := by rw [hbe, eval_out _ _ _ (by decide), ha0]; rfl
                have t6 : b.tmps[6]?.getD undef = .pointer (some ⟨bf, 0, none⟩) := by simpa [Act.eval] using e6
                have e7 : b.eval (.tmp 7) = .slice (some ⟨g, 0, none⟩) 2 2 := by rw [hbe, eval_out _ _ _ (by decide), ha0]; rfl
                have t7 : b.tmps[7]?.getD undef = .slice (some ⟨g, 0, none⟩) 2 2 := by simpa [Act.eval] using e7
                clear hbq
                have hi' : i < 25 := hi
                clear hi
                obtain rfl | rfl | rfl | rfl | rfl | rfl | rfl | rfl | rfl | rfl | rfl | rfl | rfl | rfl | rfl | rfl | rfl | rfl | rfl | rfl | rfl | rfl | rfl | rfl | rfl : i = 0 ∨ i = 1 ∨ i = 2 ∨ i = 3 ∨ i = 4 ∨ i = 5 ∨ i = 6 ∨ i = 7 ∨ i = 8 ∨ i = 9 ∨ i = 10 ∨ i = 11 ∨ i = 12 ∨ i = 13 ∨ i = 14 ∨ i = 15 ∨ i = 16 ∨ i = 17 ∨ i = 18 ∨ i = 19 ∨ i = 20 ∨ i = 21 ∨ i = 22 ∨ i = 23 ∨ i = 24 := by omega
                · refine wpOp_runs (v := .slice A n c) rfl rfl (by simp [execOp, go_sem, t0]) ⟨_, _, rfl, rfl, ⟨hBw, fun _ => upd_same _ _ _, kE f1 rfl, kE f2 rfl, fun h => by obtain ⟨A8, c8, hx⟩ := f3 (by rw [← getD_set_ne true (show 0 ≠ 3 by decide)]; exact h); exact ⟨A8, c8, by rw [upd_ne x _ (by decide)]; exact hx⟩, kE f4 rfl, kE f5 rfl, kE f6 rfl, kE f7 rfl, kE f8 rfl, kE f9 rfl, kE f10 rfl, kE f11 rfl, kE f12 rfl, kE f13 rfl, kE f14 rfl, kE f15 rfl, kE f16 rfl, kE f17 rfl, kE f18 rfl, kE f19 rfl, kE f20 rfl, kE f21 rfl, kE f22 rfl, kE f23 rfl, kE f24 rfl⟩⟩
                · have d0 := getD_ft (haf _ rfl ⟨0, .data⟩ (by simp) rfl)
                  have e26 : b.eval (.tmp 26) = .slice A n c := by rw [hbe, eval_in _ _ _ 0 (by decide) rfl (by rw [hz0]; decide)]; exact f0 d0
                  have t26 : b.tmps[26]?.getD undef = .slice A n c := by have tv := e26; simpa only [Act.eval, Array.getD_eq_getD_getElem?] using tv
                  refine wpOp_runs (v := .int .i64 (n : Int)) rfl rfl (by simp [execOp, go_sem, t26]) ⟨_, _, rfl, rfl, ⟨hBw, kE f0 rfl, fun _ => upd_same _ _ _, kE f2 rfl, fun h => by obtain ⟨A8, c8, hx⟩ := f3 (by rw [← getD_set_ne true (show 1 ≠ 3 by decide)]; exact h); exact ⟨A8, c8, by rw [upd_ne x _ (by decide)]; exact hx⟩, kE f4 rfl, kE f5 rfl, kE f6 rfl, kE f7 rfl, kE f8 rfl, kE f9 rfl, kE f10 rfl, kE f11 rfl, kE f12 rfl, kE f13 rfl, kE f14 rfl, kE f15 rfl, kE f16 rfl, kE f17 rfl, kE f18 rfl, kE f19 rfl, kE f20 rfl, kE f21 rfl, kE f22 rfl, kE f23 rfl, kE f24 rfl⟩⟩
                · have rr0 := (hBw.cell (block_lt_of_cell y0)).trans y0
                  have rr1 := (hBw.cell (block_lt_of_cell y1)).trans y1
                  have rr2 := (hBw.cell (block_lt_of_cell y2)).trans y2
                  have rr3 := (hBw.cell (block_lt_of_cell y3)).trans y3
                  have rr4 := (hBw.cell (block_lt_of_cell y4)).trans y4
                  have rr5 := (hBw.cell (block_lt_of_cell y5)).trans y5
                  have rr6 := (hBw.cell (block_lt_of_cell y6)).trans y6
                  have rr7 := (hBw.cell (block_lt_of_cell y7)).trans y7
                  have rr8 := (hBw.cell (block_lt_of_cell y8)).trans y8
                  have rr9 := (hBw.cell (block_lt_of_cell y9)).trans y9
                  have rr10 := (hBw.cell (block_lt_of_cell y10)).trans y10
                  have rr11 := (hBw.cell (block_lt_of_cell y11)).trans y11
                  have rr12 := (hBw.cell (block_lt_of_cell y12)).trans y12
                  refine wpOp_runs (v := .agg #[.int .i64 (o : Int), .int .i64 (k : Int), .int .i64 0, .int .i64 0, .int .i64 0, .int .i64 0, .int .i64 0, .int .i64 0, .int .i64 0, .int .i64 0, .int .i64 0, .int .i64 0, .int .i64 0]) rfl rfl (by simp [execOp, go_sem, t6, rr0, rr1, rr2, rr3, rr4, rr5, rr6, rr7, rr8, rr9, rr10, rr11, rr12]) ⟨_, _, rfl, rfl, ⟨hBw, kE f0 rfl, kE f1 rfl, fun _ => upd_same _ _ _, fun h => by obtain ⟨A8, c8, hx⟩ := f3 (by rw [← getD_set_ne true (show 2 ≠ 3 by decide)]; exact h); exact ⟨A8, c8, by rw [upd_ne x _ (by decide)]; exact hx⟩, kE f4 rfl, kE f5 rfl, kE f6 rfl, kE f7 rfl, kE f8 rfl, kE f9 rfl, kE f10 rfl, kE f11 rfl, kE f12 rfl, kE f13 rfl, kE f14 rfl, kE f15 rfl, kE f16 rfl, kE f17 rfl, kE f18 rfl, kE f19 rfl, kE f20 rfl, kE f21 rfl, kE f22 rfl, kE f23 rfl, kE f24 rfl⟩⟩
                · have d2 := getD_ft (haf _ rfl ⟨2, .data⟩ (by simp) rfl)
                  have e28 : b.eval (.tmp 28) = .agg #[.int .i64 (o : Int), .int .i64 (k : Int), .int .i64 0, .int .i64 0, .int .i64 0, .int .i64 0, .int .i64 0, .int .i64 0, .int .i64 0, .int .i64 0, .int .i64 0, .int .i64 0, .int .i64 0] := by rw [hbe, eval_in _ _ _ 2 (by decide) rfl (by rw [hz0]; decide)]; exact f2 d2
                  have t28 : b.tmps[28]?.getD undef = .agg #[.int .i64 (o : Int), .int .i64 (k : Int), .int .i64 0, .int .i64 0, .int .i64 0, .int .i64 0, .int .i64 0, .int .i64 0, .int .i64 0, .int .i64 0, .int .i64 0, .int .i64 0, .int .i64 0] := by have tv := e28; simpa only [Act.eval, Array.getD_eq_getD_getElem?] using tv
                  refine wpOp_call_on rfl (by simp [Region.wanted]) 37 #[.tmp 28] _ rfl #[.agg #[.int .i64 (o : Int), .int .i64 (k : Int), .int .i64 0, .int .i64 0, .int .i64 0, .int .i64 0, .int .i64 0, .int .i64 0, .int .i64 0, .int .i64 0, .int .i64 0, .int .i64 0, .int .i64 0]] (by simp [e28]) Tryz.func37 rfl rfl ?_
                  refine (rnums_sl o k fl HOK.out HBN.out w').mono ?_
                  rintro e w'' ⟨A8, c8, rfl, hb⟩
                  exact ⟨_, rfl, _, _, rfl, rfl, ⟨hBw.trans (hb.mono hBw.size), kE f0 rfl, kE f1 rfl, kE f2 rfl, fun _ => ⟨A8, c8, upd_same _ _ _⟩, kE f4 rfl, kE f5 rfl, kE f6 rfl, kE f7 rfl, kE f8 rfl, kE f9 rfl, kE f10 rfl, kE f11 rfl, kE f12 rfl, kE f13 rfl, kE f14 rfl, kE f15 rfl, kE f16 rfl, kE f17 rfl, kE f18 rfl, kE f19 rfl, kE f20 rfl, kE f21 rfl, kE f22 rfl, kE f23 rfl, kE f24 rfl⟩⟩
                · have d3 := getD_ft (haf _ rfl ⟨3, .data⟩ (by simp) rfl)
                  obtain ⟨A8, c8, hx⟩ := f3 d3
                  have e29 : b.eval (.tmp 29) = .slice A8 fl c8 := by rw [hbe, eval_in _ _ _ 3 (by decide) rfl (by rw [hz0]; decide)]; exact hx
                  have t29 : b.tmps[29]?.getD undef = .slice A8 fl c8 := by have tv := e29; simpa only [Act.eval, Array.getD_eq_getD_getElem?] using tv
                  refine wpOp_runs (v := .int .i64 (fl : Int)) rfl rfl (by simp [execOp, go_sem, t29]) ⟨_, _, rfl, rfl, ⟨hBw, kE f0 rfl, kE f1 rfl, kE f2 rfl, fun h => by obtain ⟨A8, c8, hx⟩ := f3 (by rw [← getD_set_ne true (show 4 ≠ 3 by decide)]; exact h); exact ⟨A8, c8, by rw [upd_ne x _ (by decide)]; exact hx⟩, fun _ => upd_same _ _ _, kE f5 rfl, kE f6 rfl, kE f7 rfl, kE f8 rfl, kE f9 rfl, kE f10 rfl, kE f11 rfl, kE f12 rfl, kE f13 rfl, kE f14 rfl, kE f15 rfl, kE f16 rfl, kE f17 rfl, kE f18 rfl, kE f19 rfl, kE f20 rfl, kE f21 rfl, kE f22 rfl, kE f23 rfl, kE f24 rfl⟩⟩
                · have d4 := getD_ft (haf _ rfl ⟨4, .data⟩ (by simp) rfl)
                  have e30 : b.eval (.tmp 30) = .int .i64 (fl : Int) := by rw [hbe, eval_in _ _ _ 4 (by decide) rfl (by rw [hz0]; decide)]; exact f4 d4
                  have t30 : b.tmps[30]?.getD undef = .int .i64 (fl : Int) := by have tv := e30; simpa only [Act.eval, Array.getD_eq_getD_getElem?] using tv
                  refine wpOp_runs (v := .int .i64 (2 + (fl : Int))) rfl rfl (by simp [execOp, go_sem, t30, hwr]) ⟨_, _, rfl, rfl, ⟨hBw, kE f0 rfl, kE f1 rfl, kE f2 rfl, fun h => by obtain ⟨A8, c8, hx⟩ := f3 (by rw [← getD_set_ne true (show 5 ≠ 3 by decide)]; exact h); exact ⟨A8, c8, by rw [upd_ne x _ (by decide)]; exact hx⟩, kE f4 rfl, fun _ => upd_same _ _ _, kE f6 rfl, kE f7 rfl, kE f8 rfl, kE f9 rfl, kE f10 rfl, kE f11 rfl, kE f12 rfl, kE f13 rfl, kE f14 rfl, kE f15 rfl, kE f16 rfl, kE f17 rfl, kE f18 rfl, kE f19 rfl, kE f20 rfl, kE f21 rfl, kE f22 rfl, kE f23 rfl, kE f24 rfl⟩⟩
                · have d1 := getD_ft (haf _ rfl ⟨1, .data⟩ (by simp) rfl)
                  have e27 : b.eval (.tmp 27) = .int .i64 (n : Int) := by rw [hbe, eval_in _ _ _ 1 (by decide) rfl (by rw [hz0]; decide)]; exact f1 d1
                  have t27 : b.tmps[27]?.getD undef = .int .i64 (n : Int) := by have tv := e27; simpa only [Act.eval, Array.getD_eq_getD_getElem?] using tv
                  have d5 := getD_ft (haf _ rfl ⟨5, .data⟩ (by simp) rfl)
                  have e31 : b.eval (.tmp 31) = .int .i64 (2 + (fl : Int)) := by rw [hbe, eval_in _ _ _ 5 (by decide) rfl (by rw [hz0]; decide)]; exact f5 d5
                  have t31 : b.tmps[31]?.getD undef = .int .i64 (2 + (fl : Int)) := by have tv := e31; simpa only [Act.eval, Array.getD_eq_getD_getElem?] using tv
                  refine wpOp_runs (v := .bool true) rfl rfl (by simp [execOp, go_sem, t27, t31, g1]) ⟨_, _, rfl, rfl, ⟨hBw, kE f0 rfl, kE f1 rfl, kE f2 rfl, fun h => by obtain ⟨A8, c8, hx⟩ := f3 (by rw [← getD_set_ne true (show 6 ≠ 3 by decide)]; exact h); exact ⟨A8, c8, by rw [upd_ne x _ (by decide)]; exact hx⟩, kE f4 rfl, kE f5 rfl, fun _ => upd_same _ _ _, kE f7 rfl, kE f8 rfl, kE f9 rfl, kE f10 rfl, kE f11 rfl, kE f12 rfl, kE f13 rfl, kE f14 rfl, kE f15 rfl, kE f16 rfl, kE f17 rfl, kE f18 rfl, kE f19 rfl, kE f20 rfl, kE f21 rfl, kE f22 rfl, kE f23 rfl, kE f24 rfl⟩⟩
                · have d6 := getD_ft (haf _ rfl ⟨6, .data⟩ (by simp) rfl)
                  have e32 : b.eval (.tmp 32) = .bool true := by rw [hbe, eval_in _ _ _ 6 (by decide) rfl (by rw [hz0]; decide)]; exact f6 d6
                  have t32 : b.tmps[32]?.getD undef = .bool true := by have tv := e32; simpa only [Act.eval, Array.getD_eq_getD_getElem?] using tv
                  refine wpOp_runs (v := .bool true) rfl rfl (by simp [execOp, go_sem, t32]) ⟨_, _, rfl, rfl, ⟨hBw, kE f0 rfl, kE f1 rfl, kE f2 rfl, fun h => by obtain ⟨A8, c8, hx⟩ := f3 (by rw [← getD_set_ne true (show 7 ≠ 3 by decide)]; exact h); exact ⟨A8, c8, by rw [upd_ne x _ (by decide)]; exact hx⟩, kE f4 rfl, kE f5 rfl, kE f6 rfl, fun _ => upd_same _ _ _, kE f8 rfl, kE f9 rfl, kE f10 rfl, kE f11 rfl, kE f12 rfl, kE f13 rfl, kE f14 rfl, kE f15 rfl, kE f16 rfl, kE f17 rfl, kE f18 rfl, kE f19 rfl, kE f20 rfl, kE f21 rfl, kE f22 rfl, kE f23 rfl, kE f24 rfl⟩⟩
                · have d7 := getD_ft (haf _ rfl ⟨7, .guard⟩ (by simp) rfl)
                  have e33 : b.eval (.tmp 33) = .bool true := by rw [hbe, eval_in _ _ _ 7 (by decide) rfl (by rw [hz0]; decide)]; exact f7 d7
                  have t33 : b.tmps[33]?.getD undef = .bool true := by have tv := e33; simpa only [Act.eval, Array.getD_eq_getD_getElem?] using tv
                  refine wpOp_off rfl (wanted_off rfl rfl rfl t33) ⟨_, _, rfl, rfl, ⟨hBw, kE f0 rfl, kE f1 rfl, kE f2 rfl, fun h => by obtain ⟨A8, c8, hx⟩ := f3 (by rw [← getD_set_ne true (show 8 ≠ 3 by decide)]; exact h); exact ⟨A8, c8, by rw [upd_ne x _ (by decide)]; exact hx⟩, kE f4 rfl, kE f5 rfl, kE f6 rfl, kE f7 rfl, fun _ => upd_same _ _ _, kE f9 rfl, kE f10 rfl, kE f11 rfl, kE f12 rfl, kE f13 rfl, kE f14 rfl, kE f15 rfl, kE f16 rfl, kE f17 rfl, kE f18 rfl, kE f19 rfl, kE f20 rfl, kE f21 rfl, kE f22 rfl, kE f23 rfl, kE f24 rfl⟩⟩
                · have d7 := getD_ft (haf _ rfl ⟨7, .guard⟩ (by simp) rfl)
                  have e33 : b.eval (.tmp 33) = .bool true := by rw [hbe, eval_in _ _ _ 7 (by decide) rfl (by rw [hz0]; decide)]; exact f7 d7
                  have t33 : b.tmps[33]?.getD undef = .bool true := by have tv := e33; simpa only [Act.eval, Array.getD_eq_getD_getElem?] using tv
                  refine wpOp_off rfl (wanted_off rfl rfl rfl t33) ⟨_, _, rfl, rfl, ⟨hBw, kE f0 rfl, kE f1 rfl, kE f2 rfl, fun h => by obtain ⟨A8, c8, hx⟩ := f3 (by rw [← getD_set_ne true (show 9 ≠ 3 by decide)]; exact h); exact ⟨A8, c8, by rw [upd_ne x _ (by decide)]; exact hx⟩, kE f4 rfl, kE f5 rfl, kE f6 rfl, kE f7 rfl, kE f8 rfl, fun _ => upd_same _ _ _, kE f10 rfl, kE f11 rfl, kE f12 rfl, kE f13 rfl, kE f14 rfl, kE f15 rfl, kE f16 rfl, kE f17 rfl, kE f18 rfl, kE f19 rfl, kE f20 rfl, kE f21 rfl, kE f22 rfl, kE f23 rfl, kE f24 rfl⟩⟩
                · have d7 := getD_ft (haf _ rfl ⟨7, .guard⟩ (by simp) rfl)
                  have e33 : b.eval (.tmp 33) = .bool true := by rw [hbe, eval_in _ _ _ 7 (by decide) rfl (by rw [hz0]; decide)]; exact f7 d7
                  have t33 : b.tmps[33]?.getD undef = .bool true := by have tv := e33; simpa only [Act.eval, Array.getD_eq_getD_getElem?] using tv
                  refine wpOp_off rfl (wanted_off rfl rfl rfl t33) ⟨_, _, rfl, rfl, ⟨hBw, kE f0 rfl, kE f1 rfl, kE f2 rfl, fun h => by obtain ⟨A8, c8, hx⟩ := f3 (by rw [← getD_set_ne true (show 10 ≠ 3 by decide)]; exact h); exact ⟨A8, c8, by rw [upd_ne x _ (by decide)]; exact hx⟩, kE f4 rfl, kE f5 rfl, kE f6 rfl, kE f7 rfl, kE f8 rfl, kE f9 rfl, fun _ => upd_same _ _ _, kE f11 rfl, kE f12 rfl, kE f13 rfl, kE f14 rfl, kE f15 rfl, kE f16 rfl, kE f17 rfl, kE f18 rfl, kE f19 rfl, kE f20 rfl, kE f21 rfl, kE f22 rfl, kE f23 rfl, kE f24 rfl⟩⟩
                · have d7 := getD_ft (haf _ rfl ⟨7, .guard⟩ (by simp) rfl)
                  have e33 : b.eval (.tmp 33) = .bool true := by rw [hbe, eval_in _ _ _ 7 (by decide) rfl (by rw [hz0]; decide)]; exact f7 d7
                  have t33 : b.tmps[33]?.getD undef = .bool true := by have tv := e33; simpa only [Act.eval, Array.getD_eq_getD_getElem?] using tv
                  refine wpOp_off rfl (wanted_off rfl rfl rfl t33) ⟨_, _, rfl, rfl, ⟨hBw, kE f0 rfl, kE f1 rfl, kE f2 rfl, fun h => by obtain ⟨A8, c8, hx⟩ := f3 (by rw [← getD_set_ne true (show 11 ≠ 3 by decide)]; exact h); exact ⟨A8, c8, by rw [upd_ne x _ (by decide)]; exact hx⟩, kE f4 rfl, kE f5 rfl, kE f6 rfl, kE f7 rfl, kE f8 rfl, kE f9 rfl, kE f10 rfl, fun _ => upd_same _ _ _, kE f12 rfl, kE f13 rfl, kE f14 rfl, kE f15 rfl, kE f16 rfl, kE f17 rfl, kE f18 rfl, kE f19 rfl, kE f20 rfl, kE f21 rfl, kE f22 rfl, kE f23 rfl, kE f24 rfl⟩⟩
                · have d7 := getD_ft (haf _ rfl ⟨7, .guard⟩ (by simp) rfl)
                  have e33 : b.eval (.tmp 33) = .bool true := by rw [hbe, eval_in _ _ _ 7 (by decide) rfl (by rw [hz0]; decide)]; exact f7 d7
                  have t33 : b.tmps[33]?.getD undef = .bool true := by have tv := e33; simpa only [Act.eval, Array.getD_eq_getD_getElem?] using tv
                  refine wpOp_off rfl (wanted_off rfl rfl rfl t33) ⟨_, _, rfl, rfl, ⟨hBw, kE f0 rfl, kE f1 rfl, kE f2 rfl, fun h => by obtain ⟨A8, c8, hx⟩ := f3 (by rw [← getD_set_ne true (show 12 ≠ 3 by decide)]; exact h); exact ⟨A8, c8, by rw [upd_ne x _ (by decide)]; exact hx⟩, kE f4 rfl, kE f5 rfl, kE f6 rfl, kE f7 rfl, kE f8 rfl, kE f9 rfl, kE f10 rfl, kE f11 rfl, fun _ => upd_same _ _ _, kE f13 rfl, kE f14 rfl, kE f15 rfl, kE f16 rfl, kE f17 rfl, kE f18 rfl, kE f19 rfl, kE f20 rfl, kE f21 rfl, kE f22 rfl, kE f23 rfl, kE f24 rfl⟩⟩
                · have d7 := getD_ft (haf _ rfl ⟨7, .guard⟩ (by simp) rfl)
                  have e33 : b.eval (.tmp 33) = .bool true := by rw [hbe, eval_in _ _ _ 7 (by decide) rfl (by rw [hz0]; decide)]; exact f7 d7
                  have t33 : b.tmps[33]?.getD undef = .bool true := by have tv := e33; simpa only [Act.eval, Array.getD_eq_getD_getElem?] using tv
                  refine wpOp_off rfl (wanted_off rfl rfl rfl t33) ⟨_, _, rfl, rfl, ⟨hBw, kE f0 rfl, kE f1 rfl, kE f2 rfl, fun h => by obtain ⟨A8, c8, hx⟩ := f3 (by rw [← getD_set_ne true (show 13 ≠ 3 by decide)]; exact h); exact ⟨A8, c8, by rw [upd_ne x _ (by decide)]; exact hx⟩, kE f4 rfl, kE f5 rfl, kE f6 rfl, kE f7 rfl, kE f8 rfl, kE f9 rfl, kE f10 rfl, kE f11 rfl, kE f12 rfl, fun _ => upd_same _ _ _, kE f14 rfl, kE f15 rfl, kE f16 rfl, kE f17 rfl, kE f18 rfl, kE f19 rfl, kE f20 rfl, kE f21 rfl, kE f22 rfl, kE f23 rfl, kE f24 rfl⟩⟩
                · have d7 := getD_ft (haf _ rfl ⟨7, .guard⟩ (by simp) rfl)
                  have e33 : b.eval (.tmp 33) = .bool true := by rw [hbe, eval_in _ _ _ 7 (by decide) rfl (by rw [hz0]; decide)]; exact f7 d7
                  have t33 : b.tmps[33]?.getD undef = .bool true := by have tv := e33; simpa only [Act.eval, Array.getD_eq_getD_getElem?] using tv
                  refine wpOp_off rfl (wanted_off rfl rfl rfl t33) ⟨_, _, rfl, rfl, ⟨hBw, kE f0 rfl, kE f1 rfl, kE f2 rfl, fun h => by obtain ⟨A8, c8, hx⟩ := f3 (by rw [← getD_set_ne true (show 14 ≠ 3 by decide)]; exact h); exact ⟨A8, c8, by rw [upd_ne x _ (by decide)]; exact hx⟩, kE f4 rfl, kE f5 rfl, kE f6 rfl, kE f7 rfl, kE f8 rfl, kE f9 rfl, kE f10 rfl, kE f11 rfl, kE f12 rfl, kE f13 rfl, fun _ => upd_same _ _ _, kE f15 rfl, kE f16 rfl, kE f17 rfl, kE f18 rfl, kE f19 rfl, kE f20 rfl, kE f21 rfl, kE f22 rfl, kE f23 rfl, kE f24 rfl⟩⟩
                · have d7 := getD_ft (haf _ rfl ⟨7, .data⟩ (by simp) rfl)
                  have e33 : b.eval (.tmp 33) = .bool true := by rw [hbe, eval_in _ _ _ 7 (by decide) rfl (by rw [hz0]; decide)]; exact f7 d7
                  have t33 : b.tmps[33]?.getD undef = .bool true := by have tv := e33; simpa only [Act.eval, Array.getD_eq_getD_getElem?] using tv
                  refine wpOp_runs (v := .bool true) rfl rfl (by simp [execOp, go_sem, t33]) ⟨_, _, rfl, rfl, ⟨hBw, kE f0 rfl, kE f1 rfl, kE f2 rfl, fun h => by obtain ⟨A8, c8, hx⟩ := f3 (by rw [← getD_set_ne true (show 15 ≠ 3 by decide)]; exact h); exact ⟨A8, c8, by rw [upd_ne x _ (by decide)]; exact hx⟩, kE f4 rfl, kE f5 rfl, kE f6 rfl, kE f7 rfl, kE f8 rfl, kE f9 rfl, kE f10 rfl, kE f11 rfl, kE f12 rfl, kE f13 rfl, kE f14 rfl, fun _ => upd_same _ _ _, kE f16 rfl, kE f17 rfl, kE f18 rfl, kE f19 rfl, kE f20 rfl, kE f21 rfl, kE f22 rfl, kE f23 rfl, kE f24 rfl⟩⟩
                · have d15 := getD_ft (haf _ rfl ⟨15, .data⟩ (by simp) rfl)
                  have e41 : b.eval (.tmp 41) = .bool true := by rw [hbe, eval_in _ _ _ 15 (by decide) rfl (by rw [hz0]; decide)]; exact f15 d15
                  have t41 : b.tmps[41]?.getD undef = .bool true := by have tv := e41; simpa only [Act.eval, Array.getD_eq_getD_getElem?] using tv
                  refine wpOp_runs (v := .bool true) rfl rfl (by simp [execOp, go_sem, t41]) ⟨_, _, rfl, rfl, ⟨hBw, kE f0 rfl, kE f1 rfl, kE f2 rfl, fun h => by obtain ⟨A8, c8, hx⟩ := f3 (by rw [← getD_set_ne true (show 16 ≠ 3 by decide)]; exact h); exact ⟨A8, c8, by rw [upd_ne x _ (by decide)]; exact hx⟩, kE f4 rfl, kE f5 rfl, kE f6 rfl, kE f7 rfl, kE f8 rfl, kE f9 rfl, kE f10 rfl, kE f11 rfl, kE f12 rfl, kE f13 rfl, kE f14 rfl, kE f15 rfl, fun _ => upd_same _ _ _, kE f17 rfl, kE f18 rfl, kE f19 rfl, kE f20 rfl, kE f21 rfl, kE f22 rfl, kE f23 rfl, kE f24 rfl⟩⟩
                · have d16 := getD_ft (haf _ rfl ⟨16, .guard⟩ (by simp) rfl)
                  have e42 : b.eval (.tmp 42) = .bool true := by rw [hbe, eval_in _ _ _ 16 (by decide) rfl (by rw [hz0]; decide)]; exact f16 d16
                  have t42 : b.tmps[42]?.getD undef = .bool true := by have tv := e42; simpa only [Act.eval, Array.getD_eq_getD_getElem?] using tv
                  refine wpOp_off rfl (wanted_off rfl rfl rfl t42) ⟨_, _, rfl, rfl, ⟨hBw, kE f0 rfl, kE f1 rfl, kE f2 rfl, fun h => by obtain ⟨A8, c8, hx⟩ := f3 (by rw [← getD_set_ne true (show 17 ≠ 3 by decide)]; exact h); exact ⟨A8, c8, by rw [upd_ne x _ (by decide)]; exact hx⟩, kE f4 rfl, kE f5 rfl, kE f6 rfl, kE f7 rfl, kE f8 rfl, kE f9 rfl, kE f10 rfl, kE f11 rfl, kE f12 rfl, kE f13 rfl, kE f14 rfl, kE f15 rfl, kE f16 rfl, fun _ => upd_same _ _ _, kE f18 rfl, kE f19 rfl, kE f20 rfl, kE f21 rfl, kE f22 rfl, kE f23 rfl, kE f24 rfl⟩⟩
                · have d16 := getD_ft (haf _ rfl ⟨16, .guard⟩ (by simp) rfl)
                  have e42 : b.eval (.tmp 42) = .bool true := by rw [hbe, eval_in _ _ _ 16 (by decide) rfl (by rw [hz0]; decide)]; exact f16 d16
                  have t42 : b.tmps[42]?.getD undef = .bool true := by have tv := e42; simpa only [Act.eval, Array.getD_eq_getD_getElem?] using tv
                  refine wpOp_off rfl (wanted_off rfl rfl rfl t42) ⟨_, _, rfl, rfl, ⟨hBw, kE f0 rfl, kE f1 rfl, kE f2 rfl, fun h => by obtain ⟨A8, c8, hx⟩ := f3 (by rw [← getD_set_ne true (show 18 ≠ 3 by decide)]; exact h); exact ⟨A8, c8, by rw [upd_ne x _ (by decide)]; exact hx⟩, kE f4 rfl, kE f5 rfl, kE f6 rfl, kE f7 rfl, kE f8 rfl, kE f9 rfl, kE f10 rfl, kE f11 rfl, kE f12 rfl, kE f13 rfl, kE f14 rfl, kE f15 rfl, kE f16 rfl, kE f17 rfl, fun _ => upd_same _ _ _, kE f19 rfl, kE f20 rfl, kE f21 rfl, kE f22 rfl, kE f23 rfl, kE f24 rfl⟩⟩
                · have d16 := getD_ft (haf _ rfl ⟨16, .guard⟩ (by simp) rfl)
                  have e42 : b.eval (.tmp 42) = .bool true := by rw [hbe, eval_in _ _ _ 16 (by decide) rfl (by rw [hz0]; decide)]; exact f16 d16
                  have t42 : b.tmps[42]?.getD undef = .bool true := by have tv := e42; simpa only [Act.eval, Array.getD_eq_getD_getElem?] using tv
                  refine wpOp_off rfl (wanted_off rfl rfl rfl t42) ⟨_, _, rfl, rfl, ⟨hBw, kE f0 rfl, kE f1 rfl, kE f2 rfl, fun h => by obtain ⟨A8, c8, hx⟩ := f3 (by rw [← getD_set_ne true (show 19 ≠ 3 by decide)]; exact h); exact ⟨A8, c8, by rw [upd_ne x _ (by decide)]; exact hx⟩, kE f4 rfl, kE f5 rfl, kE f6 rfl, kE f7 rfl, kE f8 rfl, kE f9 rfl, kE f10 rfl, kE f11 rfl, kE f12 rfl, kE f13 rfl, kE f14 rfl, kE f15 rfl, kE f16 rfl, kE f17 rfl, kE f18 rfl, fun _ => upd_same _ _ _, kE f20 rfl, kE f21 rfl, kE f22 rfl, kE f23 rfl, kE f24 rfl⟩⟩
                · have d16 := getD_ft (haf _ rfl ⟨16, .guard⟩ (by simp) rfl)
                  have e42 : b.eval (.tmp 42) = .bool true := by rw [hbe, eval_in _ _ _ 16 (by decide) rfl (by rw [hz0]; decide)]; exact f16 d16
                  have t42 : b.tmps[42]?.getD undef = .bool true := by have tv := e42; simpa only [Act.eval, Array.getD_eq_getD_getElem?] using tv
                  refine wpOp_off rfl (wanted_off rfl rfl rfl t42) ⟨_, _, rfl, rfl, ⟨hBw, kE f0 rfl, kE f1 rfl, kE f2 rfl, fun h => by obtain ⟨A8, c8, hx⟩ := f3 (by rw [← getD_set_ne true (show 20 ≠ 3 by decide)]; exact h); exact ⟨A8, c8, by rw [upd_ne x _ (by decide)]; exact hx⟩, kE f4 rfl, kE f5 rfl, kE f6 rfl, kE f7 rfl, kE f8 rfl, kE f9 rfl, kE f10 rfl, kE f11 rfl, kE f12 rfl, kE f13 rfl, kE f14 rfl, kE f15 rfl, kE f16 rfl, kE f17 rfl, kE f18 rfl, kE f19 rfl, fun _ => upd_same _ _ _, kE f21 rfl, kE f22 rfl, kE f23 rfl, kE f24 rfl⟩⟩
                · have d16 := getD_ft (haf _ rfl ⟨16, .guard⟩ (by simp) rfl)
                  have e42 : b.eval (.tmp 42) = .bool true := by rw [hbe, eval_in _ _ _ 16 (by decide) rfl (by rw [hz0]; decide)]; exact f16 d16
                  have t42 : b.tmps[42]?.getD undef = .bool true := by have tv := e42; simpa only [Act.eval, Array.getD_eq_getD_getElem?] using tv
                  refine wpOp_off rfl (wanted_off rfl rfl rfl t42) ⟨_, _, rfl, rfl, ⟨hBw, kE f0 rfl, kE f1 rfl, kE f2 rfl, fun h => by obtain ⟨A8, c8, hx⟩ := f3 (by rw [← getD_set_ne true (show 21 ≠ 3 by decide)]; exact h); exact ⟨A8, c8, by rw [upd_ne x _ (by decide)]; exact hx⟩, kE f4 rfl, kE f5 rfl, kE f6 rfl, kE f7 rfl, kE f8 rfl, kE f9 rfl, kE f10 rfl, kE f11 rfl, kE f12 rfl, kE f13 rfl, kE f14 rfl, kE f15 rfl, kE f16 rfl, kE f17 rfl, kE f18 rfl, kE f19 rfl, kE f20 rfl, fun _ => upd_same _ _ _, kE f22 rfl, kE f23 rfl, kE f24 rfl⟩⟩
                · have d16 := getD_ft (haf _ rfl ⟨16, .guard⟩ (by simp) rfl)
                  have e42 : b.eval (.tmp 42) = .bool true := by rw [hbe, eval_in _ _ _ 16 (by decide) rfl (by rw [hz0]; decide)]; exact f16 d16
                  have t42 : b.tmps[42]?.getD undef = .bool true := by have tv := e42; simpa only [Act.eval, Array.getD_eq_getD_getElem?] using tv
                  refine wpOp_off rfl (wanted_off rfl rfl rfl t42) ⟨_, _, rfl, rfl, ⟨hBw, kE f0 rfl, kE f1 rfl, kE f2 rfl, fun h => by obtain ⟨A8, c8, hx⟩ := f3 (by rw [← getD_set_ne true (show 22 ≠ 3 by decide)]; exact h); exact ⟨A8, c8, by rw [upd_ne x _ (by decide)]; exact hx⟩, kE f4 rfl, kE f5 rfl, kE f6 rfl, kE f7 rfl, kE f8 rfl, kE f9 rfl, kE f10 rfl, kE f11 rfl, kE f12 rfl, kE f13 rfl, kE f14 rfl, kE f15 rfl, kE f16 rfl, kE f17 rfl, kE f18 rfl, kE f19 rfl, kE f20 rfl, kE f21 rfl, fun _ => upd_same _ _ _, kE f23 rfl, kE f24 rfl⟩⟩
                · have d16 := getD_ft (haf _ rfl ⟨16, .guard⟩ (by simp) rfl)
                  have e42 : b.eval (.tmp 42) = .bool true := by rw [hbe, eval_in _ _ _ 16 (by decide) rfl (by rw [hz0]; decide)]; exact f16 d16
                  have t42 : b.tmps[42]?.getD undef = .bool true := by have tv := e42; simpa only [Act.eval, Array.getD_eq_getD_getElem?] using tv
                  refine wpOp_off rfl (wanted_off rfl rfl rfl t42) ⟨_, _, rfl, rfl, ⟨hBw, kE f0 rfl, kE f1 rfl, kE f2 rfl, fun h => by obtain ⟨A8, c8, hx⟩ := f3 (by rw [← getD_set_ne true (show 23 ≠ 3 by decide)]; exact h); exact ⟨A8, c8, by rw [upd_ne x _ (by decide)]; exact hx⟩, kE f4 rfl, kE f5 rfl, kE f6 rfl, kE f7 rfl, kE f8 rfl, kE f9 rfl, kE f10 rfl, kE f11 rfl, kE f12 rfl, kE f13 rfl, kE f14 rfl, kE f15 rfl, kE f16 rfl, kE f17 rfl, kE f18 rfl, kE f19 rfl, kE f20 rfl, kE f21 rfl, kE f22 rfl, fun _ => upd_same _ _ _, kE f24 rfl⟩⟩
                · have d16 := getD_ft (haf _ rfl ⟨16, .data⟩ (by simp) rfl)
                  have e42 : b.eval (.tmp 42) = .bool true := by rw [hbe, eval_in _ _ _ 16 (by decide) rfl (by rw [hz0]; decide)]; exact f16 d16
                  have t42 : b.tmps[42]?.getD undef = .bool true := by have tv := e42; simpa only [Act.eval, Array.getD_eq_getD_getElem?] using tv
                  refine wpOp_runs (v := .bool true) rfl rfl (by simp [execOp, go_sem, t42]) ⟨_, _, rfl, rfl, ⟨hBw, kE f0 rfl, kE f1 rfl, kE f2 rfl, fun h => by obtain ⟨A8, c8, hx⟩ := f3 (by rw [← getD_set_ne true (show 24 ≠ 3 by decide)]; exact h); exact ⟨A8, c8, by rw [upd_ne x _ (by decide)]; exact hx⟩, kE f4 rfl, kE f5 rfl, kE f6 rfl, kE f7 rfl, kE f8 rfl, kE f9 rfl, kE f10 rfl, kE f11 rfl, kE f12 rfl, kE f13 rfl, kE f14 rfl, kE f15 rfl, kE f16 rfl, kE f17 rfl, kE f18 rfl, kE f19 rfl, kE f20 rfl, kE f21 rfl, kE f22 rfl, kE f23 rfl, fun _ => upd_same _ _ _⟩⟩
              intro V x w' hall hF
              obtain ⟨hbF, f0, f1, f2, f3, f4, f5, f6, f7, f8, f9, f10, f11, f12, f13, f14, f15, f16, f17, f18, f19, f20, f21, f22, f23, f24⟩ := hF
              have hx24 := f24 (hall 24 (by decide))
              clear hall f0 f1 f2 f3 f4 f5 f6 f7 f8 f9 f10 f11 f12 f13 f14 f15 f16 f17 f18 f19 f20 f21 f22 f23 f24
              subst ha0
              simp only [List.map_cons, List.map_nil, putAll, hx24]
              clear hx24
              go_simp
              have hBk := HB2.out.trans (hbF.mono hs2)
              go_wp2_with fail
              go_roundw
              case rel => exact ⟨k + 1, by go_num, by omega, by omega, HP2, hBk⟩
              case measure => simp [intOf]; omega
            · have g1 : ((n : Int) != 2 + (fl : Int)) = false := by simp; omega
              obtain ⟨ad, rfl, hab, c0⟩ := hl2.lst.atS (k := 0) HD.out (by omega)
              rw [add_zero_] at c0
              obtain ⟨x0, hx0⟩ : ∃ x, gS l 0 = x := ⟨_, rfl⟩
              rw [hx0] at c0 e2
              have gs0 := ne_str e2
              have E1 := Lib.hid e1
              clear hx0 e2 hF hl2 e1
              generalize bs x0 = s0 at *
              generalize bs so = s1 at *
              go_upto_region 9 with fail
              have hwr : IntKind.i64.wrap (2 + (fl : Int)) = 2 + (fl : Int) := IntWalk.i64_in _ (by omega)
              have hn0 : (0 : Int) < (n : Int) := by have := E1.out; omega
              have hn00 : ¬ n = 0 := by have := E1.out; omega
              refine gen_frame ?_
              intro a0 ha0
              try simp only [List.append]
              refine wp_region_frames rfl (by kernel_rfl) (by kernel_rfl) (fun V x w' => Below w2.heap.size w2 w' ∧ (V.getD 0 true = true → x 0 = .slice (some ad) n c) ∧ (V.getD 1 true = true → x 1 = .int .i64 (n : Int)) ∧ (V.getD 2 true = true → x 2 = .agg #[.int .i64 (o : Int), .int .i64 (k : Int), .int .i64 0, .int .i64 0, .int .i64 0, .int .i64 0, .int .i64 0, .int .i64 0, .int .i64 0, .int .i64 0, .int .i64 0, .int .i64 0, .int .i64 0]) ∧ (V.getD 3 true = true → ∃ A8 c8, x 3 = .slice A8 fl c8) ∧ (V.getD 4 true = true → x 4 = .int .i64 (fl : Int)) ∧ (V.getD 5 true = true → x 5 = .int .i64 (2 + (fl : Int))) ∧ (V.getD 6 true = true → x 6 = .bool false) ∧ (V.getD 7 true = true → x 7 = .bool false) ∧ (V.getD 8 true = true → x 8 = .slice (some ad) n c) ∧ (V.getD 9 true = true → x 9 = .pointer (some ad)) ∧ (V.getD 10 true = true → x 10 = .string s0) ∧ (V.getD 11 true = true → x 11 = .slice (some ⟨g, 0, none⟩) 2 2) ∧ (V.getD 12 true = true → x 12 = .pointer (some ⟨g, 0, none⟩)) ∧ (V.getD 13 true = true → x 13 = .string s1) ∧ (V.getD 14 true = true → x 14 = .bool true) ∧ (V.getD 15 true = true → x 15 = .bool true) ∧ (V.getD 16 true = true → x 16 = .bool true) ∧ (V.getD 17 true = true → x 17 = undef) ∧ (V.getD 18 true = true → x 18 = undef) ∧ (V.getD 19 true = true → x 19 = undef) ∧ (V.getD 20 true = true → x 20 = undef) ∧ (V.getD 21 true = true → x 21 = undef) ∧ (V.getD 22 true = true → x 22 = undef) ∧ (V.getD 23 true = true → x 23 = undef) ∧ (V.getD 24 true = true → x 24 = .bool true)) ?_ ?_ ?_
              · intro x
                refine ⟨(Below.refl _ _).drew, ?_, ?_, ?_, ?_, ?_, ?_, ?_, ?_, ?_, ?_, ?_, ?_, ?_, ?_, ?_, ?_, ?_, ?_, ?_, ?_, ?_, ?_, ?_, ?_, ?_⟩ <;> exact fun h => by simp at h
              · intro V x b w' hbq hsz hF i hi hun haf hcl
                obtain ⟨hBw, f0, f1, f2, f3, f4, f5, f6, f7, f8, f9, f10, f11, f12, f13, f14, f15, f16, f17, f18, f19, f20, f21, f22, f23, f24⟩ := hF
                have hbe : b = putAll a0 [some 26, some 27, some 28, some 29, some 30, some 31, some 32, some 33, some 34, some 35, some 36, some 37, some 38, some 39, some 40, some 41, some 42, some 43, some 44, some 45, some 46, some 47, some 48, some 49, some 50] x 0 := hbq
                have hz0 : a0.tmps.size = 82 := by rw [ha0]; rfl
                have e0 : b.eval (.tmp 0) = .slice (some ad) n c := by rw [hbe, eval_out _ _ _ (by decide), ha0]; rfl
                have t0 : b.tmps[0]?.getD undef = .slice (some ad) n c := by simpa [Act.eval] using e0
                have e6 : b.eval (.tmp 6) = .pointer (some ⟨bf, 0, none⟩) := by rw [hbe, eval_out _ _ _ (by decide), ha0]; rfl
                have t6 : b.tmps[6]?.getD undef = .pointer (some ⟨bf, 0, none⟩) := by simpa [Act.eval] using e6
                have e7 : b.eval (.tmp 7) = .slice (some ⟨g, 0, none⟩) 2 2 := by rw [hbe, eval_out _ _ _ (by decide), ha0]; rfl
                have t7 : b.tmps[7]?.getD undef = .slice (some ⟨g, 0, none⟩) 2 2 := by simpa [Act.eval] using e7
                clear hbq
                have hi' : i < 25 := hi
                clear hi
                obtain rfl | rfl | rfl | rfl | rfl | rfl | rfl | rfl | rfl | rfl | rfl | rfl | rfl | rfl | rfl | rfl | rfl | rfl | rfl | rfl | rfl | rfl | rfl | rfl | rfl : i = 0 ∨ i = 1 ∨ i = 2 ∨ i = 3 ∨ i = 4 ∨ i = 5 ∨ i = 6 ∨ i = 7 ∨ i = 8 ∨ i = 9 ∨ i = 10 ∨ i = 11 ∨ i = 12 ∨ i = 13 ∨ i = 14 ∨ i = 15 ∨ i = 16 ∨ i = 17 ∨ i = 18 ∨ i = 19 ∨ i = 20 ∨ i = 21 ∨ i = 22 ∨ i = 23 ∨ i = 24 := by omega
                · refine wpOp_runs (v := .slice (some ad) n c) rfl rfl (by simp [execOp, go_sem, t0]) ⟨_, _, rfl, rfl, ⟨hBw, fun _ => upd_same _ _ _, kE f1 rfl, kE f2 rfl, fun h => by obtain ⟨A8, c8, hx⟩ := f3 (by rw [← getD_set_ne true (show 0 ≠ 3 by decide)]; exact h); exact ⟨A8, c8, by rw [upd_ne x _ (by decide)]; exact hx⟩, kE f4 rfl, kE f5 rfl, kE f6 rfl, kE f7 rfl, kE f8 rfl, kE f9 rfl, kE f10 rfl, kE f11 rfl, kE f12 rfl, kE f13 rfl, kE f14 rfl, kE f15 rfl, kE f16 rfl, kE f17 rfl, kE f18 rfl, kE f19 rfl, kE f20 rfl, kE f21 rfl, kE f22 rfl, kE f23 rfl, kE f24 rfl⟩⟩
                · have d0 := getD_ft (haf _ rfl ⟨0, .data⟩ (by simp) rfl)
                  have e26 : b.eval (.tmp 26) = .slice (some ad) n c := by rw [hbe, eval_in _ _ _ 0 (by decide) rfl (by rw [hz0]; decide)]; exact f0 d0
                  have t26 : b.tmps[26]?.getD undef = .slice (some ad) n c := by have tv := e26; simpa only [Act.eval, Array.getD_eq_getD_getElem?] using tv
                  refine wpOp_runs (v := .int .i64 (n : Int)) rfl rfl (by simp [execOp, go_sem, t26]) ⟨_, _, rfl, rfl, ⟨hBw, kE f0 rfl, fun _ => upd_same _ _ _, kE f2 rfl, fun h => by obtain ⟨A8, c8, hx⟩ := f3 (by rw [← getD_set_ne true (show 1 ≠ 3 by decide)]; exact h); exact ⟨A8, c8, by rw [upd_ne x _ (by decide)]; exact hx⟩, kE f4 rfl, kE f5 rfl, kE f6 rfl, kE f7 rfl, kE f8 rfl, kE f9 rfl, kE f10 rfl, kE f11 rfl, kE f12 rfl, kE f13 rfl, kE f14 rfl, kE f15 rfl, kE f16 rfl, kE f17 rfl, kE f18 rfl, kE f19 rfl, kE f20 rfl, kE f21 rfl, kE f22 rfl, kE f23 rfl, kE f24 rfl⟩⟩
                · have rr0 := (hBw.cell (block_lt_of_cell y0)).trans y0
                  have rr1 := (hBw.cell (block_lt_of_cell y1)).trans y1
                  have rr2 := (hBw.cell (block_lt_of_cell y2)).trans y2
                  have rr3 := (hBw.cell (block_lt_of_cell y3)).trans y3
                  have rr4 := (hBw.cell (block_lt_of_cell y4)).trans y4
                  have rr5 := (hBw.cell (block_lt_of_cell y5)).trans y5
                  have rr6 := (hBw.cell (block_lt_of_cell y6)).trans y6
                  have rr7 := (hBw.cell (block_lt_of_cell y7)).trans y7
                  have rr8 := (hBw.cell (block_lt_of_cell y8)).trans y8
                  have rr9 := (hBw.cell (block_lt_of_cell y9)).trans y9
                  have rr10 := (hBw.cell (block_lt_of_cell y10)).trans y10
                  have rr11 := (hBw.cell (block_lt_of_cell y11)).trans y11
                  have rr12 := (hBw.cell (block_lt_of_cell y12)).trans y12
                  refine wpOp_runs (v := .agg #[.int .i64 (o : Int), .int .i64 (k : Int), .int .i64 0, .int .i64 0, .int .i64 0, .int .i64 0, .int .i64 0, .int .i64 0, .int .i64 0, .int .i64 0, .int .i64 0, .int .i64 0, .int .i64 0]) rfl rfl (by simp [execOp, go_sem, t6, rr0, rr1, rr2, rr3, rr4, rr5, rr6, rr7, rr8, rr9, rr10, rr11, rr12]) ⟨_, _, rfl, rfl, ⟨hBw, kE f0 rfl, kE f1 rfl, fun _ => upd_same _ _ _, fun h => by obtain ⟨A8, c8, hx⟩ := f3 (by rw [← getD_set_ne true (show 2 ≠ 3 by decide)]; exact h); exact ⟨A8, c8, by rw [upd_ne x _ (by decide)]; exact hx⟩, kE f4 rfl, kE f5 rfl, kE f6 rfl, kE f7 rfl, kE f8 rfl, kE f9 rfl, kE f10 rfl, kE f11 rfl, kE f12 rfl, kE f13 rfl, kE f14 rfl, kE f15 rfl, kE f16 rfl, kE f17 rfl, kE f18 rfl, kE f19 rfl, kE f20 rfl, kE f21 rfl, kE f22 rfl, kE f23 rfl, kE f24 rfl⟩⟩
                · have d2 := getD_ft (haf _ rfl ⟨2, .data⟩ (by simp) rfl)
                  have e28 : b.eval (.tmp 28) = .agg #[.int .i64 (o : Int), .int .i64 (k : Int), .int .i64 0, .int .i64 0, .int .i64 0, .int .i64 0, .int .i64 0, .int .i64 0, .int .i64 0, .int .i64 0, .int .i64 0, .int .i64 0, .int .i64 0] := by rw [hbe, eval_in _ _ _ 2 (by decide) rfl (by rw [hz0]; decide)]; exact f2 d2
                  have t28 : b.tmps[28]?.getD undef = .agg #[.int .i64 (o : Int), .int .i64 (k : Int), .int .i64 0, .int .i64 0, .int .i64 0, .int .i64 0, .int .i64 0, .int .i64 0, .int .i64 0, .int .i64 0, .int .i64 0, .int .i64 0, .int .i64 0] := by have tv := e28; simpa only [Act.eval, Array.getD_eq_getD_getElem?] using tv
                  refine wpOp_call_on rfl (by simp [Region.wanted]) 37 #[.tmp 28] _ rfl #[.agg #[.int .i64 (o : Int), .int .i64 (k : Int), .int .i64 0, .int .i64 0, .int .i64 0, .int .i64 0, .int .i64 0, .int .i64 0, .int .i64 0, .int .i64 0, .int .i64 0, .int .i64 0, .int .i64 0]] (by simp [e28]) Tryz.func37 rfl rfl ?_
                  refine (rnums_sl o k fl HOK.out HBN.out w').mono ?_
                  rintro e w'' ⟨A8, c8, rfl, hb⟩
                  exact ⟨_, rfl, _, _, rfl, rfl, ⟨hBw.trans (hb.mono hBw.size), kE f0 rfl, kE f1 rfl, kE f2 rfl, fun _ => ⟨A8, c8, upd_same _ _ _⟩, kE f4 rfl, kE f5 rfl, kE f6 rfl, kE f7 rfl, kE f8 rfl, kE f9 rfl, kE f10 rfl, kE f11 rfl, kE f12 rfl, kE f13 rfl, kE f14 rfl, kE f15 rfl, kE f16 rfl, kE f17 rfl, kE f18 rfl, kE f19 rfl, kE f20 rfl, kE f21 rfl, kE f22 rfl, kE f23 rfl, kE f24 rfl⟩⟩
                · have d3 := getD_ft (haf _ rfl ⟨3, .data⟩ (by simp) rfl)
                  obtain ⟨A8, c8, hx⟩ := f3 d3
                  have e29 : b.eval (.tmp 29) = .slice A8 fl c8 := by rw [hbe, eval_in _ _ _ 3 (by decide) rfl (by rw [hz0]; decide)]; exact hx
                  have t29 : b.tmps[29]?.getD undef = .slice A8 fl c8 := by have tv := e29; simpa only [Act.eval, Array.getD_eq_getD_getElem?] using tv
                  refine wpOp_runs (v := .int .i64 (fl : Int)) rfl rfl (by simp [execOp, go_sem, t29]) ⟨_, _, rfl, rfl, ⟨hBw, kE f0 rfl, kE f1 rfl, kE f2 rfl, fun h => by obtain ⟨A8, c8, hx⟩ := f3 (by rw [← getD_set_ne true (show 4 ≠ 3 by decide)]; exact h); exact ⟨A8, c8, by rw [upd_ne x _ (by decide)]; exact hx⟩, fun _ => upd_same _ _ _, kE f5 rfl, kE f6 rfl, kE f7 rfl, kE f8 rfl, kE f9 rfl, kE f10 rfl, kE f11 rfl, kE f12 rfl, kE f13 rfl, kE f14 rfl, kE f15 rfl, kE f16 rfl, kE f17 rfl, kE f18 rfl, kE f19 rfl, kE f20 rfl, kE f21 rfl, kE f22 rfl, kE f23 rfl, kE f24 rfl⟩⟩
                · have d4 := getD_ft (haf _ rfl ⟨4, .data⟩ (by simp) rfl)
                  have e30 : b.eval (.tmp 30) = .int .i64 (fl : Int) := by rw [hbe, eval_in _ _ _ 4 (by decide) rfl (by rw [hz0]; decide)]; exact f4 d4
                  have t30 : b.tmps[30]?.getD undef = .int .i64 (fl : Int) := by have tv := e30; simpa only [Act.eval, Array.getD_eq_getD_getElem?] using tv
                  refine wpOp_runs (v := .int .i64 (2 + (fl : Int))) rfl rfl (by simp [execOp, go_sem, t30, hwr]) ⟨_, _, rfl, rfl, ⟨hBw, kE f0 rfl, kE f1 rfl, kE f2 rfl, fun h => by obtain ⟨A8, c8, hx⟩ := f3 (by rw [← getD_set_ne true (show 5 ≠ 3 by decide)]; exact h); exact ⟨A8, c8, by rw [upd_ne x _ (by decide)]; exact hx⟩, kE f4 rfl, fun _ => upd_same _ _ _, kE f6 rfl, kE f7 rfl, kE f8 rfl, kE f9 rfl, kE f10 rfl, kE f11 rfl, kE f12 rfl, kE f13 rfl, kE f14 rfl, kE f15 rfl, kE f16 rfl, kE f17 rfl, kE f18 rfl, kE f19 rfl, kE f20 rfl, kE f21 rfl, kE f22 rfl, kE f23 rfl, kE f24 rfl⟩⟩
                · have d1 := getD_ft (haf _ rfl ⟨1, .data⟩ (by simp) rfl)
                  have e27 : b.eval (.tmp 27) = .int .i64 (n : Int) := by rw [hbe, eval_in _ _ _ 1 (by decide) rfl (by rw [hz0]; decide)]; exact f1 d1
                  have t27 : b.tmps[27]?.getD undef = .int .i64 (n : Int) := by have tv := e27; simpa only [Act.eval, Array.getD_eq_getD_getElem?] using tv
                  have d5 := getD_ft (haf _ rfl ⟨5, .data⟩ (by simp) rfl)
                  have e31 : b.eval (.tmp 31) = .int .i64 (2 + (fl : Int)) := by rw [hbe, eval_in _ _ _ 5 (by decide) rfl (by rw [hz0]; decide)]; exact f5 d5
                  have t31 : b.tmps[31]?.getD undef = .int .i64 (2 + (fl : Int)) := by have tv := e31; simpa only [Act.eval, Array.getD_eq_getD_getElem?] using tv
                  refine wpOp_runs (v := .bool false) rfl rfl (by simp [execOp, go_sem, t27, t31, g1]) ⟨_, _, rfl, rfl, ⟨hBw, kE f0 rfl, kE f1 rfl, kE f2 rfl, fun h => by obtain ⟨A8, c8, hx⟩ := f3 (by rw [← getD_set_ne true (show 6 ≠ 3 by decide)]; exact h); exact ⟨A8, c8, by rw [upd_ne x _ (by decide)]; exact hx⟩, kE f4 rfl, kE f5 rfl, fun _ => upd_same _ _ _, kE f7 rfl, kE f8 rfl, kE f9 rfl, kE f10 rfl, kE f11 rfl, kE f12 rfl, kE f13 rfl, kE f14 rfl, kE f15 rfl, kE f16 rfl, kE f17 rfl, kE f18 rfl, kE f19 rfl, kE f20 rfl, kE f21 rfl, kE f22 rfl, kE f23 rfl, kE f24 rfl⟩⟩
                · have d6 := getD_ft (haf _ rfl ⟨6, .data⟩ (by simp) rfl)
                  have e32 : b.eval (.tmp 32) = .bool false := by rw [hbe, eval_in _ _ _ 6 (by decide) rfl (by rw [hz0]; decide)]; exact f6 d6
                  have t32 : b.tmps[32]?.getD undef = .bool false := by have tv := e32; simpa only [Act.eval, Array.getD_eq_getD_getElem?] using tv
                  refine wpOp_runs (v := .bool false) rfl rfl (by simp [execOp, go_sem, t32]) ⟨_, _, rfl, rfl, ⟨hBw, kE f0 rfl, kE f1 rfl, kE f2 rfl, fun h => by obtain ⟨A8, c8, hx⟩ := f3 (by rw [← getD_set_ne true (show 7 ≠ 3 by decide)]; exact h); exact ⟨A8, c8, by rw [upd_ne x _ (by decide)]; exact hx⟩, kE f4 rfl, kE f5 rfl, kE f6 rfl, fun _ => upd_same _ _ _, kE f8 rfl, kE f9 rfl, kE f10 rfl, kE f11 rfl, kE f12 rfl, kE f13 rfl, kE f14 rfl, kE f15 rfl, kE f16 rfl, kE f17 rfl, kE f18 rfl, kE f19 rfl, kE f20 rfl, kE f21 rfl, kE f22 rfl, kE f23 rfl, kE f24 rfl⟩⟩
                · have d7 := getD_ft (haf _ rfl ⟨7, .guard⟩ (by simp) rfl)
                  have e33 : b.eval (.tmp 33) = .bool false := by rw [hbe, eval_in _ _ _ 7 (by decide) rfl (by rw [hz0]; decide)]; exact f7 d7
                  have t33 : b.tmps[33]?.getD undef = .bool false := by have tv := e33; simpa only [Act.eval, Array.getD_eq_getD_getElem?] using tv
                  refine wpOp_runs_on (v := .slice (some ad) n c) rfl (wanted_on rfl rfl rfl t33) (by simp [execOp, go_sem, t0]) ⟨_, _, rfl, rfl, ⟨hBw, kE f0 rfl, kE f1 rfl, kE f2 rfl, fun h => by obtain ⟨A8, c8, hx⟩ := f3 (by rw [← getD_set_ne true (show 8 ≠ 3 by decide)]; exact h); exact ⟨A8, c8, by rw [upd_ne x _ (by decide)]; exact hx⟩, kE f4 rfl, kE f5 rfl, kE f6 rfl, kE f7 rfl, fun _ => upd_same _ _ _, kE f9 rfl, kE f10 rfl, kE f11 rfl, kE f12 rfl, kE f13 rfl, kE f14 rfl, kE f15 rfl, kE f16 rfl, kE f17 rfl, kE f18 rfl, kE f19 rfl, kE f20 rfl, kE f21 rfl, kE f22 rfl, kE f23 rfl, kE f24 rfl⟩⟩
                · have d7 := getD_ft (haf _ rfl ⟨7, .guard⟩ (by simp) rfl)
                  have e33 : b.eval (.tmp 33) = .bool false := by rw [hbe, eval_in _ _ _ 7 (by decide) rfl (by rw [hz0]; decide)]; exact f7 d7
                  have t33 : b.tmps[33]?.getD undef = .bool false := by have tv := e33; simpa only [Act.eval, Array.getD_eq_getD_getElem?] using tv
                  have d8 := getD_ft (haf _ rfl ⟨8, .data⟩ (by simp) rfl)
                  have e34 : b.eval (.tmp 34) = .slice (some ad) n c := by rw [hbe, eval_in _ _ _ 8 (by decide) rfl (by rw [hz0]; decide)]; exact f8 d8
                  have t34 : b.tmps[34]?.getD undef = .slice (some ad) n c := by have tv := e34; simpa only [Act.eval, Array.getD_eq_getD_getElem?] using tv
                  refine wpOp_runs_on (v := .pointer (some ad)) rfl (wanted_on rfl rfl rfl t33) (by simp [execOp, go_sem, t34, hn0, hn00, add_zero_]) ⟨_, _, rfl, rfl, ⟨hBw, kE f0 rfl, kE f1 rfl, kE f2 rfl, fun h => by obtain ⟨A8, c8, hx⟩ := f3 (by rw [← getD_set_ne true (show 9 ≠ 3 by decide)]; exact h); exact ⟨A8, c8, by rw [upd_ne x _ (by decide)]; exact hx⟩, kE f4 rfl, kE f5 rfl, kE f6 rfl, kE f7 rfl, kE f8 rfl, fun _ => upd_same _ _ _, kE f10 rfl, kE f11 rfl, kE f12 rfl, kE f13 rfl, kE f14 rfl, kE f15 rfl, kE f16 rfl, kE f17 rfl, kE f18 rfl, kE f19 rfl, kE f20 rfl, kE f21 rfl, kE f22 rfl, kE f23 rfl, kE f24 rfl⟩⟩
                · have d7 := getD_ft (haf _ rfl ⟨7, .guard⟩ (by simp) rfl)
                  have e33 : b.eval (.tmp 33) = .bool false := by rw [hbe, eval_in _ _ _ 7 (by decide) rfl (by rw [hz0]; decide)]; exact f7 d7
                  have t33 : b.tmps[33]?.getD undef = .bool false := by have tv := e33; simpa only [Act.eval, Array.getD_eq_getD_getElem?] using tv
                  have d9 := getD_ft (haf _ rfl ⟨9, .data⟩ (by simp) rfl)
                  have e35 : b.eval (.tmp 35) = .pointer (some ad) := by rw [hbe, eval_in _ _ _ 9 (by decide) rfl (by rw [hz0]; decide)]; exact f9 d9
                  have t35 : b.tmps[35]?.getD undef = .pointer (some ad) := by have tv := e35; simpa only [Act.eval, Array.getD_eq_getD_getElem?] using tv
                  have rr := (hBw.cell (block_lt_of_cell c0)).trans c0
                  refine wpOp_runs_on (v := .string s0) rfl (wanted_on rfl rfl rfl t33) (by simp [execOp, go_sem, t35, rr]) ⟨_, _, rfl, rfl, ⟨hBw, kE f0 rfl, kE f1 rfl, kE f2 rfl, fun h => by obtain ⟨A8, c8, hx⟩ := f3 (by rw [← getD_set_ne true (show 10 ≠ 3 by decide)]; exact h); exact ⟨A8, c8, by rw [upd_ne x _ (by decide)]; exact hx⟩, kE f4 rfl, kE f5 rfl, kE f6 rfl, kE f7 rfl, kE f8 rfl, kE f9 rfl, fun _ => upd_same _ _ _, kE f11 rfl, kE f12 rfl, kE f13 rfl, kE f14 rfl, kE f15 rfl, kE f16 rfl, kE f17 rfl, kE f18 rfl, kE f19 rfl, kE f20 rfl, kE f21 rfl, kE f22 rfl, kE f23 rfl, kE f24 rfl⟩⟩
                · have d7 := getD_ft (haf _ rfl ⟨7, .guard⟩ (by simp) rfl)
                  have e33 : b.eval (.tmp 33) = .bool false := by rw [hbe, eval_in _ _ _ 7 (by decide) rfl (by rw [hz0]; decide)]; exact f7 d7
                  have t33 : b.tmps[33]?.getD undef = .bool false := by have tv := e33; simpa only [Act.eval, Array.getD_eq_getD_getElem?] using tv
                  refine wpOp_runs_on (v := .slice (some ⟨g, 0, none⟩) 2 2) rfl (wanted_on rfl rfl rfl t33) (by simp [execOp, go_sem, t7]) ⟨_, _, rfl, rfl, ⟨hBw, kE f0 rfl, kE f1 rfl, kE f2 rfl, fun h => by obtain ⟨A8, c8, hx⟩ := f3 (by rw [← getD_set_ne true (show 11 ≠ 3 by decide)]; exact h); exact ⟨A8, c8, by rw [upd_ne x _ (by decide)]; exact hx⟩, kE f4 rfl, kE f5 rfl, kE f6 rfl, kE f7 rfl, kE f8 rfl, kE f9 rfl, kE f10 rfl, fun _ => upd_same _ _ _, kE f12 rfl, kE f13 rfl, kE f14 rfl, kE f15 rfl, kE f16 rfl, kE f17 rfl, kE f18 rfl, kE f19 rfl, kE f20 rfl, kE f21 rfl, kE f22 rfl, kE f23 rfl, kE f24 rfl⟩⟩
                · have d7 := getD_ft (haf _ rfl ⟨7, .guard⟩ (by simp) rfl)
                  have e33 : b.eval (.tmp 33) = .bool false := by rw [hbe, eval_in _ _ _ 7 (by decide) rfl (by rw [hz0]; decide)]; exact f7 d7
                  have t33 : b.tmps[33]?.getD undef = .bool false := by have tv := e33; simpa only [Act.eval, Array.getD_eq_getD_getElem?] using tv
                  have d11 := getD_ft (haf _ rfl ⟨11, .data⟩ (by simp) rfl)
                  have e37 : b.eval (.tmp 37) = .slice (some ⟨g, 0, none⟩) 2 2 := by rw [hbe, eval_in _ _ _ 11 (by decide) rfl (by rw [hz0]; decide)]; exact f11 d11
                  have t37 : b.tmps[37]?.getD undef = .slice (some ⟨g, 0, none⟩) 2 2 := by have tv := e37; simpa only [Act.eval, Array.getD_eq_getD_getElem?] using tv
                  refine wpOp_runs_on (v := .pointer (some ⟨g, 0, none⟩)) rfl (wanted_on rfl rfl rfl t33) (by simp [execOp, go_sem, t37]) ⟨_, _, rfl, rfl, ⟨hBw, kE f0 rfl, kE f1 rfl, kE f2 rfl, fun h => by obtain ⟨A8, c8, hx⟩ := f3 (by rw [← getD_set_ne true (show 12 ≠ 3 by decide)]; exact h); exact ⟨A8, c8, by rw [upd_ne x _ (by decide)]; exact hx⟩, kE f4 rfl, kE f5 rfl, kE f6 rfl, kE f7 rfl, kE f8 rfl, kE f9 rfl, kE f10 rfl, kE f11 rfl, fun _ => upd_same _ _ _, kE f13 rfl, kE f14 rfl, kE f15 rfl, kE f16 rfl, kE f17 rfl, kE f18 rfl, kE f19 rfl, kE f20 rfl, kE f21 rfl, kE f22 rfl, kE f23 rfl, kE f24 rfl⟩⟩
                · have d7 := getD_ft (haf _ rfl ⟨7, .guard⟩ (by simp) rfl)
                  have e33 : b.eval (.tmp 33) = .bool false := by rw [hbe, eval_in _ _ _ 7 (by decide) rfl (by rw [hz0]; decide)]; exact f7 d7
                  have t33 : b.tmps[33]?.getD undef = .bool false := by have tv := e33; simpa only [Act.eval, Array.getD_eq_getD_getElem?] using tv
                  have d12 := getD_ft (haf _ rfl ⟨12, .data⟩ (by simp) rfl)
                  have e38 : b.eval (.tmp 38) = .pointer (some ⟨g, 0, none⟩) := by rw [hbe, eval_in _ _ _ 12 (by decide) rfl (by rw [hz0]; decide)]; exact f12 d12
                  have t38 : b.tmps[38]?.getD undef = .pointer (some ⟨g, 0, none⟩) := by have tv := e38; simpa only [Act.eval, Array.getD_eq_getD_getElem?] using tv
                  have rr := (hBw.cell (block_lt_of_cell hg0)).trans hg0
                  refine wpOp_runs_on (v := .string s1) rfl (wanted_on rfl rfl rfl t33) (by simp [execOp, go_sem, t38, rr]) ⟨_, _, rfl, rfl, ⟨hBw, kE f0 rfl, kE f1 rfl, kE f2 rfl, fun h => by obtain ⟨A8, c8, hx⟩ := f3 (by rw [← getD_set_ne true (show 13 ≠ 3 by decide)]; exact h); exact ⟨A8, c8, by rw [upd_ne x _ (by decide)]; exact hx⟩, kE f4 rfl, kE f5 rfl, kE f6 rfl, kE f7 rfl, kE f8 rfl, kE f9 rfl, kE f10 rfl, kE f11 rfl, kE f12 rfl, fun _ => upd_same _ _ _, kE f14 rfl, kE f15 rfl, kE f16 rfl, kE f17 rfl, kE f18 rfl, kE f19 rfl, kE f20 rfl, kE f21 rfl, kE f22 rfl, kE f23 rfl, kE f24 rfl⟩⟩
                · have d7 := getD_ft (haf _ rfl ⟨7, .guard⟩ (by simp) rfl)
                  have e33 : b.eval (.tmp 33) = .bool false := by rw [hbe, eval_in _ _ _ 7 (by decide) rfl (by rw [hz0]; decide)]; exact f7 d7
                  have t33 : b.tmps[33]?.getD undef = .bool false := by have tv := e33; simpa only [Act.eval, Array.getD_eq_getD_getElem?] using tv
                  have d10 := getD_ft (haf _ rfl ⟨10, .data⟩ (by simp) rfl)
                  have e36 : b.eval (.tmp 36) = .string s0 := by rw [hbe, eval_in _ _ _ 10 (by decide) rfl (by rw [hz0]; decide)]; exact f10 d10
                  have t36 : b.tmps[36]?.getD undef = .string s0 := by have tv := e36; simpa only [Act.eval, Array.getD_eq_getD_getElem?] using tv
                  have d13 := getD_ft (haf _ rfl ⟨13, .data⟩ (by simp) rfl)
                  have e39 : b.eval (.tmp 39) = .string s1 := by rw [hbe, eval_in _ _ _ 13 (by decide) rfl (by rw [hz0]; decide)]; exact f13 d13
                  have t39 : b.tmps[39]?.getD undef = .string s1 := by have tv := e39; simpa only [Act.eval, Array.getD_eq_getD_getElem?] using tv
                  refine wpOp_runs_on (v := .bool true) rfl (wanted_on rfl rfl rfl t33) (by simp [execOp, go_sem, t36, t39, gs0]) ⟨_, _, rfl, rfl, ⟨hBw, kE f0 rfl, kE f1 rfl, kE f2 rfl, fun h => by obtain ⟨A8, c8, hx⟩ := f3 (by rw [← getD_set_ne true (show 14 ≠ 3 by decide)]; exact h); exact ⟨A8, c8, by rw [upd_ne x _ (by decide)]; exact hx⟩, kE f4 rfl, kE f5 rfl, kE f6 rfl, kE f7 rfl, kE f8 rfl, kE f9 rfl, kE f10 rfl, kE f11 rfl, kE f12 rfl, kE f13 rfl, fun _ => upd_same _ _ _, kE f15 rfl, kE f16 rfl, kE f17 rfl, kE f18 rfl, kE f19 rfl, kE f20 rfl, kE f21 rfl, kE f22 rfl, kE f23 rfl, kE f24 rfl⟩⟩
                · have d7 := getD_ft (haf _ rfl ⟨7, .data⟩ (by simp) rfl)
                  have e33 : b.eval (.tmp 33) = .bool false := by rw [hbe, eval_in _ _ _ 7 (by decide) rfl (by rw [hz0]; decide)]; exact f7 d7
                  have t33 : b.tmps[33]?.getD undef = .bool false := by have tv := e33; simpa only [Act.eval, Array.getD_eq_getD_getElem?] using tv
                  have d14 := getD_ft (haf _ rfl ⟨14, .data⟩ (by simp) rfl)
                  have e40 : b.eval (.tmp 40) = .bool true := by rw [hbe, eval_in _ _ _ 14 (by decide) rfl (by rw [hz0]; decide)]; exact f14 d14
                  have t40 : b.tmps[40]?.getD undef = .bool true := by have tv := e40; simpa only [Act.eval, Array.getD_eq_getD_getElem?] using tv
                  refine wpOp_runs (v := .bool true) rfl rfl (by simp [execOp, go_sem, t33, t40]) ⟨_, _, rfl, rfl, ⟨hBw, kE f0 rfl, kE f1 rfl, kE f2 rfl, fun h => by obtain ⟨A8, c8, hx⟩ := f3 (by rw [← getD_set_ne true (show 15 ≠ 3 by decide)]; exact h); exact ⟨A8, c8, by rw [upd_ne x _ (by decide)]; exact hx⟩, kE f4 rfl, kE f5 rfl, kE f6 rfl, kE f7 rfl, kE f8 rfl, kE f9 rfl, kE f10 rfl, kE f11 rfl, kE f12 rfl, kE f13 rfl, kE f14 rfl, fun _ => upd_same _ _ _, kE f16 rfl, kE f17 rfl, kE f18 rfl, kE f19 rfl, kE f20 rfl, kE f21 rfl, kE f22 rfl, kE f23 rfl, kE f24 rfl⟩⟩
                · have d15 := getD_ft (haf _ rfl ⟨15, .data⟩ (by simp) rfl)
                  have e41 : b.eval (.tmp 41) = .bool true := by rw [hbe, eval_in _ _ _ 15 (by decide) rfl (by rw [hz0]; decide)]; exact f15 d15
                  have t41 : b.tmps[41]?.getD undef = .bool true := by have tv := e41; simpa only [Act.eval, Array.getD_eq_getD_getElem?] using tv
                  refine wpOp_runs (v := .bool true) rfl rfl (by simp [execOp, go_sem, t41]) ⟨_, _, rfl, rfl, ⟨hBw, kE f0 rfl, kE f1 rfl, kE f2 rfl, fun h => by obtain ⟨A8, c8, hx⟩ := f3 (by rw [← getD_set_ne true (show 16 ≠ 3 by decide)]; exact h); exact ⟨A8, c8, by rw [upd_ne x _ (by decide)]; exact hx⟩, kE f4 rfl, kE f5 rfl, kE f6 rfl, kE f7 rfl, kE f8 rfl, kE f9 rfl, kE f10 rfl, kE f11 rfl, kE f12 rfl, kE f13 rfl, kE f14 rfl, kE f15 rfl, fun _ => upd_same _ _ _, kE f17 rfl, kE f18 rfl, kE f19 rfl, kE f20 rfl, kE f21 rfl, kE f22 rfl, kE f23 rfl, kE f24 rfl⟩⟩
                · have d16 := getD_ft (haf _ rfl ⟨16, .guard⟩ (by simp) rfl)
                  have e42 : b.eval (.tmp 42) = .bool true := by rw [hbe, eval_in _ _ _ 16 (by decide) rfl (by rw [hz0]; decide)]; exact f16 d16
                  have t42 : b.tmps[42]?.getD undef = .bool true := by have tv := e42; simpa only [Act.eval, Array.getD_eq_getD_getElem?] using tv
                  refine wpOp_off rfl (wanted_off rfl rfl rfl t42) ⟨_, _, rfl, rfl, ⟨hBw, kE f0 rfl, kE f1 rfl, kE f2 rfl, fun h => by obtain ⟨A8, c8, hx⟩ := f3 (by rw [← getD_set_ne true (show 17 ≠ 3 by decide)]; exact h); exact ⟨A8, c8, by rw [upd_ne x _ (by decide)]; exact hx⟩, kE f4 rfl, kE f5 rfl, kE f6 rfl, kE f7 rfl, kE f8 rfl, kE f9 rfl, kE f10 rfl, kE f11 rfl, kE f12 rfl, kE f13 rfl, kE f14 rfl, kE f15 rfl, kE f16 rfl, fun _ => upd_same _ _ _, kE f18 rfl, kE f19 rfl, kE f20 rfl, kE f21 rfl, kE f22 rfl, kE f23 rfl, kE f24 rfl⟩⟩
                · have d16 := getD_ft (haf _ rfl ⟨16, .guard⟩ (by simp) rfl)
                  have e42 : b.eval (.tmp 42) = .bool true := by rw [hbe, eval_in _ _ _ 16 (by decide) rfl (by rw [hz0]; decide)]; exact f16 d16
                  have t42 : b.tmps[42]?.getD undef = .bool true := by have tv := e42; simpa only [Act.eval, Array.getD_eq_getD_getElem?] using tv
                  refine wpOp_off rfl (wanted_off rfl rfl rfl t42) ⟨_, _, rfl, rfl, ⟨hBw, kE f0 rfl, kE f1 rfl, kE f2 rfl, fun h => by obtain ⟨A8, c8, hx⟩ := f3 (by rw [← getD_set_ne true (show 18 ≠ 3 by decide)]; exact h); exact ⟨A8, c8, by rw [upd_ne x _ (by decide)]; exact hx⟩, kE f4 rfl, kE f5 rfl, kE f6 rfl, kE f7 rfl, kE f8 rfl, kE f9 rfl, kE f10 rfl, kE f11 rfl, kE f12 rfl, kE f13 rfl, kE f14 rfl, kE f15 rfl, kE f16 rfl, kE f17 rfl, fun _ => upd_same _ _ _, kE f19 rfl, kE f20 rfl, kE f21 rfl, kE f22 rfl, kE f23 rfl, kE f24 rfl⟩⟩
                · have d16 := getD_ft (haf _ rfl ⟨16, .guard⟩ (by simp) rfl)
                  have e42 : b.eval (.tmp 42) = .bool true := by rw [hbe, eval_in _ _ _ 16 (by decide) rfl (by rw [hz0]; decide)]; exact f16 d16
                  have t42 : b.tmps[42]?.getD undef = .bool true := by have tv := e42; simpa only [Act.eval, Array.getD_eq_getD_getElem?] using tv
                  refine wpOp_off rfl (wanted_off rfl rfl rfl t42) ⟨_, _, rfl, rfl, ⟨hBw, kE f0 rfl, kE f1 rfl, kE f2 rfl, fun h => by obtain ⟨A8, c8, hx⟩ := f3 (by rw [← getD_set_ne true (show 19 ≠ 3 by decide)]; exact h); exact ⟨A8, c8, by rw [upd_ne x _ (by decide)]; exact hx⟩, kE f4 rfl, kE f5 rfl, kE f6 rfl, kE f7 rfl, kE f8 rfl, kE f9 rfl, kE f10 rfl, kE f11 rfl, kE f12 rfl, kE f13 rfl, kE f14 rfl, kE f15 rfl, kE f16 rfl, kE f17 rfl, kE f18 rfl, fun _ => upd_same _ _ _, kE f20 rfl, kE f21 rfl, kE f22 rfl, kE f23 rfl, kE f24 rfl⟩⟩
                · have d16 := getD_ft (haf _ rfl ⟨16, .guard⟩ (by simp) rfl)
                  have e42 : b.eval (.tmp 42) = .bool true := by rw [hbe, eval_in _ _ _ 16 (by decide) rfl (by rw [hz0]; decide)]; exact f16 d16
                  have t42 : b.tmps[42]?.getD undef = .bool true := by have tv := e42; simpa only [Act.eval, Array.getD_eq_getD_getElem?] using tv
                  refine wpOp_off rfl (wanted_off rfl rfl rfl t42) ⟨_, _, rfl, rfl, ⟨hBw, kE f0 rfl, kE f1 rfl, kE f2 rfl, fun h => by obtain ⟨A8, c8, hx⟩ := f3 (by rw [← getD_set_ne true (show 20 ≠ 3 by decide)]; exact h); exact ⟨A8, c8, by rw [upd_ne x _ (by decide)]; exact hx⟩, kE f4 rfl, kE f5 rfl, kE f6 rfl, kE f7 rfl, kE f8 rfl, kE f9 rfl, kE f10 rfl, kE f11 rfl, kE f12 rfl, kE f13 rfl, kE f14 rfl, kE f15 rfl, kE f16 rfl, kE f17 rfl, kE f18 rfl, kE f19 rfl, fun _ => upd_same _ _ _, kE f21 rfl, kE f22 rfl, kE f23 rfl, kE f24 rfl⟩⟩
                · have d16 := getD_ft (haf _ rfl ⟨16, .guard⟩ (by simp) rfl)
                  have e42 : b.eval (.tmp 42) = .bool true := by rw [hbe, eval_in _ _ _ 16 (by decide) rfl (by rw [hz0]; decide)]; exact f16 d16
                  have t42 : b.tmps[42]?.getD undef = .bool true := by have tv := e42; simpa only [Act.eval, Array.getD_eq_getD_getElem?] using tv
                  refine wpOp_off rfl (wanted_off rfl rfl rfl t42) ⟨_, _, rfl, rfl, ⟨hBw, kE f0 rfl, kE f1 rfl, kE f2 rfl, fun h => by obtain ⟨A8, c8, hx⟩ := f3 (by rw [← getD_set_ne true (show 21 ≠ 3 by decide)]; exact h); exact ⟨A8, c8, by rw [upd_ne x _ (by decide)]; exact hx⟩, kE f4 rfl, kE f5 rfl, kE f6 rfl, kE f7 rfl, kE f8 rfl, kE f9 rfl, kE f10 rfl, kE f11 rfl, kE f12 rfl, kE f13 rfl, kE f14 rfl, kE f15 rfl, kE f16 rfl, kE f17 rfl, kE f18 rfl, kE f19 rfl, kE f20 rfl, fun _ => upd_same _ _ _, kE f22 rfl, kE f23 rfl, kE f24 rfl⟩⟩
                · have d16 := getD_ft (haf _ rfl ⟨16, .guard⟩ (by simp) rfl)
                  have e42 : b.eval (.tmp 42) = .bool true := by rw [hbe, eval_in _ _ _ 16 (by decide) rfl (by rw [hz0]; decide)]; exact f16 d16
                  have t42 : b.tmps[42]?.getD undef = .bool true := by have tv := e42; simpa only [Act.eval, Array.getD_eq_getD_getElem?] using tv
                  refine wpOp_off rfl (wanted_off rfl rfl rfl t42) ⟨_, _, rfl, rfl, ⟨hBw, kE f0 rfl, kE f1 rfl, kE f2 rfl, fun h => by obtain ⟨A8, c8, hx⟩ := f3 (by rw [← getD_set_ne true (show 22 ≠ 3 by decide)]; exact h); exact ⟨A8, c8, by rw [upd_ne x _ (by decide)]; exact hx⟩, kE f4 rfl, kE f5 rfl, kE f6 rfl, kE f7 rfl, kE f8 rfl, kE f9 rfl, kE f10 rfl, kE f11 rfl, kE f12 rfl, kE f13 rfl, kE f14 rfl, kE f15 rfl, kE f16 rfl, kE f17 rfl, kE f18 rfl, kE f19 rfl, kE f20 rfl, kE f21 rfl, fun _ => upd_same _ _ _, kE f23 rfl, kE f24 rfl⟩⟩
                · have d16 := getD_ft (haf _ rfl ⟨16, .guard⟩ (by simp) rfl)
                  have e42 : b.eval (.tmp 42) = .bool true := by rw [hbe, eval_in _ _ _ 16 (by decide) rfl (by rw [hz0]; decide)]; exact f16 d16
                  have t42 : b.tmps[42]?.getD undef = .bool true := by have tv := e42; simpa only [Act.eval, Array.getD_eq_getD_getElem?] using tv
                  refine wpOp_off rfl (wanted_off rfl rfl rfl t42) ⟨_, _, rfl, rfl, ⟨hBw, kE f0 rfl, kE f1 rfl, kE f2 rfl, fun h => by obtain ⟨A8, c8, hx⟩ := f3 (by rw [← getD_set_ne true (show 23 ≠ 3 by decide)]; exact h); exact ⟨A8, c8, by rw [upd_ne x _ (by decide)]; exact hx⟩, kE f4 rfl, kE f5 rfl, kE f6 rfl, kE f7 rfl, kE f8 rfl, kE f9 rfl, kE f10 rfl, kE f11 rfl, kE f12 rfl, kE f13 rfl, kE f14 rfl, kE f15 rfl, kE f16 rfl, kE f17 rfl, kE f18 rfl, kE f19 rfl, kE f20 rfl, kE f21 rfl, kE f22 rfl, fun _ => upd_same _ _ _, kE f24 rfl⟩⟩
                · have d16 := getD_ft (haf _ rfl ⟨16, .data⟩ (by simp) rfl)
                  have e42 : b.eval (.tmp 42) = .bool true := by rw [hbe, eval_in _ _ _ 16 (by decide) rfl (by rw [hz0]; decide)]; exact f16 d16
                  have t42 : b.tmps[42]?.getD undef = .bool true := by have tv := e42; simpa only [Act.eval, Array.getD_eq_getD_getElem?] using tv
                  refine wpOp_runs (v := .bool true) rfl rfl (by simp [execOp, go_sem, t42]) ⟨_, _, rfl, rfl, ⟨hBw, kE f0 rfl, kE f1 rfl, kE f2 rfl, fun h => by obtain ⟨A8, c8, hx⟩ := f3 (by rw [← getD_set_ne true (show 24 ≠ 3 by decide)]; exact h); exact ⟨A8, c8, by rw [upd_ne x _ (by decide)]; exact hx⟩, kE f4 rfl, kE f5 rfl, kE f6 rfl, kE f7 rfl, kE f8 rfl, kE f9 rfl, kE f10 rfl, kE f11 rfl, kE f12 rfl, kE f13 rfl, kE f14 rfl, kE f15 rfl, kE f16 rfl, kE f17 rfl, kE f18 rfl, kE f19 rfl, kE f20 rfl, kE f21 rfl, kE f22 rfl, kE f23 rfl, fun _ => upd_same _ _ _⟩⟩
              intro V x w' hall hF
              obtain ⟨hbF, f0, f1, f2, f3, f4, f5, f6, f7, f8, f9, f10, f11, f12, f13, f14, f15, f16, f17, f18, f19, f20, f21, f22, f23, f24⟩ := hF
              have hx24 := f24 (hall 24 (by decide))
              clear hall f0 f1 f2 f3 f4 f5 f6 f7 f8 f9 f10 f11 f12 f13 f14 f15 f16 f17 f18 f19 f20 f21 f22 f23 f24
              subst ha0
              simp only [List.map_cons, List.map_nil, putAll, hx24]
              clear hx24
              go_simp
              have hBk := HB2.out.trans (hbF.mono hs2)
              go_wp2_with fail
              go_roundw
              case rel => exact ⟨k + 1, by go_num, by omega, by omega, HP2, hBk⟩
              case measure => simp [intOf]; omega
            · have g1 : ((n : Int) != 2 + (fl : Int)) = false := by simp; omega
              obtain ⟨ad, rfl, hab, c0⟩ := hl2.lst.atS (k := 0) HD.out (by omega)
              obtain ⟨_, ee, _, c1⟩ := hl2.lst.atS (k := 1) HD.out (by omega)
              injection ee with ee
              subst ee
              rw [add_zero_] at c0
              rw [← addr_at ad 1 (by omega)] at c1
              obtain ⟨x1, hx1⟩ : ∃ x, gS l 1 = x := ⟨_, rfl⟩
              rw [e2] at c0
              rw [hx1] at c1 e3
              have gs1 := ne_str e3
              have E1 := Lib.hid e1
              clear hx1 e3 e2 hF hl2 e1
              generalize bs so = s1 at *
              generalize bs x1 = s2 at *
              generalize bs sk = s3 at *
              go_upto_region 9 with fail
              have hwr : IntKind.i64.wrap (2 + (fl : Int)) = 2 + (fl : Int) := IntWalk.i64_in _ (by omega)
              have hn0 : (0 : Int) < (n : Int) := by have := E1.out; omega
              have hn00 : ¬ n = 0 := by have := E1.out; omega
              have hn1 : (1 : Int) < (n : Int) := by have := E1.out; omega
              have hn11 : 1 < n := by have := E1.out; omega
              refine gen_frame ?_
              intro a0 ha0
              try simp only [List.append]
              refine wp_region_frames rfl (by kernel_rfl) (by kernel_rfl) (fun V x w' => Below w2.heap.size w2 w' ∧ (V.getD 0 true = true → x 0 = .slice (some ad) n c) ∧ (V.getD 1 true = true → x 1 = .int .i64 (n : Int)) ∧ (V.getD 2 true = true → x 2 = .agg #[.int .i64 (o : Int), .int .i64 (k : Int), .int .i64 0, .int .i64 0, .int .i64 0, .int .i64 0, .int .i64 0, .int .i64 0, .int .i64 0, .int .i64 0, .int .i64 0, .int .i64 0, .int .i64 0]) ∧ (V.getD 3 true = true → ∃ A8 c8, x 3 = .slice A8 fl c8) ∧ (V.getD 4 true = true → x 4 = .int .i64 (fl : Int)) ∧ (V.getD 5 true = true → x 5 = .int .i64 (2 + (fl : Int))) ∧ (V.getD 6 true = true → x 6 = .bool false) ∧ (V.getD 7 true = true → x 7 = .bool false) ∧ (V.getD 8 true = true → x 8 = .slice (some ad) n c) ∧ (V.getD 9 true = true → x 9 = .pointer (some ad)) ∧ (V.getD 10 true = true → x 10 = .string s1) ∧ (V.getD 11 true = true → x 11 = .slice (some ⟨g, 0, none⟩) 2 2) ∧ (V.getD 12 true = true → x 12 = .pointer (some ⟨g, 0, none⟩)) ∧ (V.getD 13 true = true → x 13 = .string s1) ∧ (V.getD 14 true = true → x 14 = .bool false) ∧ (V.getD 15 true = true → x 15 = .bool false) ∧ (V.getD 16 true = true → x 16 = .bool false) ∧ (V.getD 17 true = true → x 17 = .slice (some ad) n c) ∧ (V.getD 18 true = true → x 18 = .pointer (some ⟨ad.block, ad.off + 1, none⟩)) ∧ (V.getD 19 true = true → x 19 = .string s2) ∧ (V.getD 20 true = true → x 20 = .slice (some ⟨g, 0, none⟩) 2 2) ∧ (V.getD 21 true = true → x 21 = .pointer (some ⟨g, 1, none⟩)) ∧ (V.getD 22 true = true → x 22 = .string s3) ∧ (V.getD 23 true = true → x 23 = .bool true) ∧ (V.getD 24 true = true → x 24 = .bool true)) ?_ ?_ ?_
              · intro x
                refine ⟨(Below.refl _ _).drew, ?_, ?_, ?_, ?_, ?_, ?_, ?_, ?_, ?_, ?_, ?_, ?_, ?_, ?_, ?_, ?_, ?_, ?_, ?_, ?_, ?_, ?_, ?_, ?_, ?_⟩ <;> exact fun h => by simp at h
              · intro V x b w' hbq hsz hF i hi hun haf hcl
                obtain ⟨hBw, f0, f1, f2, f3, f4, f5, f6, f7, f8, f9, f10, f11, f12, f13, f14, f15, f16, f17, f18, f19, f20, f21, f22, f23, f24⟩ := hF
                have hbe : b = putAll a0 [some 26, some 27, some 28, some 29, some 30, some 31, some 32, some 33, some 34, some 35, some 36, some 37, some 38, some 39, some 40, some 41, some 42, some 43, some 44, some 45, some 46, some 47, some 48, some 49, some 50] x 0 := hbq
                have hz0 : a0.tmps.size = 82 := by rw [ha0]; rfl
                have e0 : b.eval (.tmp 0) = .slice (some ad) n c := by rw [hbe, eval_out _ _ _ (by decide), ha0]; rfl
                have t0 : b.tmps[0]?.getD undef = .slice (some ad) n c := by simpa [Act.eval] using e0
                have e6 : b.eval (.tmp 6) = .pointer (some ⟨bf, 0, none⟩) := by rw [hbe, eval_out _ _ _ (by decide), ha0]; rfl
                have t6 : b.tmps[6]?.getD undef = .pointer (some ⟨bf, 0, none⟩) := by simpa [Act.eval] using e6
                have e7 : b.eval (.tmp 7) = .slice (some ⟨g, 0, none⟩) 2 2 := by rw [hbe, eval_out _ _ _ (by decide), ha0]; rfl
                have t7 : b.tmps[7]?.getD undef = .slice (some ⟨g, 0, none⟩) 2 2 := by simpa [Act.eval] using e7
                clear hbq
                have hi' : i < 25 := hi
                clear hi
                obtain rfl | rfl | rfl | rfl | rfl | rfl | rfl | rfl | rfl | rfl | rfl | rfl | rfl | rfl | rfl | rfl | rfl | rfl | rfl | rfl | rfl | rfl | rfl | rfl | rfl : i = 0 ∨ i = 1 ∨ i = 2 ∨ i = 3 ∨ i = 4 ∨ i = 5 ∨ i = 6 ∨ i = 7 ∨ i = 8 ∨ i = 9 ∨ i = 10 ∨ i = 11 ∨ i = 12 ∨ i = 13 ∨ i = 14 ∨ i = 15 ∨ i = 16 ∨ i = 17 ∨ i = 18 ∨ i = 19 ∨ i = 20 ∨ i = 21 ∨ i = 22 ∨ i = 23 ∨ i = 24 := by omega
                · refine wpOp_runs (v := .slice (some ad) n c) rfl rfl (by simp [execOp, go_sem, t0]) ⟨_, _, rfl, rfl, ⟨hBw, fun _ => upd_same _ _ _, kE f1 rfl, kE f2 rfl, fun h => by obtain ⟨A8, c8, hx⟩ := f3 (by rw [← getD_set_ne true (show 0 ≠ 3 by decide)]; exact h); exact ⟨A8, c8, by rw [upd_ne x _ (by decide)]; exact hx⟩, kE f4 rfl, kE f5 rfl, kE f6 rfl, kE f7 rfl, kE f8 rfl, kE f9 rfl, kE f10 rfl, kE f11 rfl, kE f12 rfl, kE f13 rfl, kE f14 rfl, kE f15 rfl, kE f16 rfl, kE f17 rfl, kE f18 rfl, kE f19 rfl, kE f20 rfl, kE f21 rfl, kE f22 rfl, kE f23 rfl, kE f24 rfl⟩⟩
                · have d0 := getD_ft (haf _ rfl ⟨0, .data⟩ (by simp) rfl)
                  have e26 : b.eval (.tmp 26) = .slice (some ad) n c := by rw [hbe, eval_in _ _ _ 0 (by decide) rfl (by rw [hz0]; decide)]; exact f0 d0
                  have t26 : b.tmps[26]?.getD undef = .slice (some ad) n c := by have tv := e26; simpa only [Act.eval, Array.getD_eq_getD_getElem?] using tv
                  refine wpOp_runs (v := .int .i64 (n : Int)) rfl rfl (by simp [execOp, go_sem, t26]) ⟨_, _, rfl, rfl, ⟨hBw, kE f0 rfl, fun _ => upd_same _ _ _, kE f2 rfl, fun h => by obtain ⟨A8, c8, hx⟩ := f3 (by rw [← getD_set_ne true (show 1 ≠ 3 by decide)]; exact h); exact ⟨A8, c8, by rw [upd_ne x _ (by decide)]; exact hx⟩, kE f4 rfl, kE f5 rfl, kE f6 rfl, kE f7 rfl, kE f8 rfl, kE f9 rfl, kE f10 rfl, kE f11 rfl, kE f12 rfl, kE f13 rfl, kE f14 rfl, kE f15 rfl, kE f16 rfl, kE f17 rfl, kE f18 rfl, kE f19 rfl, kE f20 rfl, kE f21 rfl, kE f22 rfl, kE f23 rfl, kE f24 rfl⟩⟩
                · have rr0 := (hBw.cell (block_lt_of_cell y0)).trans y0
                  have rr1 := (hBw.cell (block_lt_of_cell y1)).trans y1
                  have rr2 := (hBw.cell (block_lt_of_cell y2)).trans y2
                  have rr3 := (hBw.cell (block_lt_of_cell y3)).trans y3
                  have rr4 := (hBw.cell (block_lt_of_cell y4)).trans y4
                  have rr5 := (hBw.cell (block_lt_of_cell y5)).trans y5
                  have rr6 := (hBw.cell (block_lt_of_cell y6)).trans y6
                  have rr7 := (hBw.cell (block_lt_of_cell y7)).trans y7
                  have rr8 := (hBw.cell (block_lt_of_cell y8)).trans y8
                  have rr9 := (hBw.cell (block_lt_of_cell y9)).trans y9
                  have rr10 := (hBw.cell (block_lt_of_cell y10)).trans y10
                  have rr11 := (hBw.cell (block_lt_of_cell y11)).trans y11
                  have rr12 := (hBw.cell (block_lt_of_cell y12)).trans y12
                  refine wpOp_runs (v := .agg #[.int .i64 (o : Int), .int .i64 (k : Int), .int .i64 0, .int .i64 0, .int .i64 0, .int .i64 0, .int .i64 0, .int .i64 0, .int .i64 0, .int .i64 0, .int .i64 0, .int .i64 0, .int .i64 0]) rfl rfl (by simp [execOp, go_sem, t6, rr0, rr1, rr2, rr3, rr4, rr5, rr6, rr7, rr8, rr9, rr10, rr11, rr12]) ⟨_, _, rfl, rfl, ⟨hBw, kE f0 rfl, kE f1 rfl, fun _ => upd_same _ _ _, fun h => by obtain ⟨A8, c8, hx⟩ := f3 (by rw [← getD_set_ne true (show 2 ≠ 3 by decide)]; exact h); exact ⟨A8, c8, by rw [upd_ne x _ (by decide)]; exact hx⟩, kE f4 rfl, kE f5 rfl, kE f6 rfl, kE f7 rfl, kE f8 rfl, kE f9 rfl, kE f10 rfl, kE f11 rfl, kE f12 rfl, kE f13 rfl, kE f14 rfl, kE f15 rfl, kE f16 rfl, kE f17 rfl, kE f18 rfl, kE f19 rfl, kE f20 rfl, kE f21 rfl, kE f22 rfl, kE f23 rfl, kE f24 rfl⟩⟩
                · have d2 := getD_ft (haf _ rfl ⟨2, .data⟩ (by simp) rfl)
                  have e28 : b.eval (.tmp 28) = .agg #[.int .i64 (o : Int), .int .i64 (k : Int), .int .i64 0, .int .i64 0, .int .i64 0, .int .i64 0, .int .i64 0, .int .i64 0, .int .i64 0, .int .i64 0, .int .i64 0, .int .i64 0, .int .i64 0] := by rw [hbe, eval_in _ _ _ 2 (by decide) rfl (by rw [hz0]; decide)]; exact f2 d2
                  have t28 : b.tmps[28]?.getD undef = .agg #[.int .i64 (o : Int), .int .i64 (k : Int), .int .i64 0, .int .i64 0, .int .i64 0, .int .i64 0, .int .i64 0, .int .i64 0, .int .i64 0, .int .i64 0, .int .i64 0, .int .i64 0, .int .i64 0] := by have tv := e28; simpa only [Act.eval, Array.getD_eq_getD_getElem?] using tv
                  refine wpOp_call_on rfl (by simp [Region.wanted]) 37 #[.tmp 28] _ rfl #[.agg #[.int .i64 (o : Int), .int .i64 (k : Int), .int .i64 0, .int .i64 0, .int .i64 0, .int .i64 0, .int .i64 0, .int .i64 0, .int .i64 0, .int .i64 0, .int .i64 0, .int .i64 0, .int .i64 0]] (by simp [e28]) Tryz.func37 rfl rfl ?_
                  refine (rnums_sl o k fl HOK.out HBN.out w').mono ?_
                  rintro e w'' ⟨A8, c8, rfl, hb⟩
                  exact ⟨_, rfl, _, _, rfl, rfl, ⟨hBw.trans (hb.mono hBw.size), kE f0 rfl, kE f1 rfl, kE f2 rfl, fun _ => ⟨A8, c8, upd_same _ _ _⟩, kE f4 rfl, kE f5 rfl, kE f6 rfl, kE f7 rfl, kE f8 rfl, kE f9 rfl, kE f10 rfl, kE f11 rfl, kE f12 rfl, kE f13 rfl, kE f14 rfl, kE f15 rfl, kE f16 rfl, kE f17 rfl, kE f18 rfl, kE f19 rfl, kE f20 rfl, kE f21 rfl, kE f22 rfl, kE f23 rfl, kE f24 rfl⟩⟩
                · have d3 := getD_ft (haf _ rfl ⟨3, .data⟩ (by simp) rfl)
                  obtain ⟨A8, c8, hx⟩ := f3 d3
                  have e29 : b.eval (.tmp 29) = .slice A8 fl c8 := by rw [hbe, eval_in _ _ _ 3 (by decide) rfl (by rw [hz0]; decide)]; exact hx
                  have t29 : b.tmps[29]?.getD undef = .slice A8 fl c8 := by have tv := e29; simpa only [Act.eval, Array.getD_eq_getD_getElem?] using tv
                  refine wpOp_runs (v := .int .i64 (fl : Int)) rfl rfl (by simp [execOp, go_sem, t29]) ⟨_, _, rfl, rfl, ⟨hBw, kE f0 rfl, kE f1 rfl, kE f2 rfl, fun h => by obtain ⟨A8, c8, hx⟩ := f3 (by rw [← getD_set_ne true (show 4 ≠ 3 by decide)]; exact h); exact ⟨A8, c8, by rw [upd_ne x _ (by decide)]; exact hx⟩, fun _ => upd_same _ _ _, kE f5 rfl, kE f6 rfl, kE f7 rfl, kE f8 rfl, kE f9 rfl, kE f10 rfl, kE f11 rfl, kE f12 rfl, kE f13 rfl, kE f14 rfl, kE f15 rfl, kE f16 rfl, kE f17 rfl, kE f18 rfl, kE f19 rfl, kE f20 rfl, kE f21 rfl, kE f22 rfl, kE f23 rfl, kE f24 rfl⟩⟩
                · have d4 := getD_ft (haf _ rfl ⟨4, .data⟩ (by simp) rfl)
                  have e30 : b.eval (.tmp 30) = .int .i64 (fl : Int) := by rw [hbe, eval_in _ _ _ 4 (by decide) rfl (by rw [hz0]; decide)]; exact f4 d4
                  have t30 : b.tmps[30]?.getD undef = .int .i64 (fl : Int) := by have tv := e30; simpa only [Act.eval, Array.getD_eq_getD_getElem?] using tv
                  refine wpOp_runs (v := .int .i64 (2 + (fl : Int))) rfl rfl (by simp [execOp, go_sem, t30, hwr]) ⟨_, _, rfl, rfl, ⟨hBw, kE f0 rfl, kE f1 rfl, kE f2 rfl, fun h => by obtain ⟨A8, c8, hx⟩ := f3 (by rw [← getD_set_ne true (show 5 ≠ 3 by decide)]; exact h); exact ⟨A8, c8, by rw [upd_ne x _ (by decide)]; exact hx⟩, kE f4 rfl, fun _ => upd_same _ _ _, kE f6 rfl, kE f7 rfl, kE f8 rfl, kE f9 rfl, kE f10 rfl, kE f11 rfl, kE f12 rfl, kE f13 rfl, kE f14 rfl, kE f15 rfl, kE f16 rfl, kE f17 rfl, kE f18 rfl, kE f19 rfl, kE f20 rfl, kE f21 rfl, kE f22 rfl, kE f23 rfl, kE f24 rfl⟩⟩
                · have d1 := getD_ft (haf _ rfl ⟨1, .data⟩ (by simp) rfl)
                  have e27 : b.eval (.tmp 27) = .int .i64 (n : Int) := by rw [hbe, eval_in _ _ _ 1 (by decide) rfl (by rw [hz0]; decide)]; exact f1 d1
                  have t27 : b.tmps[27]?.getD undef = .int .i64 (n : Int) := by have tv := e27; simpa only [Act.eval, Array.getD_eq_getD_getElem?] using tv
                  have d5 := getD_ft (haf _ rfl ⟨5, .data⟩ (by simp) rfl)
                  have e31 : b.eval (.tmp 31) = .int .i64 (2 + (fl : Int)) := by rw [hbe, eval_in _ _ _ 5 (by decide) rfl (by rw [hz0]; decide)]; exact f5 d5
                  have t31 : b.tmps[31]?.getD undef = .int .i64 (2 + (fl : Int)) := by have tv := e31; simpa only [Act.eval, Array.getD_eq_getD_getElem?] using tv
                  refine wpOp_runs (v := .bool false) rfl rfl (by simp [execOp, go_sem, t27, t31, g1]) ⟨_, _, rfl, rfl, ⟨hBw, kE f0 rfl, kE f1 rfl, kE f2 rfl, fun h => by obtain ⟨A8, c8, hx⟩ := f3 (by rw [← getD_set_ne true (show 6 ≠ 3 by decide)]; exact h); exact ⟨A8, c8, by rw [upd_ne x _ (by decide)]; exact hx⟩, kE f4 rfl, kE f5 rfl, fun _ => upd_same _ _ _, kE f7 rfl, kE f8 rfl, kE f9 rfl, kE f10 rfl, kE f11 rfl, kE f12 rfl, kE f13 rfl, kE f14 rfl, kE f15 rfl, kE f16 rfl, kE f17 rfl, kE f18 rfl, kE f19 rfl, kE f20 rfl, kE f21 rfl, kE f22 rfl, kE f23 rfl, kE f24 rfl⟩⟩
                · have d6 := getD_ft (haf _ rfl ⟨6, .data⟩ (by simp) rfl)
                  have e32 : b.eval (.tmp 32) = .bool false := by rw [hbe, eval_in _ _ _ 6 (by decide) rfl (by rw [hz0]; decide)]; exact f6 d6
                  have t32 : b.tmps[32]?.getD undef = .bool false := by have tv := e32; simpa only [Act.eval, Array.getD_eq_getD_getElem?] using tv
                  refine wpOp_runs (v := .bool false) rfl rfl (by simp [execOp, go_sem, t32]) ⟨_, _, rfl, rfl, ⟨hBw, kE f0 rfl, kE f1 rfl, kE f2 rfl, fun h => by obtain ⟨A8, c8, hx⟩ := f3 (by rw [← getD_set_ne true (show 7 ≠ 3 by decide)]; exact h); exact ⟨A8, c8, by rw [upd_ne x _ (by decide)]; exact hx⟩, kE f4 rfl, kE f5 rfl, kE f6 rfl, fun _ => upd_same _ _ _, kE f8 rfl, kE f9 rfl, kE f10 rfl, kE f11 rfl, kE f12 rfl, kE f13 rfl, kE f14 rfl, kE f15 rfl, kE f16 rfl, kE f17 rfl, kE f18 rfl, kE f19 rfl, kE f20 rfl, kE f21 rfl, kE f22 rfl, kE f23 rfl, kE f24 rfl⟩⟩
                · have d7 := getD_ft (haf _ rfl ⟨7, .guard⟩ (by simp) rfl)
                  have e33 : b.eval (.tmp 33) = .bool false := by rw [hbe, eval_in _ _ _ 7 (by decide) rfl (by rw [hz0]; decide)]; exact f7 d7
                  have t33 : b.tmps[33]?.getD undef = .bool false := by have tv := e33; simpa only [Act.eval, Array.getD_eq_getD_getElem?] using tv
                  refine wpOp_runs_on (v := .slice (some ad) n c) rfl (wanted_on rfl rfl rfl t33) (by simp [execOp, go_sem, t0]) ⟨_, _, rfl, rfl, ⟨hBw, kE f0 rfl, kE f1 rfl, kE f2 rfl, fun h => by obtain ⟨A8, c8, hx⟩ := f3 (by rw [← getD_set_ne true (show 8 ≠ 3 by decide)]; exact h); exact ⟨A8, c8, by rw [upd_ne x _ (by decide)]; exact hx⟩, kE f4 rfl, kE f5 rfl, kE f6 rfl, kE f7 rfl, fun _ => upd_same _ _ _, kE f9 rfl, kE f10 rfl, kE f11 rfl, kE f12 rfl, kE f13 rfl, kE f14 rfl, kE f15 rfl, kE f16 rfl, kE f17 rfl, kE f18 rfl, kE f19 rfl, kE f20 rfl, kE f21 rfl, kE f22 rfl, kE f23 rfl, kE f24 rfl⟩⟩
                · have d7 := getD_ft (haf _ rfl ⟨7, .guard⟩ (by simp) rfl)
                  have e33 : b.eval (.tmp 33) = .bool false := by rw [hbe, eval_in _ _ _ 7 (by decide) rfl (by rw [hz0]; decide)]; exact f7 d7
                  have t33 : b.tmps[33]?.getD undef = .bool false := by have tv := e33; simpa only [Act.eval, Array.getD_eq_getD_getElem?] using tv
                  have d8 := getD_ft (haf _ rfl ⟨8, .data⟩ (by simp) rfl)
                  have e34 : b.eval (.tmp 34) = .slice (some ad) n c := by rw [hbe, eval_in _ _ _ 8 (by decide) rfl (by rw [hz0]; decide)]; exact f8 d8
                  have t34 : b.tmps[34]?.getD undef = .slice (some ad) n c := by have tv := e34; simpa only [Act.eval, Array.getD_eq_getD_getElem?] using tv
                  refine wpOp_runs_on (v := .pointer (some ad)) rfl (wanted_on rfl rfl rfl t33) (by simp [execOp, go_sem, t34, hn0, hn00, add_zero_]) ⟨_, _, rfl, rfl, ⟨hBw, kE f0 rfl, kE f1 rfl, kE f2 rfl, fun h => by obtain ⟨A8, c8, hx⟩ := f3 (by rw [← getD_set_ne true (show 9 ≠ 3 by decide)]; exact h); exact ⟨A8, c8, by rw [upd_ne x _ (by decide)]; exact hx⟩, kE f4 rfl, kE f5 rfl, kE f6 rfl, kE f7 rfl, kE f8 rfl, fun _ => upd_same _ _ _, kE f10 rfl, kE f11 rfl, kE f12 rfl, kE f13 rfl, kE f14 rfl, kE f15 rfl, kE f16 rfl, kE f17 rfl, kE f18 rfl, kE f19 rfl, kE f20 rfl, kE f21 rfl, kE f22 rfl, kE f23 rfl, kE f24 rfl⟩⟩
                · have d7 := getD_ft (haf _ rfl ⟨7, .guard⟩ (by simp) rfl)
                  have e33 : b.eval (.tmp 33) = .bool false := by rw [hbe, eval_in _ _ _ 7 (by decide) rfl (by rw [hz0]; decide)]; exact f7 d7
                  have t33 : b.tmps[33]?.getD undef = .bool false := by have tv := e33; simpa only [Act.eval, Array.getD_eq_getD_getElem?] using tv
                  have d9 := getD_ft (haf _ rfl ⟨9, .data⟩ (by simp) rfl)
                  have e35 : b.eval (.tmp 35) = .pointer (some ad) := by rw [hbe, eval_in _ _ _ 9 (by decide) rfl (by rw [hz0]; decide)]; exact f9 d9
                  have t35 : b.tmps[35]?.getD undef = .pointer (some ad) := by have tv := e35; simpa only [Act.eval, Array.getD_eq_getD_getElem?] using tv
                  have rr := (hBw.cell (block_lt_of_cell c0)).trans c0
                  refine wpOp_runs_on (v := .string s1) rfl (wanted_on rfl rfl rfl t33) (by simp [execOp, go_sem, t35, rr]) ⟨_, _, rfl, rfl, ⟨hBw, kE f0 rfl, kE f1 rfl, kE f2 rfl, fun h => by obtain ⟨A8, c8, hx⟩ := f3 (by rw [← getD_set_ne true (show 10 ≠ 3 by decide)]; exact h); exact ⟨A8, c8, by rw [upd_ne x _ (by decide)]; exact hx⟩, kE f4 rfl, kE f5 rfl, kE f6 rfl, kE f7 rfl, kE f8 rfl, kE f9 rfl, fun _ => upd_same _ _ _, kE f11 rfl, kE f12 rfl, kE f13 rfl, kE f14 rfl, kE f15 rfl, kE f16 rfl, kE f17 rfl, kE f18 rfl, kE f19 rfl, kE f20 rfl, kE f21 rfl, kE f22 rfl, kE f23 rfl, kE f24 rfl⟩⟩
                · have d7 := getD_ft (haf _ rfl ⟨7, .guard⟩ (by simp) rfl)
                  have e33 : b.eval (.tmp 33) = .bool false := by rw [hbe, eval_in _ _ _ 7 (by decide) rfl (by rw [hz0]; decide)]; exact f7 d7
                  have t33 : b.tmps[33]?.getD undef = .bool false := by have tv := e33; simpa only [Act.eval, Array.getD_eq_getD_getElem?] using tv
                  refine wpOp_runs_on (v := .slice (some ⟨g, 0, none⟩) 2 2) rfl (wanted_on rfl rfl rfl t33) (by simp [execOp, go_sem, t7]) ⟨_, _, rfl, rfl, ⟨hBw, kE f0 rfl, kE f1 rfl, kE f2 rfl, fun h => by obtain ⟨A8, c8, hx⟩ := f3 (by rw [← getD_set_ne true (show 11 ≠ 3 by decide)]; exact h); exact ⟨A8, c8, by rw [upd_ne x _ (by decide)]; exact hx⟩, kE f4 rfl, kE f5 rfl, kE f6 rfl, kE f7 rfl, kE f8 rfl, kE f9 rfl, kE f10 rfl, fun _ => upd_same _ _ _, kE f12 rfl, kE f13 rfl, kE f14 rfl, kE f15 rfl, kE f16 rfl, kE f17 rfl, kE f18 rfl, kE f19 rfl, kE f20 rfl, kE f21 rfl, kE f22 rfl, kE f23 rfl, kE f24 rfl⟩⟩
                · have d7 := getD_ft (haf _ rfl ⟨7, .guard⟩ (by simp) rfl)
                  have e33 : b.eval (.tmp 33) = .bool false := by rw [hbe, eval_in _ _ _ 7 (by decide) rfl (by rw [hz0]; decide)]; exact f7 d7
                  have t33 : b.tmps[33]?.getD undef = .bool false := by have tv := e33; simpa only [Act.eval, Array.getD_eq_getD_getElem?] using tv
                  have d11 := getD_ft (haf _ rfl ⟨11, .data⟩ (by simp) rfl)
                  have e37 : b.eval (.tmp 37) = .slice (some ⟨g, 0, none⟩) 2 2 := by rw [hbe, eval_in _ _ _ 11 (by decide) rfl (by rw [hz0]; decide)]; exact f11 d11
                  have t37 : b.tmps[37]?.getD undef = .slice (some ⟨g, 0, none⟩) 2 2 := by have tv := e37; simpa only [Act.eval, Array.getD_eq_getD_getElem?] using tv
                  refine wpOp_runs_on (v := .pointer (some ⟨g, 0, none⟩)) rfl (wanted_on rfl rfl rfl t33) (by simp [execOp, go_sem, t37]) ⟨_, _, rfl, rfl, ⟨hBw, kE f0 rfl, kE f1 rfl, kE f2 rfl, fun h => by obtain ⟨A8, c8, hx⟩ := f3 (by rw [← getD_set_ne true (show 12 ≠ 3 by decide)]; exact h); exact ⟨A8, c8, by rw [upd_ne x _ (by decide)]; exact hx⟩, kE f4 rfl, kE f5 rfl, kE f6 rfl, kE f7 rfl, kE f8 rfl, kE f9 rfl, kE f10 rfl, kE f11 rfl, fun _ => upd_same _ _ _, kE f13 rfl, kE f14 rfl, kE f15 rfl, kE f16 rfl, kE f17 rfl, kE f18 rfl, kE f19 rfl, kE f20 rfl, kE f21 rfl, kE f22 rfl, kE f23 rfl, kE f24 rfl⟩⟩
                · have d7 := getD_ft (haf _ rfl ⟨7, .guard⟩ (by simp) rfl)
                  have e33 : b.eval (.tmp 33) = .bool false := by rw [hbe, eval_in _ _ _ 7 (by decide) rfl (by rw [hz0]; decide)]; exact f7 d7
                  have t33 : b.tmps[33]?.getD undef = .bool false := by have tv := e33; simpa only [Act.eval, Array.getD_eq_getD_getElem?] using tv
                  have d12 := getD_ft (haf _ rfl ⟨12, .data⟩ (by simp) rfl)
                  have e38 : b.eval (.tmp 38) = .pointer (some ⟨g, 0, none⟩) := by rw [hbe, eval_in _ _ _ 12 (by decide) rfl (by rw [hz0]; decide)]; exact f12 d12
                  have t38 : b.tmps[38]?.getD undef = .pointer (some ⟨g, 0, none⟩) := by have tv := e38; simpa only [Act.eval, Array.getD_eq_getD_getElem?] using tv
                  have rr := (hBw.cell (block_lt_of_cell hg0)).trans hg0
                  refine wpOp_runs_on (v := .string s1) rfl (wanted_on rfl rfl rfl t33) (by simp [execOp, go_sem, t38, rr]) ⟨_, _, rfl, rfl, ⟨hBw, kE f0 rfl, kE f1 rfl, kE f2 rfl, fun h => by obtain ⟨A8, c8, hx⟩ := f3 (by rw [← getD_set_ne true (show 13 ≠ 3 by decide)]; exact h); exact ⟨A8, c8, by rw [upd_ne x _ (by decide)]; exact hx⟩, kE f4 rfl, kE f5 rfl, kE f6 rfl, kE f7 rfl, kE f8 rfl, kE f9 rfl, kE f10 rfl, kE f11 rfl, kE f12 rfl, fun _ => upd_same _ _ _, kE f14 rfl, kE f15 rfl, kE f16 rfl, kE f17 rfl, kE f18 rfl, kE f19 rfl, kE f20 rfl, kE f21 rfl, kE f22 rfl, kE f23 rfl, kE f24 rfl⟩⟩
                · have d7 := getD_ft (haf _ rfl ⟨7, .guard⟩ (by simp) rfl)
                  have e33 : b.eval (.tmp 33) = .bool false := by rw [hbe, eval_in _ _ _ 7 (by decide) rfl (by rw [hz0]; decide)]; exact f7 d7
                  have t33 : b.tmps[33]?.getD undef = .bool false := by have tv := e33; simpa only [Act.eval, Array.getD_eq_getD_getElem?] using tv
                  have d10 := getD_ft (haf _ rfl ⟨10, .data⟩ (by simp) rfl)
                  have e36 : b.eval (.tmp 36) = .string s1 := by rw [hbe, eval_in _ _ _ 10 (by decide) rfl (by rw [hz0]; decide)]; exact f10 d10
                  have t36 : b.tmps[36]?.getD undef = .string s1 := by have tv := e36; simpa only [Act.eval, Array.getD_eq_getD_getElem?] using tv
                  have d13 := getD_ft (haf _ rfl ⟨13, .data⟩ (by simp) rfl)
                  have e39 : b.eval (.tmp 39) = .string s1 := by rw [hbe, eval_in _ _ _ 13 (by decide) rfl (by rw [hz0]; decide)]; exact f13 d13
                  have t39 : b.tmps[39]?.getD undef = .string s1 := by have tv := e39; simpa only [Act.eval, Array.getD_eq_getD_getElem?] using tv
                  refine wpOp_runs_on (v := .bool false) rfl (wanted_on rfl rfl rfl t33) (by simp [execOp, go_sem, t36, t39]) ⟨_, _, rfl, rfl, ⟨hBw, kE f0 rfl, kE f1 rfl, kE f2 rfl, fun h => by obtain ⟨A8, c8, hx⟩ := f3 (by rw [← getD_set_ne true (show 14 ≠ 3 by decide)]; exact h); exact ⟨A8, c8, by rw [upd_ne x _ (by decide)]; exact hx⟩, kE f4 rfl, kE f5 rfl, kE f6 rfl, kE f7 rfl, kE f8 rfl, kE f9 rfl, kE f10 rfl, kE f11 rfl, kE f12 rfl, kE f13 rfl, fun _ => upd_same _ _ _, kE f15 rfl, kE f16 rfl, kE f17 rfl, kE f18 rfl, kE f19 rfl, kE f20 rfl, kE f21 rfl, kE f22 rfl, kE f23 rfl, kE f24 rfl⟩⟩
                · have d7 := getD_ft (haf _ rfl ⟨7, .data⟩ (by simp) rfl)
                  have e33 : b.eval (.tmp 33) = .bool false := by rw [hbe, eval_in _ _ _ 7 (by decide) rfl (by rw [hz0]; decide)]; exact f7 d7
                  have t33 : b.tmps[33]?.getD undef = .bool false := by have tv := e33; simpa only [Act.eval, Array.getD_eq_getD_getElem?] using tv
                  have d14 := getD_ft (haf _ rfl ⟨14, .data⟩ (by simp) rfl)
                  have e40 : b.eval (.tmp 40) = .bool false := by rw [hbe, eval_in _ _ _ 14 (by decide) rfl (by rw [hz0]; decide)]; exact f14 d14
                  have t40 : b.tmps[40]?.getD undef = .bool false := by have tv := e40; simpa only [Act.eval, Array.getD_eq_getD_getElem?] using tv
                  refine wpOp_runs (v := .bool false) rfl rfl (by simp [execOp, go_sem, t33, t40]) ⟨_, _, rfl, rfl, ⟨hBw, kE f0 rfl, kE f1 rfl, kE f2 rfl, fun h => by obtain ⟨A8, c8, hx⟩ := f3 (by rw [← getD_set_ne true (show 15 ≠ 3 by decide)]; exact h); exact ⟨A8, c8, by rw [upd_ne x _ (by decide)]; exact hx⟩, kE f4 rfl, kE f5 rfl, kE f6 rfl, kE f7 rfl, kE f8 rfl, kE f9 rfl, kE f10 rfl, kE f11 rfl, kE f12 rfl, kE f13 rfl, kE f14 rfl, fun _ => upd_same _ _ _, kE f16 rfl, kE f17 rfl, kE f18 rfl, kE f19 rfl, kE f20 rfl, kE f21 rfl, kE f22 rfl, kE f23 rfl, kE f24 rfl⟩⟩
                · have d15 := getD_ft (haf _ rfl ⟨15, .data⟩ (by simp) rfl)
                  have e41 : b.eval (.tmp 41) = .bool false := by rw [hbe, eval_in _ _ _ 15 (by decide) rfl (by rw [hz0]; decide)]; exact f15 d15
                  have t41 : b.tmps[41]?.getD undef = .bool false := by have tv := e41; simpa only [Act.eval, Array.getD_eq_getD_getElem?] using tv
                  refine wpOp_runs (v := .bool false) rfl rfl (by simp [execOp, go_sem, t41]) ⟨_, _, rfl, rfl, ⟨hBw, kE f0 rfl, kE f1 rfl, kE f2 rfl, fun h => by obtain ⟨A8, c8, hx⟩ := f3 (by rw [← getD_set_ne true (show 16 ≠ 3 by decide)]; exact h); exact ⟨A8, c8, by rw [upd_ne x _ (by decide)]; exact hx⟩, kE f4 rfl, kE f5 rfl, kE f6 rfl, kE f7 rfl, kE f8 rfl, kE f9 rfl, kE f10 rfl, kE f11 rfl, kE f12 rfl, kE f13 rfl, kE f14 rfl, kE f15 rfl, fun _ => upd_same _ _ _, kE f17 rfl, kE f18 rfl, kE f19 rfl, kE f20 rfl, kE f21 rfl, kE f22 rfl, kE f23 rfl, kE f24 rfl⟩⟩
                · have d16 := getD_ft (haf _ rfl ⟨16, .guard⟩ (by simp) rfl)
                  have e42 : b.eval (.tmp 42) = .bool false := by rw [hbe, eval_in _ _ _ 16 (by decide) rfl (by rw [hz0]; decide)]; exact f16 d16
                  have t42 : b.tmps[42]?.getD undef = .bool false := by have tv := e42; simpa only [Act.eval, Array.getD_eq_getD_getElem?] using tv
                  refine wpOp_runs_on (v := .slice (some ad) n c) rfl (wanted_on rfl rfl rfl t42) (by simp [execOp, go_sem, t0]) ⟨_, _, rfl, rfl, ⟨hBw, kE f0 rfl, kE f1 rfl, kE f2 rfl, fun h => by obtain ⟨A8, c8, hx⟩ := f3 (by rw [← getD_set_ne true (show 17 ≠ 3 by decide)]; exact h); exact ⟨A8, c8, by rw [upd_ne x _ (by decide)]; exact hx⟩, kE f4 rfl, kE f5 rfl, kE f6 rfl, kE f7 rfl, kE f8 rfl, kE f9 rfl, kE f10 rfl, kE f11 rfl, kE f12 rfl, kE f13 rfl, kE f14 rfl, kE f15 rfl, kE f16 rfl, fun _ => upd_same _ _ _, kE f18 rfl, kE f19 rfl, kE f20 rfl, kE f21 rfl, kE f22 rfl, kE f23 rfl, kE f24 rfl⟩⟩
                · have d16 := getD_ft (haf _ rfl ⟨16, .guard⟩ (by simp) rfl)
                  have e42 : b.eval (.tmp 42) = .bool false := by rw [hbe, eval_in _ _ _ 16 (by decide) rfl (by rw [hz0]; decide)]; exact f16 d16
                  have t42 : b.tmps[42]?.getD undef = .bool false := by have tv := e42; simpa only [Act.eval, Array.getD_eq_getD_getElem?] using tv
                  have d17 := getD_ft (haf _ rfl ⟨17, .data⟩ (by simp) rfl)
                  have e43 : b.eval (.tmp 43) = .slice (some ad) n c := by rw [hbe, eval_in _ _ _ 17 (by decide) rfl (by rw [hz0]; decide)]; exact f17 d17
                  have t43 : b.tmps[43]?.getD undef = .slice (some ad) n c := by have tv := e43; simpa only [Act.eval, Array.getD_eq_getD_getElem?] using tv
                  refine wpOp_runs_on (v := .pointer (some ⟨ad.block, ad.off + 1, none⟩)) rfl (wanted_on rfl rfl rfl t42) (by simp [execOp, go_sem, t43, hn1, hn11]) ⟨_, _, rfl, rfl, ⟨hBw, kE f0 rfl, kE f1 rfl, kE f2 rfl, fun h => by obtain ⟨A8, c8, hx⟩ := f3 (by rw [← getD_set_ne true (show 18 ≠ 3 by decide)]; exact h); exact ⟨A8, c8, by rw [upd_ne x _ (by decide)]; exact hx⟩, kE f4 rfl, kE f5 rfl, kE f6 rfl, kE f7 rfl, kE f8 rfl, kE f9 rfl, kE f10 rfl, kE f11 rfl, kE f12 rfl, kE f13 rfl, kE f14 rfl, kE f15 rfl, kE f16 rfl, kE f17 rfl, fun _ => upd_same _ _ _, kE f19 rfl, kE f20 rfl, kE f21 rfl, kE f22 rfl, kE f23 rfl, kE f24 rfl⟩⟩
                · have d16 := getD_ft (haf _ rfl ⟨16, .guard⟩ (by simp) rfl)
                  have e42 : b.eval (.tmp 42) = .bool false := by rw [hbe, eval_in _ _ _ 16 (by decide) rfl (by rw [hz0]; decide)]; exact f16 d16
                  have t42 : b.tmps[42]?.getD undef = .bool false := by have tv := e42; simpa only [Act.eval, Array.getD_eq_getD_getElem?] using tv
                  have d18 := getD_ft (haf _ rfl ⟨18, .data⟩ (by simp) rfl)
                  have e44 : b.eval (.tmp 44) = .pointer (some ⟨ad.block, ad.off + 1, none⟩) := by rw [hbe, eval_in _ _ _ 18 (by decide) rfl (by rw [hz0]; decide)]; exact f18 d18
                  have t44 : b.tmps[44]?.getD undef = .pointer (some ⟨ad.block, ad.off + 1, none⟩) := by have tv := e44; simpa only [Act.eval, Array.getD_eq_getD_getElem?] using tv
                  have rr := (hBw.cell (block_lt_of_cell c1)).trans c1
                  refine wpOp_runs_on (v := .string s2) rfl (wanted_on rfl rfl rfl t42) (by simp [execOp, go_sem, t44, rr]) ⟨_, _, rfl, rfl, ⟨hBw, kE f0 rfl, kE f1 rfl, kE f2 rfl, fun h => by obtain ⟨A8, c8, hx⟩ := f3 (by rw [← getD_set_ne true (show 19 ≠ 3 by decide)]; exact h); exact ⟨A8, c8, by rw [upd_ne x _ (by decide)]; exact hx⟩, kE f4 rfl, kE f5 rfl, kE f6 rfl, kE f7 rfl, kE f8 rfl, kE f9 rfl, kE f10 rfl, kE f11 rfl, kE f12 rfl, kE f13 rfl, kE f14 rfl, kE f15 rfl, kE f16 rfl, kE f17 rfl, kE f18 rfl, fun _ => upd_same _ _ _, kE f20 rfl, kE f21 rfl, kE f22 rfl, kE f23 rfl, kE f24 rfl⟩⟩
                · have d16 := getD_ft (haf _ rfl ⟨16, .guard⟩ (by simp) rfl)
                  have e42 : b.eval (.tmp 42) = .bool false := by rw [hbe, eval_in _ _ _ 16 (by decide) rfl (by rw [hz0]; decide)]; exact f16 d16
                  have t42 : b.tmps[42]?.getD undef = .bool false := by have tv := e42; simpa only [Act.eval, Array.getD_eq_getD_getElem?] using tv
                  refine wpOp_runs_on (v := .slice (some ⟨g, 0, none⟩) 2 2) rfl (wanted_on rfl rfl rfl t42) (by simp [execOp, go_sem, t7]) ⟨_, _, rfl, rfl, ⟨hBw, kE f0 rfl, kE f1 rfl, kE f2 rfl, fun h => by obtain ⟨A8, c8, hx⟩ := f3 (by rw [← getD_set_ne true (show 20 ≠ 3 by decide)]; exact h); exact ⟨A8, c8, by rw [upd_ne x _ (by decide)]; exact hx⟩, kE f4 rfl, kE f5 rfl, kE f6 rfl, kE f7 rfl, kE f8 rfl, kE f9 rfl, kE f10 rfl, kE f11 rfl, kE f12 rfl, kE f13 rfl, kE f14 rfl, kE f15 rfl, kE f16 rfl, kE f17 rfl, kE f18 rfl, kE f19 rfl, fun _ => upd_same _ _ _, kE f21 rfl, kE f22 rfl, kE f23 rfl, kE f24 rfl⟩⟩
                · have d16 := getD_ft (haf _ rfl ⟨16, .guard⟩ (by simp) rfl)
                  have e42 : b.eval (.tmp 42) = .bool false := by rw [hbe, eval_in _ _ _ 16 (by decide) rfl (by rw [hz0]; decide)]; exact f16 d16
                  have t42 : b.tmps[42]?.getD undef = .bool false := by have tv := e42; simpa only [Act.eval, Array.getD_eq_getD_getElem?] using tv
                  have d20 := getD_ft (haf _ rfl ⟨20, .data⟩ (by simp) rfl)
                  have e46 : b.eval (.tmp 46) = .slice (some ⟨g, 0, none⟩) 2 2 := by rw [hbe, eval_in _ _ _ 20 (by decide) rfl (by rw [hz0]; decide)]; exact f20 d20
                  have t46 : b.tmps[46]?.getD undef = .slice (some ⟨g, 0, none⟩) 2 2 := by have tv := e46; simpa only [Act.eval, Array.getD_eq_getD_getElem?] using tv
                  refine wpOp_runs_on (v := .pointer (some ⟨g, 1, none⟩)) rfl (wanted_on rfl rfl rfl t42) (by simp [execOp, go_sem, t46]) ⟨_, _, rfl, rfl, ⟨hBw, kE f0 rfl, kE f1 rfl, kE f2 rfl, fun h => by obtain ⟨A8, c8, hx⟩ := f3 (by rw [← getD_set_ne true (show 21 ≠ 3 by decide)]; exact h); exact ⟨A8, c8, by rw [upd_ne x _ (by decide)]; exact hx⟩, kE f4 rfl, kE f5 rfl, kE f6 rfl, kE f7 rfl, kE f8 rfl, kE f9 rfl, kE f10 rfl, kE f11 rfl, kE f12 rfl, kE f13 rfl, kE f14 rfl, kE f15 rfl, kE f16 rfl, kE f17 rfl, kE f18 rfl, kE f19 rfl, kE f20 rfl, fun _ => upd_same _ _ _, kE f22 rfl, kE f23 rfl, kE f24 rfl⟩⟩
                · have d16 := getD_ft (haf _ rfl ⟨16, .guard⟩ (by simp) rfl)
                  have e42 : b.eval (.tmp 42) = .bool false := by rw [hbe, eval_in _ _ _ 16 (by decide) rfl (by rw [hz0]; decide)]; exact f16 d16
                  have t42 : b.tmps[42]?.getD undef = .bool false := by have tv := e42; simpa only [Act.eval, Array.getD_eq_getD_getElem?] using tv
                  have d21 := getD_ft (haf _ rfl ⟨21, .data⟩ (by simp) rfl)
                  have e47 : b.eval (.tmp 47) = .pointer (some ⟨g, 1, none⟩) := by rw [hbe, eval_in _ _ _ 21 (by decide) rfl (by rw [hz0]; decide)]; exact f21 d21
                  have t47 : b.tmps[47]?.getD undef = .pointer (some ⟨g, 1, none⟩) := by have tv := e47; simpa only [Act.eval, Array.getD_eq_getD_getElem?] using tv
                  have rr := (hBw.cell (block_lt_of_cell hg1)).trans hg1
                  refine wpOp_runs_on (v := .string s3) rfl (wanted_on rfl rfl rfl t42) (by simp [execOp, go_sem, t47, rr]) ⟨_, _, rfl, rfl, ⟨hBw, kE f0 rfl, kE f1 rfl, kE f2 rfl, fun h => by obtain ⟨A8, c8, hx⟩ := f3 (by rw [← getD_set_ne true (show 22 ≠ 3 by decide)]; exact h); exact ⟨A8, c8, by rw [upd_ne x _ (by decide)]; exact hx⟩, kE f4 rfl, kE f5 rfl, kE f6 rfl, kE f7 rfl, kE f8 rfl, kE f9 rfl, kE f10 rfl, kE f11 rfl, kE f12 rfl, kE f13 rfl, kE f14 rfl, kE f15 rfl, kE f16 rfl, kE f17 rfl, kE f18 rfl, kE f19 rfl, kE f20 rfl, kE f21 rfl, fun _ => upd_same _ _ _, kE f23 rfl, kE f24 rfl⟩⟩
                · have d16 := getD_ft (haf _ rfl ⟨16, .guard⟩ (by simp) rfl)
                  have e42 : b.eval (.tmp 42) = .bool false := by rw [hbe, eval_in _ _ _ 16 (by decide) rfl (by rw [hz0]; decide)]; exact f16 d16
                  have t42 : b.tmps[42]?.getD undef = .bool false := by have tv := e42; simpa only [Act.eval, Array.getD_eq_getD_getElem?] using tv
                  have d19 := getD_ft (haf _ rfl ⟨19, .data⟩ (by simp) rfl)
                  have e45 : b.eval (.tmp 45) = .string s2 := by rw [hbe, eval_in _ _ _ 19 (by decide) rfl (by rw [hz0]; decide)]; exact f19 d19
                  have t45 : b.tmps[45]?.getD undef = .string s2 := by have tv := e45; simpa only [Act.eval, Array.getD_eq_getD_getElem?] using tv
                  have d22 := getD_ft (haf _ rfl ⟨22, .data⟩ (by simp) rfl)
                  have e48 : b.eval (.tmp 48) = .string s3 := by rw [hbe, eval_in _ _ _ 22 (by decide) rfl (by rw [hz0]; decide)]; exact f22 d22
                  have t48 : b.tmps[48]?.getD undef = .string s3 := by have tv := e48; simpa only [Act.eval, Array.getD_eq_getD_getElem?] using tv
                  refine wpOp_runs_on (v := .bool true) rfl (wanted_on rfl rfl rfl t42) (by simp [execOp, go_sem, t45, t48, gs1]) ⟨_, _, rfl, rfl, ⟨hBw, kE f0 rfl, kE f1 rfl, kE f2 rfl, fun h => by obtain ⟨A8, c8, hx⟩ := f3 (by rw [← getD_set_ne true (show 23 ≠ 3 by decide)]; exact h); exact ⟨A8, c8, by rw [upd_ne x _ (by decide)]; exact hx⟩, kE f4 rfl, kE f5 rfl, kE f6 rfl, kE f7 rfl, kE f8 rfl, kE f9 rfl, kE f10 rfl, kE f11 rfl, kE f12 rfl, kE f13 rfl, kE f14 rfl, kE f15 rfl, kE f16 rfl, kE f17 rfl, kE f18 rfl, kE f19 rfl, kE f20 rfl, kE f21 rfl, kE f22 rfl, fun _ => upd_same _ _ _, kE f24 rfl⟩⟩
                · have d16 := getD_ft (haf _ rfl ⟨16, .data⟩ (by simp) rfl)
                  have e42 : b.eval (.tmp 42) = .bool false := by rw [hbe, eval_in _ _ _ 16 (by decide) rfl (by rw [hz0]; decide)]; exact f16 d16
                  have t42 : b.tmps[42]?.getD undef = .bool false := by have tv := e42; simpa only [Act.eval, Array.getD_eq_getD_getElem?] using tv
                  have d23 := getD_ft (haf _ rfl ⟨23, .data⟩ (by simp) rfl)
                  have e49 : b.eval (.tmp 49) = .bool true := by rw [hbe, eval_in _ _ _ 23 (by decide) rfl (by rw [hz0]; decide)]; exact f23 d23
                  have t49 : b.tmps[49]?.getD undef = .bool true := by have tv := e49; simpa only [Act.eval, Array.getD_eq_getD_getElem?] using tv
                  refine wpOp_runs (v := .bool true) rfl rfl (by simp [execOp, go_sem, t42, t49]) ⟨_, _, rfl, rfl, ⟨hBw, kE f0 rfl, kE f1 rfl, kE f2 rfl, fun h => by obtain ⟨A8, c8, hx⟩ := f3 (by rw [← getD_set_ne true (show 24 ≠ 3 by decide)]; exact h); exact ⟨A8, c8, by rw [upd_ne x _ (by decide)]; exact hx⟩, kE f4 rfl, kE f5 rfl, kE f6 rfl, kE f7 rfl, kE f8 rfl, kE f9 rfl, kE f10 rfl, kE f11 rfl, kE f12 rfl, kE f13 rfl, kE f14 rfl, kE f15 rfl, kE f16 rfl, kE f17 rfl, kE f18 rfl, kE f19 rfl, kE f20 rfl, kE f21 rfl, kE f22 rfl, kE f23 rfl, fun _ => upd_same _ _ _⟩⟩
              intro V x w' hall hF
              obtain ⟨hbF, f0, f1, f2, f3, f4, f5, f6, f7, f8, f9, f10, f11, f12, f13, f14, f15, f16, f17, f18, f19, f20, f21, f22, f23, f24⟩ := hF
              have hx24 := f24 (hall 24 (by decide))
              clear hall f0 f1 f2 f3 f4 f5 f6 f7 f8 f9 f10 f11 f12 f13 f14 f15 f16 f17 f18 f19 f20 f21 f22 f23 f24
              subst ha0
              simp only [List.map_cons, List.map_nil, putAll, hx24]
              clear hx24
              go_simp
              have hBk := HB2.out.trans (hbF.mono hs2)
              go_wp2_with fail
              go_roundw
              case rel => exact ⟨k + 1, by go_num, by omega, by omega, HP2, hBk⟩
              case measure => simp [intOf]; omega
        · obtain rfl : k = 3 := by omega
          have HP2 : Hid (Past l (2 * (o + 1 - 1))) := by have h := HQ.out; show Past _ _; rw [show 2 * (o + 1 - 1) = 2 * (o - 1) + (3 - 1) by omega]; exact h
          clear hs
          go_wp2_with fail
          go_roundw
          case rel => exact ⟨o + 1, by go_num, by omega, by omega, HP2, hB⟩
          case measure => simp [intOf]; omega
    · obtain rfl : o = 4 := by omega
      have hp : parseD l = (zeroDr, 2) := Past.all HP.out
      rw [HZ.out] at hp
      injection hp with p1 p2
      subst p1 p2
      have hX4 := HX0.out.below hB1 HX0.out.lt
      have hB4 := HB0.out.trans (hB1.mono HB0.out.size)
      have x0 : wr.cell? ⟨w.heap.size, 0, none⟩ = some (.int .i64 0) := hX4.cell 0
      have xf0 := hX4.free 0
      have x1 : wr.cell? ⟨w.heap.size, 1, none⟩ = some (.int .i64 0) := hX4.cell 1
      have xf1 := hX4.free 1
      have x2 : wr.cell? ⟨w.heap.size, 2, none⟩ = some (.int .i64 0) := hX4.cell 2
      have xf2 := hX4.free 2
      have x3 : wr.cell? ⟨w.heap.size, 3, none⟩ = some (.int .i64 0) := hX4.cell 3
      have xf3 := hX4.free 3
      have x4 : wr.cell? ⟨w.heap.size, 4, none⟩ = some (.int .i64 0) := hX4.cell 4
      have xf4 := hX4.free 4
      have x5 : wr.cell? ⟨w.heap.size, 5, none⟩ = some (.int .i64 0) := hX4.cell 5
      have xf5 := hX4.free 5
      have x6 : wr.cell? ⟨w.heap.size, 6, none⟩ = some (.int .i64 0) := hX4.cell 6
      have xf6 := hX4.free 6
      have x7 : wr.cell? ⟨w.heap.size, 7, none⟩ = some (.int .i64 0) := hX4.cell 7
      have xf7 := hX4.free 7
      have x8 : wr.cell? ⟨w.heap.size, 8, none⟩ = some (.int .i64 0) := hX4.cell 8
      have xf8 := hX4.free 8
      have x9 : wr.cell? ⟨w.heap.size, 9, none⟩ = some (.int .i64 0) := hX4.cell 9
      have xf9 := hX4.free 9
      have x10 : wr.cell? ⟨w.heap.size, 10, none⟩ = some (.int .i64 0) := hX4.cell 10
      have xf10 := hX4.free 10
      have x11 : wr.cell? ⟨w.heap.size, 11, none⟩ = some (.int .i64 0) := hX4.cell 11
      have xf11 := hX4.free 11
      have x12 : wr.cell? ⟨w.heap.size, 12, none⟩ = some (.int .i64 0) := hX4.cell 12
      have xf12 := hX4.free 12
      have lt_x := hX4.lt
      go_wp2_with fail
      clear x0 xf0 x1 xf1 x2 xf2 x3 xf3 x4 xf4 x5 xf5 x6 xf6 x7 xf7 x8 xf8 x9 xf9 x10 xf10 x11 xf11 x12 xf12 lt_x
      have hF : Blok (((((((((((((wr.setCell ⟨w.heap.size, 0, none⟩ (.int .i64 0)).setCell ⟨w.heap.size, 1, none⟩ (.int .i64 0)).setCell ⟨w.heap.size, 2, none⟩ (.int .i64 0)).setCell ⟨w.heap.size, 3, none⟩ (.int .i64 0)).setCell ⟨w.heap.size, 4, none⟩ (.int .i64 0)).setCell ⟨w.heap.size, 5, none⟩ (.int .i64 0)).setCell ⟨w.heap.size, 6, none⟩ (.int .i64 0)).setCell ⟨w.heap.size, 7, none⟩ (.int .i64 0)).setCell ⟨w.heap.size, 8, none⟩ (.int .i64 0)).setCell ⟨w.heap.size, 9, none⟩ (.int .i64 0)).setCell ⟨w.heap.size, 10, none⟩ (.int .i64 0)).setCell ⟨w.heap.size, 11, none⟩ (.int .i64 0)).setCell ⟨w.heap.size, 12, none⟩ (.int .i64 0)) w.heap.size 41 #[.int .i64 0, .int .i64 0, .int .i64 0, .int .i64 0, .int .i64 0, .int .i64 0, .int .i64 0, .int .i64 0, .int .i64 0, .int .i64 0, .int .i64 0, .int .i64 0, .int .i64 0] := by have h := (((((((((((((hX4.set_ 0 (.int .i64 0)).set_ 1 (.int .i64 0)).set_ 2 (.int .i64 0)).set_ 3 (.int .i64 0)).set_ 4 (.int .i64 0)).set_ 5 (.int .i64 0)).set_ 6 (.int .i64 0)).set_ 7 (.int .i64 0)).set_ 8 (.int .i64 0)).set_ 9 (.int .i64 0)).set_ 10 (.int .i64 0)).set_ 11 (.int .i64 0)).set_ 12 (.int .i64 0)); simpa using h
      have hle0 : w.heap.size ≤ w.heap.size := by first | exact Nat.le_refl _ | omega
      have hWf : Below w.heap.size w (((((((((((((wr.setCell ⟨w.heap.size, 0, none⟩ (.int .i64 0)).setCell ⟨w.heap.size, 1, none⟩ (.int .i64 0)).setCell ⟨w.heap.size, 2, none⟩ (.int .i64 0)).setCell ⟨w.heap.size, 3, none⟩ (.int .i64 0)).setCell ⟨w.heap.size, 4, none⟩ (.int .i64 0)).setCell ⟨w.heap.size, 5, none⟩ (.int .i64 0)).setCell ⟨w.heap.size, 6, none⟩ (.int .i64 0)).setCell ⟨w.heap.size, 7, none⟩ (.int .i64 0)).setCell ⟨w.heap.size, 8, none⟩ (.int .i64 0)).setCell ⟨w.heap.size, 9, none⟩ (.int .i64 0)).setCell ⟨w.heap.size, 10, none⟩ (.int .i64 0)).setCell ⟨w.heap.size, 11, none⟩ (.int .i64 0)).setCell ⟨w.heap.size, 12, none⟩ (.int .i64 0)) := (((((((((((((hB4.setCell (p := ⟨w.heap.size, 0, none⟩) hle0 (.int .i64 0)).setCell (p := ⟨w.heap.size, 1, none⟩) hle0 (.int .i64 0)).setCell (p := ⟨w.heap.size, 2, none⟩) hle0 (.int .i64 0)).setCell (p := ⟨w.heap.size, 3, none⟩) hle0 (.int .i64 0)).setCell (p := ⟨w.heap.size, 4, none⟩) hle0 (.int .i64 0)).setCell (p := ⟨w.heap.size, 5, none⟩) hle0 (.int .i64 0)).setCell (p := ⟨w.heap.size, 6, none⟩) hle0 (.int .i64 0)).setCell (p := ⟨w.heap.size, 7, none⟩) hle0 (.int .i64 0)).setCell (p := ⟨w.heap.size, 8, none⟩) hle0 (.int .i64 0)).setCell (p := ⟨w.heap.size, 9, none⟩) hle0 (.int .i64 0)).setCell (p := ⟨w.heap.size, 10, none⟩) hle0 (.int .i64 0)).setCell (p := ⟨w.heap.size, 11, none⟩) hle0 (.int .i64 0)).setCell (p := ⟨w.heap.size, 12, none⟩) hle0 (.int .i64 0))
      have hlF := hF.lt
      generalize (((((((((((((wr.setCell ⟨w.heap.size, 0, none⟩ (.int .i64 0)).setCell ⟨w.heap.size, 1, none⟩ (.int .i64 0)).setCell ⟨w.heap.size, 2, none⟩ (.int .i64 0)).setCell ⟨w.heap.size, 3, none⟩ (.int .i64 0)).setCell ⟨w.heap.size, 4, none⟩ (.int .i64 0)).setCell ⟨w.heap.size, 5, none⟩ (.int .i64 0)).setCell ⟨w.heap.size, 6, none⟩ (.int .i64 0)).setCell ⟨w.heap.size, 7, none⟩ (.int .i64 0)).setCell ⟨w.heap.size, 8, none⟩ (.int .i64 0)).setCell ⟨w.heap.size, 9, none⟩ (.int .i64 0)).setCell ⟨w.heap.size, 10, none⟩ (.int .i64 0)).setCell ⟨w.heap.size, 11, none⟩ (.int .i64 0)).setCell ⟨w.heap.size, 12, none⟩ (.int .i64 0)) = wf at *
      have r0 : wf.cell? ⟨w.heap.size, 0, none⟩ = some (.int .i64 0) := hF.cell 0
      have r1 : wf.cell? ⟨w.heap.size, 1, none⟩ = some (.int .i64 0) := hF.cell 1
      have r2 : wf.cell? ⟨w.heap.size, 2, none⟩ = some (.int .i64 0) := hF.cell 2
      have r3 : wf.cell? ⟨w.heap.size, 3, none⟩ = some (.int .i64 0) := hF.cell 3
      have r4 : wf.cell? ⟨w.heap.size, 4, none⟩ = some (.int .i64 0) := hF.cell 4
      have r5 : wf.cell? ⟨w.heap.size, 5, none⟩ = some (.int .i64 0) := hF.cell 5
      have r6 : wf.cell? ⟨w.heap.size, 6, none⟩ = some (.int .i64 0) := hF.cell 6
      have r7 : wf.cell? ⟨w.heap.size, 7, none⟩ = some (.int .i64 0) := hF.cell 7
      have r8 : wf.cell? ⟨w.heap.size, 8, none⟩ = some (.int .i64 0) := hF.cell 8
      have r9 : wf.cell? ⟨w.heap.size, 9, none⟩ = some (.int .i64 0) := hF.cell 9
      have r10 : wf.cell? ⟨w.heap.size, 10, none⟩ = some (.int .i64 0) := hF.cell 10
      have r11 : wf.cell? ⟨w.heap.size, 11, none⟩ = some (.int .i64 0) := hF.cell 11
      have r12 : wf.cell? ⟨w.heap.size, 12, none⟩ = some (.int .i64 0) := hF.cell 12
      refine bodyPost_ret (v := .tuple #[.agg #[.int .i64 0, .int .i64 0, .int .i64 0, .int .i64 0, .int .i64 0, .int .i64 0, .int .i64 0, .int .i64 0, .int .i64 0, .int .i64 0, .int .i64 0, .int .i64 0, .int .i64 0], .int .i64 2]) (by simp [results, Tryz.results18, go_sem, r0, r1, r2, r3, r4, r5, r6, r7, r8, r9, r10, r11, r12, hlF]) rfl ?_
      exact ⟨rfl, hWf⟩
end Go.Proofs.YtcclfmaockapjaaGreatDoor
