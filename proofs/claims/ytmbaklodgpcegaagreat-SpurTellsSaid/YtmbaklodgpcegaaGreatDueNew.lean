/- due.New: a table of no hops. It makes new memory alone. -/
import Derived.Test.YtmbaklodgpcegaaGreatGQ11
namespace Go.Proofs.YtmbaklodgpcegaaGreat
open Go.ChangeShapes Go.WideShapes Go.ChangeAt Go.RowKit Go.Sort Go.Maps Hp
set_option linter.unusedSimpArgs false
set_option linter.unusedVariables false
theorem SM.start {w : World} {M sb g : Nat} {q b : Int} (hM : MapV w 3 sb 1 (setS (fun _ => none) (.int .i64 q) (.slice (some ⟨g, 0, none⟩) 1 1))) (hr : w.ownsRow M 96 2 (.slice (some ⟨g, 0, none⟩) 1 1) 1 [.int .i64 0, .int .i64 b]) (hl : M ≤ sb) (hg : g ≠ sb) :
    SM w M sb 1 (updP (fun _ => []) q [(0, b)]) (updC (fun _ => .slice none 0 0) q (.slice (some ⟨g, 0, none⟩) 1 1)) := by
  refine ⟨MapV.congr hM fun kl => ?_, fun x => ?_, fun x y hxy => ?_, fun x hx => ?_, hl, fun x => ?_⟩
  · by_cases e : kl = .int .i64 q
    · subst e
      rw [setS_same]
      show _ = if updP (fun _ => []) q [(0, b)] q = [] then none else some (updC (fun _ => .slice none 0 0) q _ q)
      rw [updP_same, updC_same, if_neg (by simp)]
    · rw [setS_other _ _ e]
      unfold rowsS
      split
      · rename_i y
        rw [updP_ne _ _ (fun h => e (by rw [h])), if_pos rfl]
      · rfl
  · by_cases e : x = q
    · subst e; rw [updP_same, updC_same]; exact hr
    · rw [updP_ne _ _ e, updC_ne _ _ e]; exact World.ownsRow_nil _ _ _ _
  · by_cases e : x = q
    · subst e; rw [updC_ne _ _ (fun e => hxy e.symm)]; exact .inr (by rw [updC_same]; simp [Value.ownBlock])
    · rw [updC_ne _ _ e]; exact .inl rfl
  · by_cases e : x = q
    · subst e; rw [updP_same] at hx; cases hx
    · exact updC_ne _ _ e
  · by_cases e : x = q
    · subst e; rw [updC_same]; simpa [Value.ownBlock] using hg
    · rw [updC_ne _ _ e]; simp [Value.ownBlock]
theorem steps_zero {l : List Ed} {size : Int} {op : Int → Bool} (q b : Int) : Steps (updP (fun _ => []) q [(0, b)]) (lateL l size op q b) 0 := by
  refine ⟨fun n s hs => ?_, fun n k hk => ?_, fun n => ?_⟩
  · by_cases e : n = q
    · subst e; rw [updP_same] at hs; rw [List.mem_singleton.1 hs]; simp
    · rw [updP_ne _ _ e] at hs; cases hs
  · obtain rfl : k = 0 := by omega
    by_cases e : n = q
    · subst e; rw [updP_same]; simp [atS, lateL, oneT]
    · rw [updP_ne _ _ e]; simp [atS, lateL, oneT, e]
  · by_cases e : n = q
    · subst e; rw [updP_same]; simp [lateL, oneT]
    · rw [updP_ne _ _ e]; simp [lateL, oneT, e]
set_option maxHeartbeats 4000000 in
set_option maxRecDepth 100000 in
theorem dnew_any (A : Option Addr) (n c : Nat) (l : List Ed) (q b size : Int) (As : Option Addr) (ns cs : Nat) (sh : List Int) (w : World) (hd : l.length = n) (hn : n ≤ 1000) (hok : ∀ k, k < n → (gEd l k).ok = true) (hq : 1 ≤ q ∧ q ≤ 255) (hds : sh.length = ns) (hns : ns ≤ 100000) (hwf : ∀ k, k < ns → (Lit.int .i64 (sh.getD k 0)).wf = true) (h : Sl w w.heap.size 8 A n c (flatEd l)) (hls : Sl w w.heap.size 1 As ns cs (sh.map (Value.int .i64))) :
    Calls Tryz.prog 28 #[.slice A n c, .int .i64 q, .int .i64 b, .int .i64 size, .slice As ns cs] w fun e w' => ∃ tb, e = .returned (.pointer (some ⟨tb, 0, none⟩)) ∧ w.heap.size ≤ tb ∧ TabH w w' tb A n c l q b size sh 0 := by
  have HD := Lib.hid hd
  have HOK := Lib.hid hok
  have HDS := Lib.hid hds
  have HWF := Lib.hid hwf
  have hqw : (Lit.int .i64 q).wf = true := wfI (by omega)
  clear hd hok hds hwf
  go_enter Tryz.func28, Tryz.ntmps28
  go_wp2_with fail
  refine (jto_any A n c l w HD.out hn (fun k hk => (Ed.ok_spec.1 (HOK.out k hk)).2.2.1) h).mono ?_
  rintro e wa ⟨ct, rfl, hG, hP, hB0⟩
  have hs0 := hB0.size
  have hglt := hG.lt
  obtain ⟨ub, hub⟩ : ∃ x, wa.heap.size = x := ⟨_, rfl⟩
  have hmk := run_makeMap0 (P := Tryz.prog) 70 3 4 Tryz.underlying70 wa
  have hS0 := SetW.made wa
  have hB1 : Below wa.heap.size wa ((wa.alloc (.map #[] 0)).alloc (.cells #[.slice A n c, .pointer (some ⟨w.heap.size, 0, none⟩), .int .i64 q, .int .i64 size, .map (some ub), .int .i64 0, .map none, .slice none 0 0] 94)) := by (repeat (first | exact Below.refl _ _ | refine Below.alloc ?_ (by first | omega | (simp; done) | (simp; omega)) _ | refine Below.setCell ?_ (by first | omega | (simp; done) | (simp; omega)) _ | refine Below.drew ?_))
  have hX0 := Blok.new (wa.alloc (.map #[] 0)) 94 #[.slice A n c, .pointer (some ⟨w.heap.size, 0, none⟩), .int .i64 q, .int .i64 size, .map (some ub), .int .i64 0, .map none, .slice none 0 0]
  have hS1 := hS0.alloc (.cells #[.slice A n c, .pointer (some ⟨w.heap.size, 0, none⟩), .int .i64 q, .int .i64 size, .map (some ub), .int .i64 0, .map none, .slice none 0 0] 94)
  rw [World.size_alloc] at hX0
  rw [hub] at hmk hS1 hs0 hglt hB1 hX0
  have HP := Lib.hid hP
  have HG := Lib.hid hG
  have HB0 := Lib.hid hB0
  have HUB := Lib.hid hub
  have HH := Lib.hid h
  have HLS := Lib.hid hls
  clear hS0 hP hG hB0 hub h hls
  go_upto_region 2 with fail
  clear hmk
  generalize (wa.alloc (.map #[] 0)).alloc (.cells #[.slice A n c, .pointer (some ⟨w.heap.size, 0, none⟩), .int .i64 q, .int .i64 size, .map (some ub), .int .i64 0, .map none, .slice none 0 0] 94) = wb at *
  rw [HUB.out]
  go_wp2_with fail
  go_loopw [24] (fun iv wr => ∃ k : Nat, iv = .int .i64 k ∧ k ≤ ns ∧ Below ub wa wr ∧ SetW wr ub k (fun y => (sh.take k).contains y) ∧ Blok wr (ub + 1) 94 #[.slice A n c, .pointer (some ⟨w.heap.size, 0, none⟩), .int .i64 q, .int .i64 size, .map (some ub), .int .i64 0, .map none, .slice none 0 0]) (fun iv _ => ns - (intOf iv).toNat)
  case atStart => exact ⟨0, rfl, by omega, hB1, hS1.congr (fun y _ => by simp), hX0⟩
  case round =>
    clear hB1 hS1 hX0 wb
    obtain ⟨k, rfl, hk, hB, hS, hX⟩ := hrel
    by_cases hkn : k < ns
    · have hBW : Below w.heap.size w wr := HB0.out.trans (hB.mono hs0)
      obtain ⟨ad, rfl, hab, c0⟩ := (HLS.out.up hBW).lst.atI HDS.out hkn
      have hw := HWF.out k hkn
      have hks : k < sh.length := by rw [HDS.out]; exact hkn
      have htk : sh.take (k + 1) = sh.take k ++ [sh.getD k 0] := by
        rw [List.take_succ_eq_append_getElem hks, List.getD_eq_getElem?_getD, List.getElem?_eq_getElem hks]; rfl
      obtain ⟨x, hx⟩ : ∃ x, sh.getD k 0 = x := ⟨_, rfl⟩
      rw [hx] at c0 hw htk
      have HTK := Lib.hid htk
      have x4 : wr.cell? ⟨ub + 1, 4, none⟩ = some (.map (some ub)) := hX.cell 4
      have lt_x := hX.lt
      obtain ⟨w5, hput, hS5, hg5⟩ := hS.put (by unfold maxLen; omega) hw true
      have hX5 := hX.grown hg5 (fun e => by injection e with e; omega)
      have hB5 : Below ub wa w5 := hB.grown hg5 (by have := hB.size; have := HUB.out; omega) (fun j hj => by injection hj with hj; omega)
      have hS6 : SetW w5 ub (k + 1) (fun y => (sh.take (k + 1)).contains y) := hS5.congr (fun y _ => by
        show (if y = x then true else (sh.take k).contains y) = (sh.take (k + 1)).contains y
        rw [HTK.out, contains_snoc]
        by_cases e : y = x
        · rw [if_pos e, beq_iff_eq.2 e, Bool.or_true]
        · rw [if_neg e, beq_eq_false_iff_ne.2 e, Bool.or_false])
      have HS6 := Lib.hid hS6
      have HX5 := Lib.hid hX5
      have HB5 := Lib.hid hB5
      clear hS5 hS6 hg5 hX5 hB5 hBW hx htk hks hS hX hB
      go_wp2_with fail
      go_roundw
      case rel => exact ⟨k + 1, by go_num, by omega, HB5.out, HS6.out, HX5.out⟩
      case measure => simp [intOf]; omega
    · obtain rfl : k = ns := by omega
      have htk : sh.take k = sh := List.take_of_length_le (by rw [HDS.out]; exact Nat.le_refl _)
      rw [htk] at hS
      have hub := HUB.out
      have hsz := hB.size
      have hxlt := hX.lt
      have HDC : Hid (DC w wr (ub + 1) w.heap.size ub A n c l ct sh) := by
        have hup : ∀ w', Below (ub + 1) wr w' → Below ub wa w' := fun w' hb => hB.trans (hb.mono (by omega))
        refine ⟨fun w' hb => ⟨HP.out.below (by rw [hub]; exact hup w' hb), HG.out.below (hup w' hb) hglt⟩, fun w' hb => HH.out.up (HB0.out.trans ((hup w' hb).mono hs0)), fun w' hb => ⟨k, ?_⟩, fun w' hb => HB0.out.trans ((hup w' hb).mono hs0)⟩
        obtain ⟨D, ⟨es, clock, g1, g2⟩, g3⟩ := hS
        exact ⟨D, ⟨es, clock, (hb.block ub (by omega)).trans g1, g2⟩, g3⟩
      obtain ⟨sb, hsb⟩ : ∃ x, wr.heap.size = x := ⟨_, rfl⟩
      have hmk := run_makeMap0 (P := Tryz.prog) 92 3 97 Tryz.underlying92 wr
      have hM0 := (MapV.made wr 3).alloc (.cells #[.int .i64 0, .int .i64 b] (96 : Nat))
      have hR0 := own_lit (wr.alloc (.map #[] 0)) (ub + 2) 96 2 1 #[.int .i64 0, .int .i64 b] (by simp; omega) rfl (by unfold maxLen; omega)
      have hX1 : Blok ((wr.alloc (.map #[] 0)).alloc (.cells #[.int .i64 0, .int .i64 b] 96)) (ub + 1) 94 #[.slice A n c, .pointer (some ⟨w.heap.size, 0, none⟩), .int .i64 q, .int .i64 size, .map (some ub), .int .i64 0, .map none, .slice none 0 0] := (hX.alloc _).alloc _
      have hBl : Below (ub + 1) wr ((wr.alloc (.map #[] 0)).alloc (.cells #[.int .i64 0, .int .i64 b] 96)) := by (repeat (first | exact Below.refl _ _ | refine Below.alloc ?_ (by first | omega | (simp; done) | (simp; omega)) _ | refine Below.setCell ?_ (by first | omega | (simp; done) | (simp; omega)) _ | refine Below.drew ?_))
      rw [World.size_alloc] at hR0
      rw [hsb] at hmk hM0 hR0 hxlt
      obtain ⟨w5, hput, hM5, hg5⟩ := MapV.put hM0 keyedV Tryz.underlying92 (by unfold maxLen; omega) (keyI q hqw) (isKeyI q) (.slice (some ⟨wr.heap.size + 1, 0, none⟩) 1 1)
      rw [hsb] at hM5
      have hs5 := hg5.size
      simp only [World.size_alloc] at hs5
      rw [hsb] at hs5
      have hX5 := hX1.grown hg5 (fun e => by injection e with e; omega)
      have hR5 := hR0.kept hg5 (.inr (by simp [Value.ownBlock]))
      have hBl5 : Below (ub + 1) wr w5 := hBl.grown hg5 (by simp; omega) (fun j hj => by injection hj with hj; omega)
      have hsm := SM.start hM5 hR5 (by omega) (by omega)
      have x6 : w5.cell? ⟨ub + 1, 6, none⟩ = some (.map none) := hX5.cell 6
      have f6 := hX5.free 6
      have lt5 := hX5.lt
      have HX5 := Lib.hid hX5
      have HSM := Lib.hid hsm
      have HBL := Lib.hid hBl5
      have HSB := Lib.hid hsb
      clear hS htk hM0 hR0 hX1 hBl hM5 hg5 hX5 hR5 hBl5 hsm hsb hX hB hub hsz
      go_upto_region 8 with fail
      try rw [HSB.out]
      clear hmk hput x6 f6
      have hX6 := HX5.out.set_ 6 (.map (some sb))
      have hsm6 := HSM.out.keptS (Kept.set (Kept.refl (fun k => k = ub + 1) w5) (fun _ => rfl) 6 (.map (some sb))) (by omega) (fun x k hk e => by have := ((HSM.out.row x).lt k hk).1; omega)
      have hBl6 : Below (ub + 1) wr (w5.setCell ⟨ub + 1, 6, none⟩ (.map (some sb))) := HBL.out.setCell (by simp) _
      have lt6 : ub + 1 < (w5.setCell ⟨ub + 1, 6, none⟩ (.map (some sb))).heap.size := by simpa using lt5
      clear HX5 HSM HBL lt5
      generalize w5.setCell ⟨ub + 1, 6, none⟩ (.map (some sb)) = w6 at *
      have x7 : w6.cell? ⟨ub + 1, 7, none⟩ = some (.slice none 0 0) := hX6.cell 7
      have f7 := hX6.free 7
      have hfs : ∀ x, (updC (fun _ => Value.slice none 0 0) q (Value.slice (some ⟨sb + 1, 0, none⟩) 1 1) x).ownBlock ≠ some w6.heap.size := fun x e => by have := ((hsm6.row x).lt _ e).2; omega
      have hfm : sb ≠ w6.heap.size := by have := MapV.lt hsm6.map; omega
      have hX7 := hX6.set_ 7 (.slice (some ⟨w6.heap.size, 0, none⟩) 1 1)
      have hsm7 := hsm6.keptS (Kept.set (Kept.refl (fun k => k = ub + 1) w6) (fun _ => rfl) 7 (.slice (some ⟨w6.heap.size, 0, none⟩) 1 1)) (by omega) (fun x k hk e => by have := ((hsm6.row x).lt k hk).1; omega)
      have hbl7 := hBl6.setCell (p := ⟨ub + 1, 7, none⟩) (by simp) (.slice (some ⟨w6.heap.size, 0, none⟩) 1 1)
      have hsz7 : (w6.setCell ⟨ub + 1, 7, none⟩ (.slice (some ⟨w6.heap.size, 0, none⟩) 1 1)).heap.size = w6.heap.size := by simp
      have hR := own_lit (w6.setCell ⟨ub + 1, 7, none⟩ (.slice (some ⟨w6.heap.size, 0, none⟩) 1 1)) (ub + 2) 3 1 1 #[.int .i64 q] (by omega) rfl (by unfold maxLen; omega)
      rw [hsz7] at hR
      have hb7 : Below (w6.setCell ⟨ub + 1, 7, none⟩ (.slice (some ⟨w6.heap.size, 0, none⟩) 1 1)).heap.size (w6.setCell ⟨ub + 1, 7, none⟩ (.slice (some ⟨w6.heap.size, 0, none⟩) 1 1)) ((w6.setCell ⟨ub + 1, 7, none⟩ (.slice (some ⟨w6.heap.size, 0, none⟩) 1 1)).alloc (.cells #[.int .i64 q] 3)) := (Below.refl _ _).alloc (Nat.le_refl _) _
      have HX7 := Lib.hid (hX7.below hb7 hX7.lt)
      have HS7 := Lib.hid (hsm7.below hb7)
      have HR7 := Lib.hid hR
      have HB7 := Lib.hid (hbl7.trans (hb7.mono (by omega)))
      have HFS := Lib.hid hfs
      have HFM := Lib.hid hfm
      have hwle : w.heap.size ≤ ub + 1 := by omega
      clear hX6 hsm6 hBl6 hR hb7 hX7 hsm7 hbl7 hfs hfm hk hkn hs5 hxlt hs0 hglt hsz7
      go_wp2_with fail
      go_ret
      refine ⟨ub + 1, rfl, hwle, wr, w.heap.size, ub, sb, 1, ct, _, _, .slice (some ⟨w6.heap.size, 0, none⟩) 1 1, [q], HDC.out, ⟨HX7.out, HS7.out, HR7.out, fun x => .inr (fun e => HFS.out x e.symm), fun e => by injection e with e; exact HFM.out e.symm, HB7.out⟩, steps_zero q b, Cov.start, (fun x hx => by rw [List.mem_singleton.1 hx]; exact hq), (fun x hx => by rw [List.mem_singleton.1 hx, lateL_end]; rfl), by simp, fun x => ?_, by omega⟩
      by_cases e : x = q
      · subst e; rw [updP_same]; simp
      · rw [updP_ne _ _ e]; simp
end Go.Proofs.YtmbaklodgpcegaaGreat
