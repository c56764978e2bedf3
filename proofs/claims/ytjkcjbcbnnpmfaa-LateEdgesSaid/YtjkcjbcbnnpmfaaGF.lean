/- Several texts of mine in one: JointT, JointT2. No condition. -/
import Derived.Test.YtjkcjbcbnnpmfaaJoint

/- joint.To: for each node the places of the edges to there, each a row of its own. It makes new memory alone. -/
namespace Go.Proofs.Ytjkcjbcbnnpmfaa
open Go.ChangeShapes Go.WideShapes Go.ChangeAt Go.RowKit Go.Sort Hp
set_option linter.unusedSimpArgs false
set_option linter.unusedVariables false
/-- Of the first k edges the places of those from n. -/
def rowT (l : List Ed) (k n : Nat) : List Int := ((List.range k).filter (fun (i : Nat) => (gEd l i).tn == (n : Int))).map (fun (i : Nat) => (i : Int))
theorem rowT_next (l : List Ed) (k n : Nat) : rowT l (k + 1) n = if (gEd l k).tn = (n : Int) then rowT l k n ++ [(k : Int)] else rowT l k n := by
  unfold rowT
  rw [List.range_succ, List.filter_append, List.map_append]
  by_cases h : (gEd l k).tn = (n : Int)
  · rw [if_pos h]; simp [h]
  · rw [if_neg h]; simp [h]
theorem rowT_zero (l : List Ed) (n : Nat) : rowT l 0 n = [] := rfl
theorem rowT_len (l : List Ed) (k n : Nat) : (rowT l k n).length ≤ k := by
  unfold rowT
  rw [List.length_map]
  have := List.length_filter_le (fun i => (gEd l i).tn == (n : Int)) (List.range k)
  simpa using this
/-- 256 cells, each a row of the call's own, no two of them in one block. -/
structure PlcT (w : World) (base : Nat) (l : List Ed) (k : Nat) (cs : List Value) : Prop where
  len : cs.length = 256
  row : ∀ n, n < 256 → w.ownsRow base 3 1 (cellP cs n) (rowT l k n).length ((rowT l k n).map (Value.int .i64))
  sep : ∀ n m, n < 256 → m < 256 → n ≠ m → (cellP cs n).ownBlock = none ∨ (cellP cs n).ownBlock ≠ (cellP cs m).ownBlock
theorem PlcT.zero (w : World) (base : Nat) (l : List Ed) : PlcT w base l 0 (List.replicate 256 (.slice none 0 0)) := by
  have hc : ∀ n, n < 256 → cellP (List.replicate 256 (Value.slice none 0 0)) n = .slice none 0 0 := fun n hn => by
    unfold cellP
    rw [List.getD_eq_getElem?_getD, List.getElem?_replicate, if_pos hn]; rfl
  refine ⟨List.length_replicate, fun n hn => ?_, fun n m hn hm _ => ?_⟩
  · rw [hc n hn, rowT_zero]
    exact World.ownsRow_nil _ _ _ _
  · rw [hc n hn]; exact .inl rfl
theorem PlcT.below {w w' : World} {base : Nat} {l : List Ed} {k : Nat} {cs : List Value} (h : PlcT w base l k cs) (hb : Below w.heap.size w w') : PlcT w' base l k cs := ⟨h.len, fun n hn => own_belowJ (h.row n hn) hb, h.sep⟩
theorem PlcT.put {w W w' : World} {base g : Nat} {l : List Ed} {k f : Nat} {v1 : Value} {cs : List Value} (h : PlcT w base l k cs) (hf : f < 256) (hfr : (gEd l k).tn = (f : Int)) (hg : g < base) (hw : Below w.heap.size w W) (hgr : W.grownBy w' (cellP cs f).ownBlock)
    (hown : w'.ownsRow base 3 1 v1 ((rowT l k f).length + 1) ((rowT l k f).map (Value.int .i64) ++ [.int .i64 k])) (hbl : v1.ownBlock = (cellP cs f).ownBlock ∨ ∃ b, w.heap.size ≤ b ∧ v1.ownBlock = some b) :
    PlcT (w'.setCell ⟨g, f, none⟩ v1) base l (k + 1) (cs.set f v1) := by
  have hset : ∀ {v : Value} {n : Nat} {xs : List Value}, w'.ownsRow base 3 1 v n xs → (w'.setCell ⟨g, f, none⟩ v1).ownsRow base 3 1 v n xs := fun hv => own_low' hv (grown_set (g := g) w' f v1) hg
  have hl := h.len
  refine ⟨by rw [List.length_set]; exact h.len, fun n hn => ?_, fun n m hn hm hne => ?_⟩
  · rw [cellP_set v1 (by omega), rowT_next]
    by_cases e : n = f
    · subst e
      rw [if_pos rfl, if_pos hfr, List.length_append, List.map_append]
      exact hset hown
    · rw [if_neg e, if_neg (fun e2 => e (by omega))]
      refine hset ((own_belowJ (h.row n hn) hw).kept hgr ?_)
      rcases h.sep n f hn hf e with h1 | h1
      · exact .inl h1
      · exact .inr h1
  · rw [cellP_set v1 (by omega), cellP_set v1 (by omega)]
    have key : ∀ m, m < 256 → m ≠ f → (cellP cs m).ownBlock = none ∨ (cellP cs m).ownBlock ≠ v1.ownBlock := fun m hm hmf => by
      rcases hbl with h1 | ⟨b, h1, h2⟩
      · rw [h1]; exact h.sep m f hm hf hmf
      · cases ho : (cellP cs m).ownBlock with
        | none => exact .inl rfl
        | some q =>
          refine .inr fun e => ?_
          rw [h2] at e
          injection e with e
          have := ((h.row m hm).lt q ho).2
          omega
    by_cases e : n = f
    · subst e
      rw [if_pos rfl, if_neg (fun e => hne e.symm)]
      rcases key m hm (fun e => hne e.symm) with h1 | h1
      · by_cases h3 : v1.ownBlock = none
        · exact .inl h3
        · exact .inr fun e => h3 (by rw [e]; exact h1)
      · exact .inr fun e => h1 e.symm
    · rw [if_neg e]
      by_cases e2 : m = f
      · subst e2
        rw [if_pos rfl]
        exact key n hn e
      · rw [if_neg e2]; exact h.sep n m hn hm hne
end Go.Proofs.Ytjkcjbcbnnpmfaa

/- joint.To's walk. It makes new memory alone. -/
namespace Go.Proofs.Ytjkcjbcbnnpmfaa
open Go.ChangeShapes Go.WideShapes Go.ChangeAt Go.RowKit Go.Sort Hp
set_option linter.unusedSimpArgs false
set_option linter.unusedVariables false
theorem zeroPT : Try.zeroCells85 = (List.replicate 256 (Value.slice none 0 0)).toArray := by kernel_rfl
set_option maxHeartbeats 2000000 in
set_option maxRecDepth 100000 in
theorem jto_any (A : Option Addr) (n c : Nat) (l : List Ed) (w : World) (hd : l.length = n) (hn : n ≤ 1000) (hok : ∀ k, k < n → 1 ≤ (gEd l k).tn ∧ (gEd l k).tn ≤ 255) (h : Sl w w.heap.size 8 A n c (flatEd l)) :
    Calls Try.prog 37 #[.slice A n c] w fun e w' => ∃ cs : List Value, e = .returned (.pointer (some ⟨w.heap.size, 0, none⟩)) ∧ Blok w' w.heap.size 85 cs.toArray ∧ PlcT w' (w.heap.size + 1) l n cs ∧ Below w.heap.size w w' := by
  obtain ⟨i0, hi0, hz0, hz1, hz2⟩ := info_parts infoIJ
  have hB : Below w.heap.size w (w.alloc (.cells Try.zeroCells85 85)) := (Below.refl _ _).alloc (Nat.le_refl _) _
  have hG := Blok.new w 85 Try.zeroCells85
  have HD := Lib.hid hd
  have HOK := Lib.hid hok
  have HL := Lib.hid (fun w' (hb : Below w.heap.size w w') => h.up hb)
  clear hd hok h
  go_enter Try.func37, Try.ntmps37
  go_upto_region 2 with fail
  generalize w.alloc (.cells Try.zeroCells85 85) = w0 at *
  rw [zeroPT] at hG
  have HG0 := Lib.hid hG
  have HP0 : Hid (PlcT w0 (w.heap.size + 1) l 0 (List.replicate 256 (.slice none 0 0))) := PlcT.zero _ _ _
  clear hG
  go_wp2_with fail
  go_loopw [8] (fun iv wr => ∃ (k : Nat) (cs : List Value), iv = .int .i64 k ∧ k ≤ n ∧ Below w.heap.size w wr ∧ Hid (Blok wr w.heap.size 85 cs.toArray) ∧ Hid (PlcT wr (w.heap.size + 1) l k cs)) (fun iv _ => n - (intOf iv).toNat)
  case atStart => exact ⟨0, _, rfl, by omega, hB, HG0, HP0⟩
  case round =>
    clear hB HG0 HP0
    obtain ⟨k, cs, rfl, hk, hB, HG, HP⟩ := hrel
    have hs := hB.size
    by_cases hkn : k < n
    · obtain ⟨ad, rfl, hab, c0, c1, c2, c3, c4, c5, c6, c7⟩ := (HL.out _ hB).lst.atEd HD.out hkn
      have hfr := HOK.out k hkn
      obtain ⟨x, hx⟩ : ∃ x, gEd l k = x := ⟨_, rfl⟩
      rw [hx] at c0 c1 c2 c3 c4 c5 c6 c7 hfr
      have HX := Lib.hid hx
      have hX := Blok.new wr 39 #[.int .i64 x.id, .int .i64 x.fr, .int .i64 x.tn, .int .i64 x.op, .int .i64 x.en, .int .i64 x.ra, .int .i64 x.ow, .int .i64 x.ro]
      have hb := (Below.refl wr.heap.size wr).alloc (Nat.le_refl _) (.cells #[.int .i64 x.id, .int .i64 x.fr, .int .i64 x.tn, .int .i64 x.op, .int .i64 x.en, .int .i64 x.ra, .int .i64 x.ow, .int .i64 x.ro] 39)
      go_upto_region 5 with fail
      clear c0 c1 c2 c3 c4 c5 c6 c7
      have hG := HG.out.below hb HG.out.lt
      have hP := HP.out.below hb
      have hB2 := hB.trans (hb.mono hs)
      clear hb HG HP hB hs hx
      generalize wr.alloc (.cells #[.int .i64 x.id, .int .i64 x.fr, .int .i64 x.tn, .int .i64 x.op, .int .i64 x.en, .int .i64 x.ra, .int .i64 x.ow, .int .i64 x.ro] 39) = w2 at *
      generalize wr.heap.size = bx at *
      obtain ⟨f, hf⟩ : ∃ f : Nat, x.tn = (f : Int) := ⟨x.tn.toNat, by omega⟩
      have HFR := Lib.hid (show (gEd l k).tn = (f : Int) from by rw [HX.out, hf])
      have hf2 : f < 256 := by omega
      have x1 : w2.cell? ⟨bx, 2, none⟩ = some (.int .i64 (f : Int)) := by rw [← hf]; exact hX.cell 2
      have lt_x := hX.lt
      have hlen := hP.len
      obtain ⟨v, hv⟩ : ∃ v, cellP cs f = v := ⟨_, rfl⟩
      have pg : w2.cell? ⟨w.heap.size, f, none⟩ = some v := by
        rw [hG.cell f, ← hv]
        have := cellP_at (cs := cs) (n := f) (by omega)
        simpa using this
      have fg := hG.free f
      have lt_g := hG.lt
      have hrow := hP.row f hf2
      rw [hv] at hrow
      have hrl := rowT_len l k f
      have HROW := Lib.hid hrow
      have HG2 := Lib.hid hG
      have HP2 := Lib.hid hP
      have HV := Lib.hid hv
      have hs2 := hB2.size
      have hgv : some w.heap.size ≠ v.ownBlock := fun e => by have := (HROW.out.lt _ e.symm).1; omega
      have hfI : (f : Int) < 256 := by omega
      have hf0 : (0 : Int) ≤ (f : Int) := by omega
      have HXB := Lib.hid hX
      have hxv := Lib.hid (Blok.ne_own HROW.out hX (by decide))
      have x1h := Lib.hid x1
      clear hX hf hfr hv hG hP hrow hlen
      go_region_law (refine step_append_own rfl (.tmp 18) (.tmp 20) 23 rfl (w.heap.size + 1) 3 i0 _ 1 8 Try.underlying23 hi0 hz0 hz1 hz2 rfl (by decide) v (rowT l k f).length ((rowT l k f).map (Value.int .i64)) rfl (HROW.out.alloc _) ⟨w2.heap.size, 0, none⟩ 1 1 [.int .i64 k] rfl rfl (by exact lit_cells _ #[.int .i64 k] _ _ (by simp)) (by simp [Value.oneCell']) (by unfold maxLen; omega) (by omega) (by simp; omega) ?_; intro v1 w1 hown1 hg1 hn1 hl1; clear hn1; obtain ⟨A1, q1, rfl⟩ := slice_of_own hown1; have hb1 := Blok.over HG2.out hg1 (fun e => hgv e.symm) (by (repeat (first | exact Below.refl _ _ | refine Below.alloc ?_ (by first | omega | (simp; done) | (simp; omega)) _ | refine Below.setCell ?_ (by first | omega | (simp; done) | (simp; omega)) _ | refine Below.drew ?_))); have cb1 : w1.cell? ⟨w.heap.size, f, none⟩ = some v := (hb1.cell f).trans ((HG2.out.cell f).symm.trans pg); have hbx := Blok.over HXB.out hg1 hxv.out (by (repeat (first | exact Below.refl _ _ | refine Below.alloc ?_ (by first | omega | (simp; done) | (simp; omega)) _ | refine Below.setCell ?_ (by first | omega | (simp; done) | (simp; omega)) _ | refine Below.drew ?_))); have xb1 : w1.cell? ⟨bx, 2, none⟩ = some (.int .i64 (f : Int)) := (hbx.cell 2).trans ((HXB.out.cell 2).symm.trans x1h.out); have lbx := hbx.lt; clear hbx; have fb1 := hb1.free f; have lb1 := hb1.lt; have HL1 := Lib.hid hl1; have HO1 := Lib.hid hown1; have HGR := Lib.hid hg1; have HB1 := Lib.hid hb1; clear hl1 hown1 hg1 hb1)
      all_goals
        have hw : Below w2.heap.size w2 ((w2.alloc (.cells #[.int .i64 k] 3)).drew) := by (repeat (first | exact Below.refl _ _ | refine Below.alloc ?_ (by first | omega | (simp; done) | (simp; omega)) _ | refine Below.setCell ?_ (by first | omega | (simp; done) | (simp; omega)) _ | refine Below.drew ?_))
        have hbl : (Value.slice A1 ((rowT l k f).length + 1) q1).ownBlock = (cellP cs f).ownBlock ∨ ∃ b, w2.heap.size ≤ b ∧ (Value.slice A1 ((rowT l k f).length + 1) q1).ownBlock = some b := by
          rcases HL1.out with e | e
          · exact .inl (by rw [HV.out]; exact e)
          · exact .inr ⟨_, hw.size, e⟩
        have hPN := PlcT.put (g := w.heap.size) HP2.out hf2 HFR.out (by omega) hw (by rw [HV.out]; exact HGR.out) HO1.out hbl
        have hGN : Blok (w1.setCell ⟨w.heap.size, f, none⟩ (.slice A1 ((rowT l k f).length + 1) q1)) w.heap.size 85 (cs.set f (.slice A1 ((rowT l k f).length + 1) q1)).toArray := by
          have h := HB1.out.set_ f (.slice A1 ((rowT l k f).length + 1) q1)
          simpa using h
        have hB1 : Below w.heap.size w w1 := (hB2.trans (hw.mono hs2)).grown HGR.out (Nat.le_trans hs2 hw.size) (fun g hg => by have := (HROW.out.lt g hg).1; omega)
        have hBN := hB1.setCell (p := ⟨w.heap.size, f, none⟩) (Nat.le_refl _) (.slice A1 ((rowT l k f).length + 1) q1)
        have HPN := Lib.hid hPN
        have HGN := Lib.hid hGN
        clear hPN hGN hB1 hw hbl HGR HO1 HL1 HB1 cb1 xb1 lbx fb1 lb1 pg fg lt_g x1 lt_x hB2
        generalize w1.setCell ⟨w.heap.size, f, none⟩ (.slice A1 ((rowT l k f).length + 1) q1) = wq at *
        go_wp2_with fail
        go_roundw
        case rel => exact ⟨k + 1, cs.set f (.slice A1 ((rowT l k f).length + 1) q1), by go_num, by omega, hBN, HGN, HPN⟩
        case measure => simp [intOf]; omega
    · obtain rfl : k = n := by omega
      go_wp2_with fail
      go_ret
      exact ⟨cs, rfl, HG.out, HP.out, hB⟩
end Go.Proofs.Ytjkcjbcbnnpmfaa
