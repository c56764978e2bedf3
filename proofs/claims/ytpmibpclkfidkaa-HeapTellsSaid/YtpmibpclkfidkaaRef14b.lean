/- The document's own heap: Pop, Push, New. -/
import Derived.Test.YtpmibpclkfidkaaRef14
namespace Go.Proofs.Ytpmibpclkfidkaa
open Go.ChangeShapes Go.WideShapes Go.ChangeAt Go.RowKit Go.Sort Hp
set_option linter.unusedSimpArgs false
set_option linter.unusedVariables false
theorem RefB.below {w w' : World} {B gb : Nat} {A : Option Addr} {n c : Nat} {s : List (Int × Int)} (h : RefB w B gb A n c s) (hb : Below w.heap.size w w') : RefB w' B gb A n c s :=
  ⟨h.head.below hb h.head.lt, (h.lst.below hb).more hb.size, h.len, h.cap, h.max, h.gbB, h.own, h.sep, h.ord⟩
theorem RefB.keptS {S : Nat → Prop} {w w' : World} {B gb : Nat} {A : Option Addr} {n c : Nat} {s : List (Int × Int)} (h : RefB w B gb A n c s) (hk : Kept S w w') (h1 : ¬ S gb) (h2 : ∀ ad, A = some ad → ¬ S ad.block) : RefB w' B gb A n c s := by
  refine ⟨hk.blok h.head h1, ⟨h.lst.len, fun hn => ?_⟩, h.len, h.cap, h.max, h.gbB, h.own, h.sep, h.ord⟩
  obtain ⟨ad, e, hb, hc⟩ := h.lst.at_ hn
  refine ⟨ad, e, by have := hk.size; omega, fun j u hu => ?_⟩
  rw [World.cell?_of_block (w := w) (by rw [add_block]; exact hk.block _ hb (h2 ad e))]
  exact hc j u hu
theorem Lst.on_ {w w' : World} {B B' k n : Nat} {A : Option Addr} {xs : List Value} (h : Lst w B k A n xs) (hk : ∀ ad, A = some ad → ad.block < B → w'.heap[ad.block]? = w.heap[ad.block]? ∧ ad.block < B') : Lst w' B' k A n xs :=
  ⟨h.len, fun hn => by
    obtain ⟨ad, e, hb, hc⟩ := h.at_ hn
    obtain ⟨h1, h2⟩ := hk ad e hb
    exact ⟨ad, e, h2, fun j u hu => (World.cell?_of_block (by rw [add_block]; exact h1)).trans (hc j u hu)⟩⟩
set_option maxRecDepth 100000 in
theorem rpop_none {w : World} {B gb : Nat} {A : Option Addr} {n c : Nat} (h : RefB w B gb A n c []) :
    Calls Try.prog 13 #[.pointer (some ⟨gb, 0, none⟩)] w fun e w' => e = .returned (.tuple #[.agg #[.int .i64 0, .int .i64 0], .bool false]) ∧ Below w.heap.size w w' := by
  have hB0 : Below w.heap.size w (w.alloc (.cells #[.int .i64 0, .int .i64 0] 30)) := (Below.refl _ _).alloc (Nat.le_refl _) _
  have h1 := h.below hB0
  clear h
  go_enter Try.func13, Try.ntmps13
  go_wp2_with fail
  refine (rpeek_none h1).mono ?_
  rintro e w1 ⟨rfl, hB⟩
  have hR := (Blok.new w 30 #[.int .i64 0, .int .i64 0]).below hB (by simp)
  have r0 : w1.cell? ⟨w.heap.size, 0, none⟩ = some (.int .i64 0) := hR.cell 0
  have r1 : w1.cell? ⟨w.heap.size, 1, none⟩ = some (.int .i64 0) := hR.cell 1
  have f0 := hR.free 0
  have f1 := hR.free 1
  have hs := hB.size
  simp only [World.size_alloc] at hs
  have hlt : w.heap.size < w1.heap.size := by omega
  clear h1 hR
  go_wp2
  refine bodyPost_ret (v := .tuple #[.agg #[.int .i64 0, .int .i64 0], .bool false]) ?_ rfl ⟨rfl, ?_⟩
  · simp [results, Try.results13, go_sem, r0, r1, hlt]
  · (repeat (first | exact Below.refl _ _ | exact hB | refine Below.alloc ?_ (by first | omega | (simp; done) | (simp; omega)) _ | refine Below.setCell ?_ (by first | omega | (simp; done) | (simp; omega)) _ | refine Below.drew ?_ | refine Below.trans ?_ (hB.mono (by first | omega | (simp; done) | (simp; omega)))))
set_option maxHeartbeats 2000000 in
set_option maxRecDepth 100000 in
theorem rpop_some {w : World} {B gb : Nat} {A : Option Addr} {n c : Nat} {m : Int × Int} {t : List (Int × Int)} (h : RefB w B gb A n c (m :: t)) (hn : n ≤ 1000000) (hBw : B ≤ w.heap.size) :
    Calls Try.prog 13 #[.pointer (some ⟨gb, 0, none⟩)] w fun e w' => e = .returned (.tuple #[.agg #[.int .i64 m.1, .int .i64 m.2], .bool true]) ∧ ∃ A', RefB w' B gb A' (n - 1) (c - 1) t ∧ Kept (fun k => k = gb) w w' ∧ (∀ ad', A' = some ad' → ∃ ad, A = some ad ∧ ad'.block = ad.block) := by
  have hB0 : Below w.heap.size w (w.alloc (.cells #[.int .i64 0, .int .i64 0] 30)) := (Below.refl _ _).alloc (Nat.le_refl _) _
  have h1 := h.below hB0
  have hgl := h.head.lt
  have hnl := h.len
  simp only [List.length_cons] at hnl
  have hcap := h.cap
  have hmax := h.max
  unfold maxLen at hmax
  have hn0 : 0 < n := by omega
  have hn1 : (1 : Int) ≤ (n : Int) := by omega
  have hfr := h.lst.from_ (k := 1) hn0 hcap
  have hord := (List.pairwise_cons.1 h.ord).2
  have hown := h.own
  have hgbB := h.gbB
  have HS := Lib.hid h.sep
  have hblk : Hid (∀ ad, A = some ad → ad.block < w.heap.size) := fun ad e => by
    obtain ⟨ad', e', hb', _⟩ := h.lst.at_ hn0
    rw [e] at e'; injection e' with e'; subst e'; exact hb'
  have HO := Lib.hid hown
  have HR := Lib.hid hord
  have HNL := Lib.hid hnl
  clear h hown hord hnl
  by_cases hc : c = 1
  · go_enter Try.func13, Try.ntmps13
    go_wp2_with fail
    refine (rpeek_some h1 hn).mono ?_
    rintro e w1 ⟨rfl, hB⟩
    have hR := (Blok.new w 30 #[.int .i64 0, .int .i64 0]).below hB (by simp)
    have hh := h1.below hB
    have hs := hB.size
    simp only [World.size_alloc] at hs
    have hlt : w.heap.size < w1.heap.size := by omega
    have hK := Kept.of_below (S := fun k => k = gb) (hB0.trans (hB.mono (by simp)))
    have cb : w1.cell? ⟨gb, 0, none⟩ = some (.slice A n c) := hh.head.cell 0
    have fb := hh.head.free 0
    have r0 : w1.cell? ⟨w.heap.size, 0, none⟩ = some (.int .i64 0) := hR.cell 0
    have r1 : w1.cell? ⟨w.heap.size, 1, none⟩ = some (.int .i64 0) := hR.cell 1
    have f0 := hR.free 0
    have f1 := hR.free 1
    have hgR : gb ≠ w.heap.size := by omega
    have hl1 : gb < w1.heap.size := by omega
    have hf1 := hh.lst.from_ (k := 1) hn0 hcap
    have hhead := hh.head
    have hb := hB0.trans (hB.mono (by simp))
    clear h1 hR hh hB hB0 hfr
    go_wp2
    refine bodyPost_ret (v := .tuple #[.agg #[.int .i64 m.1, .int .i64 m.2], .bool true]) ?_ rfl ⟨rfl, ?_⟩
    · simp [results, Try.results13, go_sem, r0, r1, hlt, hgR]
    · have hK1 := ((((hK.set (g := gb) (fun _ => rfl) 0 (.slice A (n - 1) 0)).set (g := w.heap.size) (fun h => by omega) 0 (.int .i64 m.1)).set (g := w.heap.size) (fun h => by omega) 1 (.int .i64 m.2)).alloc (.cells #[.int .i64 m.1, .int .i64 m.2] 30))
      have hH1 := ((((show Blok (w1.setCell ⟨gb, 0, none⟩ (.slice A (n - 1) 0)) gb _ #[.slice A (n - 1) 0] from one_setCell hhead).far (p := ⟨w.heap.size, 0, none⟩) hgR (.int .i64 m.1)).far (p := ⟨w.heap.size, 1, none⟩) hgR (.int .i64 m.2)).alloc (.cells #[.int .i64 m.1, .int .i64 m.2] 30))
      rw [show c - 1 = 0 from by omega]
      refine ⟨A, ⟨hH1, ?_, ?_, by omega, by unfold maxLen; omega, hgbB, ?_, ?_, HR.out⟩, hK1, ?_⟩
      · refine Lst.on_ (w := w1) (B := w1.heap.size) ?_ (fun ad e hb => ?_)
        · have := hf1; rw [if_pos hc] at this; exact this
        · obtain ⟨ad0, rfl⟩ : ∃ ad0, A = some ad0 := ⟨ad, e⟩; injection e with e; subst e
          have h1 := HS.out ad0 rfl
          have h2 : ad0.block < w.heap.size := hblk.out ad0 rfl
          rw [Below.heap_alloc _ _ _ (by simp; omega), Below.heap_setCell _ _ _ _ (by simp; omega), Below.heap_setCell _ _ _ _ (by simp; omega), Below.heap_setCell _ _ _ _ (by simpa using h1)]
          exact ⟨rfl, by simp; omega⟩
      · have := HNL.out; omega
      · intro ad e
        obtain ⟨ad0, rfl⟩ : ∃ ad0, A = some ad0 := ⟨ad, e⟩; injection e with e; subst e
        exact HO.out ad0 rfl
      · intro ad e
        obtain ⟨ad0, rfl⟩ : ∃ ad0, A = some ad0 := ⟨ad, e⟩; injection e with e; subst e
        exact HS.out ad0 rfl
      · intro ad e
        obtain ⟨ad0, rfl⟩ : ∃ ad0, A = some ad0 := ⟨ad, e⟩; injection e with e; subst e
        exact ⟨ad0, rfl, rfl⟩
  · go_enter Try.func13, Try.ntmps13
    go_wp2_with fail
    refine (rpeek_some h1 hn).mono ?_
    rintro e w1 ⟨rfl, hB⟩
    have hR := (Blok.new w 30 #[.int .i64 0, .int .i64 0]).below hB (by simp)
    have hh := h1.below hB
    have hs := hB.size
    simp only [World.size_alloc] at hs
    have hlt : w.heap.size < w1.heap.size := by omega
    have hK := Kept.of_below (S := fun k => k = gb) (hB0.trans (hB.mono (by simp)))
    have cb : w1.cell? ⟨gb, 0, none⟩ = some (.slice A n c) := hh.head.cell 0
    have fb := hh.head.free 0
    have r0 : w1.cell? ⟨w.heap.size, 0, none⟩ = some (.int .i64 0) := hR.cell 0
    have r1 : w1.cell? ⟨w.heap.size, 1, none⟩ = some (.int .i64 0) := hR.cell 1
    have f0 := hR.free 0
    have f1 := hR.free 1
    have hgR : gb ≠ w.heap.size := by omega
    have hl1 : gb < w1.heap.size := by omega
    have hf1 := hh.lst.from_ (k := 1) hn0 hcap
    have hhead := hh.head
    have hb := hB0.trans (hB.mono (by simp))
    clear h1 hR hh hB hB0 hfr
    go_wp2
    refine bodyPost_ret (v := .tuple #[.agg #[.int .i64 m.1, .int .i64 m.2], .bool true]) ?_ rfl ⟨rfl, ?_⟩
    · simp [results, Try.results13, go_sem, r0, r1, hlt, hgR]
    · have hK1 := ((((hK.set (g := gb) (fun _ => rfl) 0 (.slice (Option.map (fun x => { block := x.block, off := x.off + 2 }) A) (n - 1) (c - 1))).set (g := w.heap.size) (fun h => by omega) 0 (.int .i64 m.1)).set (g := w.heap.size) (fun h => by omega) 1 (.int .i64 m.2)).alloc (.cells #[.int .i64 m.1, .int .i64 m.2] 30))
      have hH1 := ((((show Blok (w1.setCell ⟨gb, 0, none⟩ (.slice (Option.map (fun x => { block := x.block, off := x.off + 2 }) A) (n - 1) (c - 1))) gb _ #[.slice (Option.map (fun x => { block := x.block, off := x.off + 2 }) A) (n - 1) (c - 1)] from one_setCell hhead).far (p := ⟨w.heap.size, 0, none⟩) hgR (.int .i64 m.1)).far (p := ⟨w.heap.size, 1, none⟩) hgR (.int .i64 m.2)).alloc (.cells #[.int .i64 m.1, .int .i64 m.2] 30))
      refine ⟨(Option.map (fun x => { block := x.block, off := x.off + 2 }) A), ⟨hH1, ?_, ?_, by omega, by unfold maxLen; omega, hgbB, ?_, ?_, HR.out⟩, hK1, ?_⟩
      · refine Lst.on_ (w := w1) (B := w1.heap.size) ?_ (fun ad e hb => ?_)
        · have := hf1; rw [if_neg hc] at this; exact this
        · obtain ⟨ad0, rfl⟩ : ∃ ad0, A = some ad0 := (by cases A with | none => simp at e | some x => exact ⟨x, rfl⟩); simp only [Option.map_some, Option.some.injEq] at e; subst e; try show _ ∧ _ < _; try dsimp only
          have h1 := HS.out ad0 rfl
          have h2 : ad0.block < w.heap.size := hblk.out ad0 rfl
          rw [Below.heap_alloc _ _ _ (by simp; omega), Below.heap_setCell _ _ _ _ (by simp; omega), Below.heap_setCell _ _ _ _ (by simp; omega), Below.heap_setCell _ _ _ _ (by simpa using h1)]
          exact ⟨rfl, by simp; omega⟩
      · have := HNL.out; omega
      · intro ad e
        obtain ⟨ad0, rfl⟩ : ∃ ad0, A = some ad0 := (by cases A with | none => simp at e | some x => exact ⟨x, rfl⟩); simp only [Option.map_some, Option.some.injEq] at e; subst e; try show _ ∧ _ < _; try dsimp only
        exact HO.out ad0 rfl
      · intro ad e
        obtain ⟨ad0, rfl⟩ : ∃ ad0, A = some ad0 := (by cases A with | none => simp at e | some x => exact ⟨x, rfl⟩); simp only [Option.map_some, Option.some.injEq] at e; subst e; try show _ ∧ _ < _; try dsimp only
        exact HS.out ad0 rfl
      · intro ad e
        obtain ⟨ad0, rfl⟩ : ∃ ad0, A = some ad0 := (by cases A with | none => simp at e | some x => exact ⟨x, rfl⟩); simp only [Option.map_some, Option.some.injEq] at e; subst e; try show _ ∧ _ < _; try dsimp only
        exact ⟨ad0, rfl, rfl⟩
end Go.Proofs.Ytpmibpclkfidkaa
