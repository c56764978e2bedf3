/- Package heap: Push. -/
import Derived.Test.YtjkcjbcbnnpmfaaGA
import Derived.Test.YtjkcjbcbnnpmfaaGI
import Derived.Deep.RegionLaw
namespace Go.Proofs.Ytjkcjbcbnnpmfaa
open Go.ChangeShapes Go.WideShapes Go.ChangeAt Go.RowKit Go.Sort Hp
set_option linter.unusedSimpArgs false
set_option linter.unusedVariables false
theorem ready_info : (Try.prog.info? 36).map (fun i => (i.zero, i.size, i.bytes)) = some (some (.agg #[.int .i64 0, .int .i64 0]), 2, 16) := by kernel_rfl
/-- The heap at hb, whose slice is v. -/
structure HeapV (w : World) (hb : Nat) (v : Value) (d : List (Int × Int)) : Prop where
  head : Blok w hb 112 #[v]
  row : w.ownsRow 0 36 2 v d.length (flat2 d)
theorem own_pos {w : World} {base : Nat} {e : TypeId} {size n : Nat} {v : Value} {xs : List Value} (h : w.ownsRow base e size v n xs) (hn : 0 < n) : ∃ g c, v = .slice (some ⟨g, 0, none⟩) n c ∧ n ≤ c := by
  rcases h.2 with ⟨rfl, rfl⟩ | ⟨g', cap, cur, rfl, _, _, hc, _⟩
  · omega
  · exact ⟨_, _, rfl, hc⟩
theorem HeapV.at_ {w : World} {hb g cap : Nat} {d : List (Int × Int)} (h : HeapV w hb (.slice (some ⟨g, 0, none⟩) d.length cap) d) : HeapAt w hb g cap d := ⟨h.head, h.row⟩
theorem HeapAt.v {w : World} {hb g cap : Nat} {d : List (Int × Int)} (h : HeapAt w hb g cap d) : HeapV w hb (.slice (some ⟨g, 0, none⟩) d.length cap) d := ⟨h.head, h.row⟩
set_option maxHeartbeats 2000000 in
set_option maxRecDepth 100000 in
theorem push_any (hb : Nat) (v : Value) (d : List (Int × Int)) (r : Int × Int) (w : World) (hsz : d.length < 1000000) (h0 : HeapV w hb v d) (hh : isHeap d) :
    Calls Try.prog 64 #[.pointer (some ⟨hb, 0, none⟩), .agg #[.int .i64 r.1, .int .i64 r.2]] w fun e w' => e = .returned (.tuple #[]) ∧ ∃ v' d', d'.Perm (d ++ [r]) ∧ isHeap d' ∧ HeapV w' hb v' d' ∧ Kept (fun k => k = hb ∨ v.ownBlock = some k) w w' ∧ (v'.ownBlock = v.ownBlock ∨ ∃ k, w.heap.size ≤ k ∧ v'.ownBlock = some k) := by
  obtain ⟨i0, hi0, hz0, hz1, hz2⟩ := info_parts ready_info
  have cb : w.cell? ⟨hb, 0, none⟩ = some v := h0.head.cell 0
  have fb := h0.head.free 0
  have hbl := h0.head.lt
  go_enter Try.func64, Try.ntmps64
  go_wp2
  go_region_law (refine step_append_own rfl (.tmp 8) (.tmp 10) 29 rfl 0 36 i0 _ 2 16 Try.underlying29 hi0 hz0 hz1 hz2 rfl (by decide) v d.length (flat2 d) rfl ((h0.row.alloc _).alloc _) ⟨w.heap.size + 1, 0, none⟩ 1 1 [.int .i64 r.1, .int .i64 r.2] rfl rfl (by exact lit_cells _ #[.int .i64 r.1, .int .i64 r.2] _ _ (by simp)) (by simp [Value.oneCell']) (by unfold maxLen; omega) (by omega) (by omega) ?_; intro v1 w1 hown1 hg1 hx hwh1; clear hx; obtain ⟨g1, c1, rfl, hc1⟩ := own_pos hown1 (by omega); have hb1 := Blok.over h0.head hg1 (Blok.ne_own h0.row h0.head (by decide)) (by (repeat (first | exact Below.refl _ _ | refine Below.alloc ?_ (by first | omega | (simp; done) | (simp; omega)) _ | refine Below.setCell ?_ (by first | omega | (simp; done) | (simp; omega)) _ | refine Below.drew ?_))); have cb1 : w1.cell? ⟨hb, 0, none⟩ = some v := hb1.cell 0; have fb1 := hb1.free 0; have HW := Lib.hid hwh1; clear hwh1)
  all_goals
    have hne := Blok.ne_own hown1 hb1 (by decide)
    have hnb : hb ≠ g1 := by
      simp only [Value.ownBlock] at hne
      exact fun e => hne (by rw [e])
    have hA : HeapAt ((w1.setCell ⟨hb, 0, none⟩ (.slice (some ⟨g1, 0, none⟩) (d.length + 1) c1))) hb g1 c1 (d ++ [r]) := by
      refine ⟨?_, ?_⟩
      · rw [List.length_append]
        exact one_setCell hb1
      · rw [List.length_append, flat2_append]
        exact ownsRow_setCell_other hown1 (by simpa using hne) _
    have hu := up_start hh r
    have hK : Kept (fun k => k = hb ∨ v.ownBlock = some k) w ((w1.setCell ⟨hb, 0, none⟩ (.slice (some ⟨g1, 0, none⟩) (d.length + 1) c1))) := by
      exact Kept.set (Kept.grow_ (Kept.of_below (by (repeat (first | exact Below.refl _ _ | refine Below.alloc ?_ (by first | omega | (simp; done) | (simp; omega)) _ | refine Below.setCell ?_ (by first | omega | (simp; done) | (simp; omega)) _ | refine Below.drew ?_)))) hg1 (fun i _ h => .inr h)) (fun _ => .inl rfl) _ _
    clear cb fb cb1 fb1 hb1 hg1 hown1 hne
    generalize hwq : ((w1.setCell ⟨hb, 0, none⟩ (.slice (some ⟨g1, 0, none⟩) (d.length + 1) c1))) = wq at *
    have cb : wq.cell? ⟨hb, 0, none⟩ = some (.slice (some ⟨g1, 0, none⟩) (d.length + 1) c1) := by
      have := hA.head.cell 0
      rw [List.length_append] at this
      exact this
    clear hwq
    go_wp2_with fail
    refine (rise_any hb g1 c1 d.length (d ++ [r]) wq (by simpa using hc1) (by simp; omega) hA hu).mono ?_
    rintro e w2 ⟨rfl, d', k1, k2, k3, k4, k5⟩
    have K1 := Lib.hid k1
    clear k1
    go_wp2
    go_end0
    refine ⟨rfl, _, d', k2, k3, k4.v, Kept.grow_ hK k5 (fun i hi h => ?_), ?_⟩
    · rcases HW.out with e | e
      · exact .inr (e ▸ h)
      · have e2 : some g1 = _ := e
        rw [h] at e2; simp at e2; omega
    · rcases HW.out with e | e
      · exact .inl e
      · refine .inr ⟨_, ?_, e⟩
        simp
        omega
end Go.Proofs.Ytjkcjbcbnnpmfaa
