/- order.Sort at one to nineteen routes. No condition but that. -/
import Derived.Test.YtbhhkaaidhapbaaOrder7
namespace Go.Proofs.Ytbhhkaaidhapbaa
open Go.ChangeShapes Go.WideShapes Go.ChangeAt Go.RowKit Go.Sort
set_option linter.unusedSimpArgs false
set_option linter.unusedVariables false
theorem sortX_len (l : List Rx) : (sortX l).length = l.length := by
  unfold sortX
  rw [Array.length_toList, size_insertionSort]
  simp
theorem sortX_mem (l : List Rx) (x : Rx) : x ∈ sortX l ↔ x ∈ l := by
  have hs : Swo (ltOf cfX) := swo_cmpR (fun x => x.h.t) (fun x => x.d) cfX fun _ _ => rfl
  obtain ⟨hz, _, h⟩ := ins_good hs l.toArray (a := 0) (b := l.length) (by omega) (by simp)
  unfold Good at h
  have e1 : ∀ d : Array Rx, seg d 0 d.size = d.toList := fun d => by
    refine List.ext_getElem (by rw [seg_len]; simp) fun i h1 h2 => ?_
    rw [seg_get _ _ _ _ h1, Nat.zero_add]
    rw [seg_len] at h1
    simp [h1]
  have e2 := e1 l.toArray
  have e3 := e1 (insertionSort (ltOf cfX) l.toArray 0 l.length)
  rw [hz, List.size_toArray] at e3
  rw [List.size_toArray] at e2
  rw [Nat.sub_zero, e2, e3] at h
  exact h.mem hs
set_option maxHeartbeats 2000000 in
set_option maxRecDepth 100000 in
/-- m: the routes in new memory; what comes out: those of them that are kept, in order. -/
theorem osort_any (A : Option Addr) (n c : Nat) (l : List Rx) (w : World) (hl : l.length = n) (h0 : 0 < n) (hn : n < 1000) (h : Sl w w.heap.size 2 A n c (flatRh (hdRx l))) (hok : ∀ x ∈ l, x.ok w) :
    Calls Try.prog 11 #[.slice A n c] w fun e w' => ∃ g c' m, e = .returned (.slice (some ⟨g, 0, none⟩) (compactX (sortX m)).length c') ∧ m.length = n ∧ (∀ j, j < n → (gRx m j).d = (gRx l j).d ∧ (gRx m j).h.t = (gRx l j).h.t) ∧ (∀ x ∈ compactX (sortX m), (x.ok w' ∧ x.off g) ∧ x.own w' w.heap.size) ∧ w'.ownsRow w.heap.size 25 2 (.slice (some ⟨g, 0, none⟩) (compactX (sortX m)).length c') (compactX (sortX m)).length (flatRh (hdRx (compactX (sortX m)))) ∧ Below w.heap.size w w' := by
  have HC := Lib.hid (clone_any A n c l w hl (by omega) h hok)
  clear hl h hok
  go_enter Try.func11, Try.ntmps11
  go_wp2_with fail
  refine HC.out.mono ?_
  rintro e w1 ⟨v, m, rfl, hm, hsame, hok1, hown, hB⟩
  obtain ⟨g, c1, rfl, _, _, hgb, hgl⟩ := own_at hown h0
  have HS := Lib.hid hsame
  have HM := Lib.hid hm
  have HO := Lib.hid (fun x hx => ⟨(hok1 x hx).1.1, (hok1 x hx).1.2 g rfl⟩ : ∀ x ∈ m, x.ok w1 ∧ x.off g)
  have HN := Lib.hid (fun x hx => (hok1 x hx).2 : ∀ x ∈ m, x.own w1 w.heap.size)
  clear HC hsame hm hok1
  go_wp2_with fail
  refine (sortRx_some g c1 n m w1 w.heap.size HM.out hn hown HO.out).mono ?_
  rintro e w2 ⟨rfl, hok2, hown2, hg2⟩
  have HN2 : Hid (∀ x ∈ sortX m, x.own w2 w.heap.size) := fun x hx => (HN.out x ((sortX_mem m x).1 hx)).kept hg2 (hok2 x hx).2
  have hB2 : Below w.heap.size w w2 := hB.grown hg2 hB.size (fun k hk => by injection hk with hk; omega)
  have HO2 := Lib.hid hok2
  clear hown HO hB hok2
  go_wp2_with fail
  refine (compactRx g c1 n (sortX m) w2 w.heap.size (by rw [sortX_len, HM.out]) (by omega) hown2 HO2.out).mono ?_
  rintro e w3 ⟨c3, rfl, hown3, hg3⟩
  have hB3 : Below w.heap.size w w3 := hB2.grown hg3 hB2.size (fun k hk => by injection hk with hk; omega)
  clear hown2 hB2
  go_wp2
  go_ret
  refine ⟨g, c3, m, rfl, HM.out, HS.out, fun x hx => ?_, hown3, hB3⟩
  have hx2 := HO2.out x (kpX_mem _ (Nat.le_refl _) x hx)
  exact ⟨⟨hx2.1.kept hg3 hx2.2, hx2.2⟩, (HN2.out x (kpX_mem _ (Nat.le_refl _) x hx)).kept hg3 hx2.2⟩
set_option maxHeartbeats 2000000 in
set_option maxRecDepth 100000 in
theorem ins0_any (A : Option Addr) (c : Nat) (fv : Value) (w : World) :
    Calls Try.prog 39 #[.slice A 0 c, .int .i64 0, .int .i64 0, fv] w fun e w' => e = .returned (.tuple #[]) ∧ w' = w := by
  go_enter Try.func39, Try.ntmps39
  go_wp2
  go_loopw [8] (fun i wr => i = .int .i64 1 ∧ wr = w) (fun _ _ => 1)
  case atStart => exact ⟨by go_num, rfl⟩
  case round =>
    obtain ⟨rfl, rfl⟩ := hrel
    go_wp2
    go_end0
    exact ⟨rfl, rfl⟩
set_option maxHeartbeats 2000000 in
set_option maxRecDepth 100000 in
theorem stable0_any (A : Option Addr) (c : Nat) (fv : Value) (w : World) :
    Calls Try.prog 36 #[.slice A 0 c, .int .i64 0, fv] w fun e w' => e = .returned (.tuple #[]) ∧ w' = w := by
  go_enter Try.func36, Try.ntmps36
  go_wp2
  go_loopw [7, 8] (fun i j wr => i = .int .i64 0 ∧ j = .int .i64 20 ∧ wr = w) (fun _ _ _ => 1)
  case atStart => exact ⟨by go_num, by go_num, rfl⟩
  case round =>
    obtain ⟨rfl, rfl, rfl⟩ := hrel
    go_wp2_with fail
    refine (ins0_any A c fv _).mono ?_
    rintro e w1 ⟨rfl, rfl⟩
    go_wp2
    go_loopw [6] (fun i wr => i = .int .i64 20 ∧ wr = w1) (fun _ _ => 1)
    case atStart => exact ⟨by go_num, rfl⟩
    case round =>
      obtain ⟨rfl, rfl⟩ := hrel
      go_wp2
      go_end0
      exact ⟨rfl, rfl⟩
set_option maxHeartbeats 2000000 in
set_option maxRecDepth 100000 in
theorem sortStable0_any (A : Option Addr) (c : Nat) (fv : Value) (w : World) :
    Calls Try.prog 24 #[.slice A 0 c, fv] w fun e w' => e = .returned (.tuple #[]) ∧ w' = w := by
  go_enter Try.func24, Try.ntmps24
  go_wp2_with fail
  refine (stable0_any A c fv _).mono ?_
  rintro e w1 ⟨rfl, rfl⟩
  go_wp2_with fail
  exact bodyPost_end (results_none (by rfl) _ _ _) rfl ⟨rfl, rfl⟩
set_option maxHeartbeats 2000000 in
set_option maxRecDepth 100000 in
theorem compact0_any (A : Option Addr) (c : Nat) (fv : Value) (w : World) :
    Calls Try.prog 25 #[.slice A 0 c, fv] w fun e w' => e = .returned (.slice A 0 c) ∧ w' = w := by
  go_enter Try.func25, Try.ntmps25
  go_wp2
  go_ret
  exact ⟨rfl, rfl⟩
set_option maxHeartbeats 2000000 in
set_option maxRecDepth 100000 in
/-- Of no routes there are none. -/
theorem osort0_any (A : Option Addr) (c : Nat) (w : World) (h : Sl w w.heap.size 2 A 0 c (flatRh (hdRx []))) :
    Calls Try.prog 11 #[.slice A 0 c] w fun e w' => ∃ A' c', e = .returned (.slice A' 0 c') ∧ Sl w' w'.heap.size 2 A' 0 c' (flatRh (hdRx [])) ∧ Below w.heap.size w w' := by
  have HC := Lib.hid (clone_any A 0 c [] w rfl (by omega) h (fun x hx => by cases hx))
  clear h
  go_enter Try.func11, Try.ntmps11
  go_wp2_with fail
  refine HC.out.mono ?_
  rintro e w1 ⟨v, m, rfl, hm, _, _, hown, hB⟩
  obtain rfl : m = [] := by simpa using hm
  obtain ⟨A1, c1, rfl⟩ := slice_of_own hown
  have HS := Lib.hid (Sl.of_own hown)
  clear HC hown hm
  go_wp2_with fail
  refine (sortStable0_any A1 c1 _ w1).mono ?_
  rintro e w2 ⟨rfl, rfl⟩
  go_wp2_with fail
  refine (compact0_any A1 c1 _ w2).mono ?_
  rintro e w3 ⟨rfl, rfl⟩
  go_wp2
  go_ret
  exact ⟨A1, c1, rfl, HS.out, hB⟩
end Go.Proofs.Ytbhhkaaidhapbaa
