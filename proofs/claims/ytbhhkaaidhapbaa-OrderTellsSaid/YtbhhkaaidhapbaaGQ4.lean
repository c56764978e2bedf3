/- Several texts of mine in one: Order9, Order10, OrdSmall. No condition. -/
import Derived.Test.YtbhhkaaidhapbaaOrder8
namespace Go.Proofs.Ytbhhkaaidhapbaa
open Go.ChangeShapes Go.WideShapes Go.ChangeAt Go.RowKit Go.Sort
set_option linter.unusedSimpArgs false
set_option linter.unusedVariables false
section
variable {α β : Type} [Inhabited α] [Inhabited β] (f : α → β) (hf : f default = default) (cf : α → α → Int) (cg : β → β → Int) (hc : ∀ x y, cg (f x) (f y) = cf x y)
include hf
theorem bang_mapG (d : Array α) (i : Nat) : (d.map f)[i]! = f d[i]! := by
  by_cases h : i < d.size
  · simp [h]
  · simp [h, hf]
theorem swp_mapG (d : Array α) (i j : Nat) : (Sort.swp d i j).map f = Sort.swp (d.map f) i j := by
  unfold Sort.swp
  rw [bang_mapG f hf, bang_mapG f hf]
  simp
include hc
theorem inner_mapG (a : Nat) : ∀ (j : Nat) (d : Array α), (Sort.insInner (ltOf cf) a j d).map f = Sort.insInner (ltOf cg) a j (d.map f)
  | 0, d => rfl
  | j + 1, d => by
    rw [Sort.insInner, Sort.insInner, bang_mapG f hf, bang_mapG f hf]
    have e : ltOf cg (f d[j + 1]!) (f d[j]!) = ltOf cf d[j + 1]! d[j]! := by unfold ltOf; rw [hc]
    rw [e]
    split
    · rw [inner_mapG a j, swp_mapG f hf]
    · rfl
theorem outer_mapG (a b : Nat) : ∀ (k i : Nat) (d : Array α), b - i ≤ k → (Sort.insOuter (ltOf cf) a b i d).map f = Sort.insOuter (ltOf cg) a b i (d.map f)
  | 0, i, d, h => by
    rw [Sort.insOuter.eq_def (lt := ltOf cf), Sort.insOuter.eq_def (lt := ltOf cg), if_neg (by omega), if_neg (by omega)]
  | k + 1, i, d, h => by
    rw [Sort.insOuter.eq_def (lt := ltOf cf), Sort.insOuter.eq_def (lt := ltOf cg)]
    by_cases hi : i < b
    · rw [if_pos hi, if_pos hi, outer_mapG a b k (i + 1) _ (by omega), inner_mapG f hf cf cg hc]
    · rw [if_neg hi, if_neg hi]
end
/-- A route: its hops, when it is there. -/
abbrev Rt := List Hp × Int
def cfT (a b : Rt) : Int := cmpR a.2 a.1 b.2 b.1
def sortT (l : List Rt) : List Rt := (Sort.insertionSort (ltOf cfT) l.toArray 0 l.length).toList
theorem sortX_rt (l : List Rx) : (sortX l).map Rx.rt = sortT (l.map Rx.rt) := by
  unfold sortX sortT Sort.insertionSort
  rw [← Array.toList_map, outer_mapG Rx.rt rfl cfX cfT (fun _ _ => rfl) 0 l.length l.length 1 _ (by omega)]
  simp
def gT (l : List Rt) (i : Nat) : Rt := l.getD i ([], 0)
def kpT (l : List Rt) : Nat → List Rt
  | 0 => []
  | j + 1 => kpT l j ++ if j = 0 ∨ (!decide (cfT (gT l j) (gT l (j - 1)) = 0)) = true then [gT l j] else []
def compactT (l : List Rt) : List Rt := kpT l l.length
theorem gT_rt (l : List Rx) (i : Nat) : gT (l.map Rx.rt) i = (gRx l i).rt := by
  unfold gT gRx
  rw [List.getD_eq_getElem?_getD, List.getD_eq_getElem?_getD, List.getElem?_map]
  cases l[i]? <;> rfl
theorem kpX_rt (l : List Rx) : ∀ k, (kpX l k).map Rx.rt = kpT (l.map Rx.rt) k
  | 0 => rfl
  | k + 1 => by
    rw [kpX, kpT, List.map_append, kpX_rt l k, gT_rt, gT_rt]
    have e : (!decide (cfT (gRx l k).rt (gRx l (k - 1)).rt = 0)) = keepX l k := rfl
    rw [e]
    split <;> rfl
theorem compactX_rt (l : List Rx) : (compactX l).map Rx.rt = compactT (l.map Rx.rt) := by
  unfold compactX compactT
  rw [kpX_rt, List.length_map]
/-- The routes that come out of order.Sort. -/
theorem out_rt {l m : List Rx} {n : Nat} (hl : l.length = n) (hm : m.length = n) (h : ∀ j, j < n → (gRx m j).d = (gRx l j).d ∧ (gRx m j).h.t = (gRx l j).h.t) : (compactX (sortX m)).map Rx.rt = compactT (sortT (l.map Rx.rt)) := by
  rw [compactX_rt, sortX_rt]
  have e : m.map Rx.rt = l.map Rx.rt := by
    refine List.ext_getElem (by simp [hl, hm]) fun j h1 h2 => ?_
    simp only [List.length_map] at h1 h2
    have h3 := h j (by omega)
    unfold gRx at h3
    rw [List.getD_eq_getElem?_getD, List.getD_eq_getElem?_getD, List.getElem?_eq_getElem h1, List.getElem?_eq_getElem h2] at h3
    simp only [List.getElem_map, Rx.rt]
    simp only [Option.getD_some] at h3
    rw [h3.1, h3.2]
  rw [e]
end Go.Proofs.Ytbhhkaaidhapbaa
namespace Go.Proofs.Ytbhhkaaidhapbaa
open Go.ChangeShapes Go.WideShapes Go.ChangeAt Go.RowKit Go.Sort
set_option linter.unusedSimpArgs false
set_option linter.unusedVariables false
set_option maxHeartbeats 2000000 in
set_option maxRecDepth 100000 in
theorem oins_any (A : Option Addr) (n c : Nat) (l : List Rx) (x : Rx) (most : Int) (q : Nat) (w : World) (hl : l.length = n) (hn : n < 999) (h : Sl w w.heap.size 2 A n c (flatRh (hdRx l))) (hok : ∀ y ∈ l, y.ok w) (hx : x.ok w) (hq : q = min most.toNat (compactT (sortT ((l ++ [x]).map Rx.rt))).length) :
    Calls Try.prog 13 #[.slice A n c, .agg #[.slice x.h.A x.h.n x.h.c, .int .i64 x.h.t], .int .i64 most] w fun e w' => ∃ g m, e = .returned (.slice (some ⟨g, 0, none⟩) q q) ∧ m.map Rx.rt = (compactT (sortT ((l ++ [x]).map Rx.rt))).take q ∧ (∀ y ∈ m, y.ok w') ∧ Sl w' w'.heap.size 2 (some ⟨g, 0, none⟩) q q (flatRh (hdRx m)) ∧ Below w.heap.size w w' := by
  have HQ := Lib.hid hq
  have HL := Lib.hid hl
  have HOK := Lib.hid hok
  have HX := Lib.hid hx
  have HH := Lib.hid h
  clear hq hl hok hx h
  go_enter Try.func13, Try.ntmps13
  go_wp2_with fail
  have hB0 : Below w.heap.size w (((w.alloc (.cells #[.slice x.h.A x.h.n x.h.c, .int .i64 x.h.t] 25)).alloc (.cells #[.slice x.h.A x.h.n x.h.c, .int .i64 x.h.t] 25)).alloc (.cells #[.slice A n c, .slice (some ⟨w.heap.size + 1, 0, none⟩) 1 1] 22)) := by (repeat (first | exact Below.refl _ _ | refine Below.alloc ?_ (by first | omega | (simp; done) | (simp; omega)) _ | refine Below.setCell ?_ (by first | omega | (simp; done) | (simp; omega)) _ | refine Below.drew ?_))
  have hlit := own_lit (w.alloc (.cells #[.slice x.h.A x.h.n x.h.c, .int .i64 x.h.t] 25)) w.heap.size 25 2 1 #[.slice x.h.A x.h.n x.h.c, .int .i64 x.h.t] (by simp) rfl (by simp [maxLen])
  have hO2 := Blok.new ((w.alloc (.cells #[.slice x.h.A x.h.n x.h.c, .int .i64 x.h.t] 25)).alloc (.cells #[.slice x.h.A x.h.n x.h.c, .int .i64 x.h.t] 25)) 22 #[.slice A n c, .slice (some ⟨w.heap.size + 1, 0, none⟩) 1 1]
  simp only [World.size_alloc] at hlit hO2
  have hr := (Sl.of_own hlit).up ((Below.refl _ _).alloc (Nat.le_refl _) (.cells #[.slice A n c, .slice (some ⟨w.heap.size + 1, 0, none⟩) 1 1] 22))
  have hls := HH.out.up hB0
  have HOK2 : Hid (∀ y ∈ l ++ [x], y.ok (((w.alloc (.cells #[.slice x.h.A x.h.n x.h.c, .int .i64 x.h.t] 25)).alloc (.cells #[.slice x.h.A x.h.n x.h.c, .int .i64 x.h.t] 25)).alloc (.cells #[.slice A n c, .slice (some ⟨w.heap.size + 1, 0, none⟩) 1 1] 22))) := fun y hy => by
    rcases List.mem_append.1 hy with hy | hy
    · exact (HOK.out y hy).below hB0
    · simp at hy; subst hy; exact HX.out.below hB0
  have hs0 := hB0.size
  clear hlit
  generalize (((w.alloc (.cells #[.slice x.h.A x.h.n x.h.c, .int .i64 x.h.t] 25)).alloc (.cells #[.slice x.h.A x.h.n x.h.c, .int .i64 x.h.t] 25)).alloc (.cells #[.slice A n c, .slice (some ⟨w.heap.size + 1, 0, none⟩) 1 1] 22)) = wz at *
  have hcat : catRh (fun k => if k = 0 then hdRx l else [x.h]) 2 = hdRx (l ++ [x]) := by simp [catRh, hdRx]
  have hlen : (hdRx (l ++ [x])).length = n + 1 := by simp [hdRx, HL.out]
  refine (concatRh (w.heap.size + 1 + 1) 2 2 (fun k => if k = 0 then A else some ⟨w.heap.size + 1, 0, none⟩) (fun k => if k = 0 then n else 1) (fun k => if k = 0 then c else 1) (fun k => if k = 0 then hdRx l else [x.h]) wz (by omega) (fun k hk => ?_) (by rw [hcat, hlen]; omega) (fun k hk => ?_) (fun k hk => ?_)).mono ?_
  · by_cases h0 : k = 0
    · simp only [h0, if_true]; simp [hdRx, HL.out]
    · simp only [h0, if_false]; rfl
  · obtain rfl | rfl : k = 0 ∨ k = 1 := by omega
    · exact hO2.cell 0
    · exact hO2.cell 1
  · obtain rfl | rfl : k = 0 ∨ k = 1 := by omega
    · exact hls
    · exact hr
  rintro e w4 ⟨v, rfl, hown, hb4⟩
  rw [hcat, hlen] at hown
  obtain ⟨A4, c4, rfl⟩ := slice_of_own hown
  have hB4 := hB0.trans (hb4.mono hs0)
  have HS4 := Lib.hid (Sl.of_own hown)
  have HOK4 : Hid (∀ y ∈ l ++ [x], y.ok w4) := fun y hy => (HOK2.out y hy).below hb4
  clear hO2 hr hls hown hb4 HOK2 hB0
  go_wp2_with fail
  refine (osort_any A4 (n + 1) c4 (l ++ [x]) w4 (by simp [HL.out]) (by omega) (by omega) HS4.out HOK4.out).mono ?_
  rintro e w5 ⟨g, c5, m, rfl, hm, hsame, ho5, hown5, hb5⟩
  have hrt := out_rt (l := l ++ [x]) (m := m) (n := n + 1) (by simp [HL.out]) hm hsame
  have hB5 := hB4.trans (hb5.mono hB4.size)
  obtain ⟨z, hz⟩ : ∃ z, compactX (sortX m) = z := ⟨_, rfl⟩
  rw [hz] at hrt ho5 hown5 ⊢
  have hqz : q = min most.toNat z.length := by rw [HQ.out, ← hrt, List.length_map]
  have HRT := Lib.hid hrt
  have HO5 := Lib.hid ho5
  have HS5 := Lib.hid (Sl.of_own hown5)
  have HQZ := Lib.hid hqz
  have hzc : z.length ≤ c5 := HS5.out.cap
  have hcm : c5 ≤ maxLen := HS5.out.max
  clear hrt ho5 hown5 hb5 hz hm hsame HS4 HOK4 hB4 HQ
  generalize hK : z.length = K at *
  have HK := Lib.hid hK
  clear hK
  go_wp2_with fail
  have hmq : (min (max most 0) (K : Int)).toNat = q := by omega
  have hqK : q ≤ K := by omega
  go_ret
  refine ⟨g, z.take q, ?_, ?_, fun y hy => (HO5.out y (List.mem_of_mem_take hy)).1.1, ?_, hB5⟩
  · show Ending.returned (Value.slice (some ⟨g, 0, none⟩) (min (max most 0) (K : Int)).toNat (min (max most 0) (K : Int)).toNat) = _
    rw [hmq]
  · rw [List.map_take, HRT.out]
  · have hu := HS5.out.upto (m := q) hqK
    rw [hd_take] at hu
    exact ⟨hu.lst, Nat.le_refl _, by omega, fun h => by cases h⟩
def ra : Rt := ([⟨9, 1, 20⟩], 20)
def rb : Rt := ([⟨1, 1, 5⟩, ⟨2, 5, 20⟩], 20)
def rc : Rt := ([⟨1, 1, 5⟩, ⟨3, 5, 20⟩], 20)
def rd : Rt := ([⟨9, 2, 20⟩], 20)
theorem small_sort : compactT (sortT [rc, rb, ra, rd]) = [ra, rb, rc] := by decide +kernel
theorem small_ins : (compactT (sortT ([ra, rc] ++ [rb]))).take 2 = [ra, rb] := by decide +kernel
end Go.Proofs.Ytbhhkaaidhapbaa
