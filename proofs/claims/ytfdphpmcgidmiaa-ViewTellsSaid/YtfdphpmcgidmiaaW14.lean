/- Contracts and plain facts, several texts of mine in one: SortE. No condition. -/
import Derived.Test.YtfdphpmcgidmiaaW13
import Derived.Test.YtfdphpmcgidmiaaShelf
import Derived.Sort.OwnSorted

/- slices.SortFunc at edges, by their IDs, a row of the call's own. No condition. -/
namespace Go.Proofs.Ytfdphpmcgidmiaa
open Go.ChangeShapes Go.WideShapes Go.ChangeAt Go.RowKit Go.Sort
set_option linter.unusedSimpArgs false
set_option linter.unusedVariables false
instance inhEd : Inhabited Ed := ⟨zeroEd⟩
theorem flatEd_bang (l : List Ed) : ∀ t, t < l.length * 8 → (flatEd l)[t]? = (Ed.cs (l.toArray[t / 8]!))[t % 8]? := by
  induction l with
  | nil => intro t h; simp at h
  | cons p d ih =>
    intro t h
    have hc : flatEd (p :: d) = Ed.cs p ++ flatEd d := rfl
    rw [hc]
    by_cases h8 : t < 8
    · rw [List.getElem?_append_left (by exact h8)]
      have h1 : t / 8 = 0 := by omega
      have h2 : t % 8 = t := by omega
      rw [h1, h2]; simp
    · obtain ⟨s, rfl⟩ : ∃ s, t = s + 8 := ⟨t - 8, by omega⟩
      rw [List.getElem?_append_right (by show 8 ≤ s + 8; omega)]
      show (flatEd d)[s + 8 - 8]? = _
      rw [Nat.add_sub_cancel, ih s (by simp at h; omega)]
      have h1 : (s + 8) / 8 = s / 8 + 1 := by omega
      have h2 : (s + 8) % 8 = s % 8 := by omega
      rw [h1, h2]
      have h3 : d.toArray[s / 8]! = (p :: d).toArray[s / 8 + 1]! := by simp
      rw [h3]
theorem flatK_Ed (l : List Ed) : flatK Ed.cs 8 l.toArray = (flatEd l).toArray := by
  refine ext_get! (by simp [flatEd_length]) fun t ht => ?_
  have ht' : t < l.length * 8 := by simpa using ht
  rw [get_flatK _ _ _ _ (by simpa using ht'), List.getElem!_eq_getElem?_getD, ← flatEd_bang l t ht']
  simp
theorem holds_of_blockV {w : World} {g : Nat} {cur : Array Value} {e : TypeId} {ss : List Value} (hb : w.heap[g]? = some (.cells cur e (0, 0))) (ht : cur.toList.take ss.length = ss) : Holds id w g 0 ss.toArray := by
  intro j hj
  have hj' : j < ss.length := by simpa using hj
  refine ⟨?_, by simp [World.frozen?, hb]⟩
  have h1 : (cur.toList.take ss.length)[j]? = ss[j]? := by rw [ht]
  rw [List.getElem?_take_of_lt hj'] at h1
  simp only [World.cell?, hb, Nat.zero_add]
  simp only [Option.isSome_none, Bool.false_eq_true, if_false]
  rw [← Array.getElem?_toList, h1]
  simp [hj']
theorem heap_sortedV {w : World} {g n : Nat} {os : Array Obj} {cur : Array Value} {e : TypeId} {fr : Nat × Nat} (d : Array Value) (hb : w.heap[g]? = some (.cells cur e fr)) :
    (grow (putRow id (Sort.ahead w n) g 0 d) os).heap[g]? = some (.cells (putCells id 0 d cur) e fr) := by
  have hg : g < w.heap.size := (Array.getElem?_eq_some_iff.1 hb).1
  rw [heap_grow_old _ _ (by simpa using hg)]
  simp [putRow, mapBlock, Sort.ahead, Array.getElem?_modify, hb, onCells]
theorem grownBy_sortedV {w : World} {g n : Nat} {os : Array Obj} (d : Array Value) : w.grownBy (grow (putRow id (Sort.ahead w n) g 0 d) os) (some g) := by
  refine ⟨rfl, rfl, rfl, by simp, fun k hk hne => ?_⟩
  rw [heap_grow_old _ _ (by simpa using hk)]
  have : g ≠ k := fun e => hne (by rw [e])
  simp [putRow, mapBlock, Sort.ahead, Array.getElem?_modify, this]
theorem take_putCellsV (cur : Array Value) (ts : List Value) (h : ts.length ≤ cur.size) : (putCells id 0 ts.toArray cur).toList.take ts.length = ts := by
  apply List.ext_getElem?
  intro j
  by_cases hj : j < ts.length
  · rw [List.getElem?_take_of_lt hj, Array.getElem?_toList]
    simp [putCells, hj, show j < cur.size by omega]
  · rw [List.getElem?_take_eq_none (by omega), List.getElem?_eq_none (by omega)]
theorem ownsRow_sortedV {w : World} {base g cap n k m : Nat} {e : TypeId} {os : Array Obj} {cur : Array Value} {ts : List Value} (hl : ts.length = n * k) (hbase : base ≤ g) (hb : w.heap[g]? = some (.cells cur e (0, 0)))
    (h1 : n ≤ cap) (h2 : cap ≤ maxLen) (h3 : cur.size = cap * k) :
    (grow (putRow id (Sort.ahead w m) g 0 ts.toArray) os).ownsRow base e k (.slice (some ⟨g, 0, none⟩) n cap) n ts :=
  ⟨hl, .inr ⟨g, cap, _, rfl, hbase, heap_sortedV _ hb, h1, h2, by simp [putCells, h3], by rw [← hl]; exact take_putCellsV cur ts (by rw [h3, hl]; exact Nat.mul_le_mul_right k h1)⟩⟩
def cfEd (x y : Ed) : Int := Lib.compareInt x.id y.id
theorem ltEd (x y : Ed) : ltOf cfEd x y = decide (x.id < y.id) := by
  unfold ltOf cfEd Lib.compareInt
  by_cases h1 : x.id < y.id
  · simp [h1]
  · by_cases h2 : y.id < x.id <;> simp [h1, h2]
theorem swoEd : SWO (ltOf cfEd) :=
  ⟨fun x => by rw [ltEd]; simp, fun x y z h1 h2 => by rw [ltEd] at *; simp at *; omega, fun x y z h1 h2 => by rw [ltEd] at *; simp at *; omega⟩
set_option maxHeartbeats 1000000 in
theorem closureEd (x y : Ed) (W : World) : Calls Try.prog 43 #[.agg #[.int .i64 x.id, .int .i64 x.fr, .int .i64 x.tn, .int .i64 x.op, .int .i64 x.en, .int .i64 x.ra, .int .i64 x.ow, .int .i64 x.ro], .agg #[.int .i64 y.id, .int .i64 y.fr, .int .i64 y.tn, .int .i64 y.op, .int .i64 y.en, .int .i64 y.ra, .int .i64 y.ow, .int .i64 y.ro]] W fun e w' => e = .returned (.int .i64 (cfEd x y)) ∧ ∃ q os', w' = grow (W.drewN q) os' := by
  have hcon := fun W' => AnyG.cmp_Compare_int Try.cmpIntEd x.id y.id W'
  change ∀ W', Calls Try.prog 44 _ _ _ at hcon
  unfold cfEd
  generalize Lib.compareInt x.id y.id = r at hcon ⊢
  go_enter Try.func43, Try.ntmps43
  go_wp2_with (go_at_call 44; refine (hcon _).mono ?_; rintro e w' ⟨rfl, rfl⟩)
  go_ret
  exact ⟨rfl, 0, _, by rw [alloc_eq_grow, alloc_eq_grow, grow_grow]; rfl⟩
theorem sortEd_any (u : Value) (l : List Ed) (base : Nat) (w : World) (hl : l.length ≤ 1000000) (hown : w.ownsRow base 34 8 u l.length (flatEd l)) :
    Calls Try.prog 42 #[u, .func (.func 43) #[] #[]] w fun e w' => ∃ m : List Ed, e = .returned (.tuple #[]) ∧ m.Perm l ∧ (∀ i j, i < j → j < m.length → (gEd m i).id ≤ (gEd m j).id) ∧ w'.ownsRow base 34 8 u l.length (flatEd m) ∧ w.grownBy w' u.ownBlock := by
  rcases hown.2 with ⟨rfl, h0⟩ | ⟨g, cap, cur, rfl, hbase, hb, h1, h2, h3, h4⟩
  · have hl0 : l = [] := by
      have h := flatEd_length l
      rw [h0] at h
      exact List.eq_nil_of_length_eq_zero (by simp at h; omega)
    subst hl0
    have hcon := AnyF.slices_SortFunc_none Try.sortEd none 0 (.func (.func 43) #[] #[]) w
    change Calls Try.prog 42 _ _ _ at hcon
    refine hcon.mono ?_
    rintro e w' ⟨rfl, rfl⟩
    exact ⟨[], rfl, List.Perm.refl _, (fun i j _ hj => by simp at hj), hown, grown_refl _ _⟩
  · have hH : HoldsK Ed.cs 8 w g 0 l.toArray := by
      unfold HoldsK
      rw [flatK_Ed]
      exact holds_of_blockV hb (by rw [flatEd_length]; exact h4)
    have hgl : g < w.heap.size := (Array.getElem?_eq_some_iff.1 hb).1
    have eg : ∀ args w, (callFunc 43 args).run Try.prog w = .ok (.enter 43 args) w := enters_of Try.func43 (by kernel_rfl) rfl
    have hcon := AnyQ.slices_SortFunc Try.sortEd 8 Try.isAgg34 Try.sizeOf34 Ed.cs (fun _ => rfl) (fun x v hv => by simp [Ed.cs] at hv; rcases hv with rfl | rfl | rfl | rfl | rfl | rfl | rfl | rfl <;> rfl) cfEd swoEd 43 #[] g 0 cap l.toArray w eg (fun _ _ _ _ x y => closureEd x y _) hH hgl (by simp; omega)
    change Calls Try.prog 42 _ _ _ at hcon
    simp only [List.size_toArray] at hcon
    refine hcon.mono ?_
    rintro e w' ⟨rfl, d', n, os, hp, hs, rfl⟩
    obtain ⟨hsz, _, hpm⟩ := hp
    have hz : d'.size = l.length := by simpa using hsz
    have hpm2 : d'.toList.Perm l := by
      have e1 : (d'.extract 0 l.length) = d' := by rw [← hz]; simp
      have e2 : (l.toArray.extract 0 l.length) = l.toArray := by simp
      rw [e1, e2] at hpm
      simpa using hpm
    have hlen : d'.toList.length = l.length := by simpa using hz
    refine ⟨d'.toList, rfl, hpm2, fun i j hij hj => ?_, ?_, ?_⟩
    · have h := hs i j (by omega) hij (by omega)
      rw [ltEd] at h
      have g1 : ∀ k, k < d'.size → d'[k]! = gEd d'.toList k := fun k hk => by
        rw [gEd_eq (by simpa using hk)]; simp [hk]
      rw [g1 j (by simpa using hj), g1 i (by simp at hj; omega)] at h
      simpa using h
    · have e1 : sortWorldK Ed.cs 8 w g 0 n d' os = grow (putRow id (Sort.ahead w n) g 0 (flatEd d'.toList).toArray) os := by
        unfold sortWorldK putRowK
        rw [show d' = d'.toList.toArray by simp, flatK_Ed]
      rw [e1]
      exact ownsRow_sortedV (by rw [flatEd_length, hlen]) hbase hb h1 h2 h3
    · exact grownBy_sortedV _
end Go.Proofs.Ytfdphpmcgidmiaa
