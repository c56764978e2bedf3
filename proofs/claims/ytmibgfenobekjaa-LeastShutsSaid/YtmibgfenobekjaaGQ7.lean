/- Several texts of mine in one: Ref15d, Early3, Early4. No condition. -/
import Derived.Test.YtmibgfenobekjaaGQ5
import Derived.Test.YtmibgfenobekjaaRef12b
import Derived.Test.YtmibgfenobekjaaShelfIter
import Derived.Test.YtmibgfenobekjaaGQ13

/- The document's own earliest times: Times, Reaches. They make new memory alone. -/
namespace Go.Proofs.Ytmibgfenobekjaa
open Go.ChangeShapes Go.WideShapes Go.ChangeAt Go.RowKit Go.Sort Hp
set_option linter.unusedSimpArgs false
set_option linter.unusedVariables false
theorem infoI15 : (Try.prog.info? 3).map (fun i => (i.zero, i.size, i.bytes)) = some (some (.int .i64 0), 1, 8) := by kernel_rfl
theorem ints_one15 (l : List Int) : ∀ u ∈ l.map (Value.int .i64), u.oneCell' = true := by
  intro u hu
  obtain ⟨x, _, rfl⟩ := List.mem_map.1 hu
  rfl
/-- Nodes to which no edge is taken. -/
def shutE (sh : List Int) (q : Int) : Int → Bool := fun y => (sh ++ [q]).contains y
theorem rnds_next {size : Int} {no : Int → Bool} {l : List Ed} {k : Nat} {T : Int → Option Int} : rndsE size no l (k + 1) T = rndE size no l (rndsE size no l k T) := rfl
theorem atR_one (q now : Int) : atR [(q, now)] = oneT q now := by
  funext n
  rw [atR_cons, atR_nil]
  unfold oneT
  by_cases e : q = n
  · rw [if_pos e, if_pos e.symm]
  · rw [if_neg e, if_neg (fun h => e h.symm)]
/-- The times: none, if it is not right to ask, else the earliest ones, by rising nodes. -/
structure IsTimes (l : List Ed) (q now size : Int) (sh : List Int) (r : List (Int × Int)) : Prop where
  srt : Srt r
  no : askE l q now size = false → r = []
  yes : askE l q now size = true → Early l size (shutE sh q) q now (atR r)
theorem IsTimes.one {l : List Ed} {q now size : Int} {sh : List Int} {r r' : List (Int × Int)} (h : IsTimes l q now size sh r) (h' : IsTimes l q now size sh r') : r = r' := by
  cases ha : askE l q now size with
  | false => rw [h.no ha, h'.no ha]
  | true => exact Srt.ext h.srt h'.srt fun n => congrFun ((h.yes ha).one (h'.yes ha)) n
end Go.Proofs.Ytmibgfenobekjaa

/- slices.Sorted(maps.Keys(m)) at ints, by the library's contracts: the keys of a map that is not nil, rising, in a new row. -/
namespace Go.Proofs
open Go.RowKit Go.Maps Go.Sort Go.Shelf
set_option linter.unusedSimpArgs false
set_option linter.unusedVariables false
theorem Try.sortsA (m : Nat) : AnyZI.SortsIn Try.prog Try.sortedA_ren Fence.wide m :=
  ⟨fun blk off cap ss W hH hblk hsz => callsIn_wide.2 (AnyM.slices_Sort_int Try.sortA blk off cap ss W hH hblk hsz),
   fun p cap W => callsIn_wide.2 (AnyM.slices_Sort_int_none Try.sortA p cap W)⟩
theorem Try.ekeys (mb : Option Nat) (W : World) : Calls Try.prog 54 #[.map mb] W fun e w' => e = .returned (.func (.func 75) #[] #[.pointer (some ⟨W.heap.size, 0, none⟩)]) ∧ w' = W.alloc (.cells #[.map mb] 65) :=
  callsIn_wide.1 (AnyZI.keys_in Try.keysA Fence.wide 5 trivial rfl mb W)
set_option maxHeartbeats 1000000 in
theorem Try.esorted {H : Type} (b nn : Nat) (D0 : DataW H) (R : Value → Option (DataW H × List MemPlace)) (w : World) (hown : w.ownsMap Try.prog 3 R b nn D0) (hmax : Maps.size D0 ≤ maxLen) (hbytes : Maps.size D0 * 8 ≤ 140737488355328) :
    Calls Try.prog 53 #[.func (.func 75) #[] #[.pointer (some ⟨w.heap.size, 0, none⟩)]] (w.alloc (.cells #[.map (some b)] 65)) fun e w' => ∃ (v : Value) (ss : List Int), e = .returned v ∧ ss.Perm (intKeys D0) ∧
      w'.ownsRow w.heap.size 3 1 v ss.length ((ss.mergeSort (fun x y => decide (x ≤ y))).map encZ) ∧ (v = .slice none 0 0 ↔ ss = []) ∧ Below w.heap.size w w' := by
  have hbl := hown.lt
  have hseq : SeqGives Fence.wide 2 Try.prog 75 #[.pointer (some ⟨w.heap.size, 0, none⟩)] encZ (fun ss => ss.Perm (intKeys D0)) (Maps.size D0) (w.alloc (.cells #[.map (some b)] 65)) :=
    AnyZI.keys_gives (ρ := Try.keysA_ren) { Try.keysA with } Fence.wide _ trivial rfl (by omega) w.heap.size b nn D0 _ (by simp) (by simp) (by
      obtain ⟨es, clock, hb, Ft, hs, hD⟩ := hown
      exact ⟨es, clock, (Below.heap_alloc _ _ b hbl).trans hb, Ft, hs, hD⟩)
  have cS := AnyZI.sorted_in Try.sortedA Fence.wide 5 trivial trivial trivial trivial rfl (by omega) (Try.sortsA _) (enters_of Try.func74 (by kernel_rfl) rfl) 75 #[.pointer (some ⟨w.heap.size, 0, none⟩)] trivial (enters_of Try.func75 (by kernel_rfl) rfl) _ _ hmax hbytes _ hseq
  change CallsIn _ _ Try.prog 53 _ _ _ at cS
  refine (callsIn_wide.1 cS).mono ?_
  rintro e w' ⟨v, ss, rfl, hS, hrow, hnil, hb⟩
  exact ⟨v, ss, rfl, hS, ownsRow_base_a hrow (by simp), hnil, ((Below.refl _ w).alloc (Nat.le_refl _) _).trans (hb.mono (by simp))⟩
end Go.Proofs

/- The keys of a map of ints: each once, just those that it holds. Plain facts. -/
namespace Go.Proofs.Ytmibgfenobekjaa
open Go.ChangeShapes Go.WideShapes Go.ChangeAt Go.RowKit Go.Sort Go.Maps
set_option linter.unusedSimpArgs false
set_option linter.unusedVariables false
theorem intKeys_facts {H : Type} {D : DataW H} {P : Program} {k : TypeId} {R : Value → Option (DataW H × List MemPlace)} {w : World} {b n : Nat} (hown : w.ownsMap P k R b n D) (K : Keyed P k) (hk : P.underlying k = some (.int .i64)) : (intKeys D).Nodup ∧ ∀ x, x ∈ intKeys D ↔ Maps.has D (.int .i64 x) = true := by
  obtain ⟨es, hD, hpw, _⟩ := hown.entries K
  obtain ⟨es', hD', hko⟩ := hown.keysOf
  obtain rfl : es = es' := by rw [hD] at hD'; simpa using hD'
  subst hD
  have hi : ∀ p ∈ es, ∃ x, p.1 = .int .i64 x := fun p hp => by
    obtain ⟨v, hv⟩ := hko p hp
    obtain ⟨x, _, hx, _⟩ := Maps.keyOf_i64 hk hv
    exact ⟨x, hx⟩
  refine ⟨?_, fun x => ?_⟩
  · unfold intKeys
    rw [List.nodup_iff_pairwise_ne, List.pairwise_map]
    refine hpw.imp_of_mem ?_
    intro p q hp hq hne e
    obtain ⟨a, ha⟩ := hi p hp
    obtain ⟨c, hc⟩ := hi q hq
    rw [ha, hc] at e hne
    exact hne (by simpa [Go.intOf] using e)
  · unfold intKeys
    rw [Maps.has_eq, List.any_eq_true, List.mem_map]
    refine exists_congr fun p => and_congr_right fun hp => ?_
    obtain ⟨a, ha⟩ := hi p hp
    rw [ha]
    simp [Go.intOf, Lit.sameKey]
end Go.Proofs.Ytmibgfenobekjaa
