/- Several texts of mine in one: Early3, Early4, Early5. No condition. -/
import Derived.Test.YtmbaklodgpcegaaShelfIter
import Derived.Test.YtmbaklodgpcegaaGQ11
import Derived.Test.YtmbaklodgpcegaaGQ15
import Derived.Test.YtmbaklodgpcegaaGQ3

/- slices.Sorted(maps.Keys(m)) at ints, by the library's contracts: the keys of a map that is not nil, rising, in a new row. -/
namespace Go.Proofs
open Go.RowKit Go.Maps Go.Sort Go.Shelf
set_option linter.unusedSimpArgs false
set_option linter.unusedVariables false
theorem Try.sortsA (m : Nat) : AnyZI.SortsIn Try.prog Try.sortedA_ren Fence.wide m :=
  ⟨fun blk off cap ss W hH hblk hsz => callsIn_wide.2 (AnyM.slices_Sort_int Try.sortA blk off cap ss W hH hblk hsz),
   fun p cap W => callsIn_wide.2 (AnyM.slices_Sort_int_none Try.sortA p cap W)⟩
theorem Try.ekeys (mb : Option Nat) (W : World) : Calls Try.prog 56 #[.map mb] W fun e w' => e = .returned (.func (.func 67) #[] #[.pointer (some ⟨W.heap.size, 0, none⟩)]) ∧ w' = W.alloc (.cells #[.map mb] 78) :=
  callsIn_wide.1 (AnyZI.keys_in Try.keysA Fence.wide 5 trivial rfl mb W)
set_option maxHeartbeats 1000000 in
theorem Try.esorted {H : Type} (b nn : Nat) (D0 : DataW H) (R : Value → Option (DataW H × List MemPlace)) (w : World) (hown : w.ownsMap Try.prog 3 R b nn D0) (hmax : Maps.size D0 ≤ maxLen) (hbytes : Maps.size D0 * 8 ≤ 140737488355328) :
    Calls Try.prog 55 #[.func (.func 67) #[] #[.pointer (some ⟨w.heap.size, 0, none⟩)]] (w.alloc (.cells #[.map (some b)] 78)) fun e w' => ∃ (v : Value) (ss : List Int), e = .returned v ∧ ss.Perm (intKeys D0) ∧
      w'.ownsRow w.heap.size 3 1 v ss.length ((ss.mergeSort (fun x y => decide (x ≤ y))).map encZ) ∧ (v = .slice none 0 0 ↔ ss = []) ∧ Below w.heap.size w w' := by
  have hbl := hown.lt
  have hseq : SeqGives Fence.wide 2 Try.prog 67 #[.pointer (some ⟨w.heap.size, 0, none⟩)] encZ (fun ss => ss.Perm (intKeys D0)) (Maps.size D0) (w.alloc (.cells #[.map (some b)] 78)) :=
    AnyZI.keys_gives (ρ := Try.keysA_ren) { Try.keysA with } Fence.wide _ trivial rfl (by omega) w.heap.size b nn D0 _ (by simp) (by simp) (by
      obtain ⟨es, clock, hb, Ft, hs, hD⟩ := hown
      exact ⟨es, clock, (Below.heap_alloc _ _ b hbl).trans hb, Ft, hs, hD⟩)
  have cS := AnyZI.sorted_in Try.sortedA Fence.wide 5 trivial trivial trivial trivial rfl (by omega) (Try.sortsA _) (enters_of Try.func66 (by kernel_rfl) rfl) 67 #[.pointer (some ⟨w.heap.size, 0, none⟩)] trivial (enters_of Try.func67 (by kernel_rfl) rfl) _ _ hmax hbytes _ hseq
  change CallsIn _ _ Try.prog 55 _ _ _ at cS
  refine (callsIn_wide.1 cS).mono ?_
  rintro e w' ⟨v, ss, rfl, hS, hrow, hnil, hb⟩
  exact ⟨v, ss, rfl, hS, ownsRow_base_a hrow (by simp), hnil, ((Below.refl _ w).alloc (Nat.le_refl _) _).trans (hb.mono (by simp))⟩
end Go.Proofs

/- The keys of a map of ints: each once, just those that it holds. Plain facts. -/
namespace Go.Proofs.Ytmbaklodgpcegaa
open Go.ChangeShapes Go.WideShapes Go.ChangeAt Go.RowKit Go.Sort Go.Maps
set_option linter.unusedSimpArgs false
set_option linter.unusedVariables false
theorem intKeys_facts {H : Type} {D : DataW H} {P : Program} {k : TypeId} {R : Value → Option (DataW H × List MemPlace)} {w : World} {b n : Nat} (hown : w.ownsMap P k R b n D) (K : Keyed P k) (hk : P.underlying k = some (.int .i64)) : (intKeys D).Nodup ∧ ∀ x, x ∈ intKeys D ↔ Maps.has D (.int .i64 x) = true := by
  obtain ⟨es, hD, hpw, _⟩ := hown.entries K
  obtain ⟨es', hD', hko⟩ := hown.keysOf
  obtain rfl : es = es' := by rw [hD] at hD'; simpa using hD'
  subst hD
  have hi : ∀ p ∈ es, ∃ x, p.1 = .int .i64 x := fun p hp => by
    obtain ⟨v, hv⟩ := hko p hp
    obtain ⟨x, _, hx, _⟩ := Maps.keyOf_i64 hk hv
    exact ⟨x, hx⟩
  refine ⟨?_, fun x => ?_⟩
  · unfold intKeys
    rw [List.nodup_iff_pairwise_ne, List.pairwise_map]
    refine hpw.imp_of_mem ?_
    intro p q hp hq hne e
    obtain ⟨a, ha⟩ := hi p hp
    obtain ⟨c, hc⟩ := hi q hq
    rw [ha, hc] at e hne
    exact hne (by simpa [Go.intOf] using e)
  · unfold intKeys
    rw [Maps.has_eq, List.any_eq_true, List.mem_map]
    refine exists_congr fun p => and_congr_right fun hp => ?_
    obtain ⟨a, ha⟩ := hi p hp
    rw [ha]
    simp [Go.intOf, Lit.sameKey]
end Go.Proofs.Ytmbaklodgpcegaa

/- The program's sorted: a map's times as rows by rising nodes. It makes new memory alone. -/
namespace Go.Proofs.Ytmbaklodgpcegaa
open Go.ChangeShapes Go.WideShapes Go.ChangeAt Go.RowKit Go.Sort Go.Maps Hp
set_option linter.unusedSimpArgs false
set_option linter.unusedVariables false
/-- A table as what a map holds. -/
def tabS (T : Int → Option Int) : Lit → Option Value
  | .int .i64 x => (T x).map (Value.int .i64)
  | _ => none
def MapT (w : World) (b n : Nat) (T : Int → Option Int) : Prop := MapV w 3 b n (tabS T)
theorem sorted_srt {T : Int → Option Int} {ks : List Int} (hn : ks.Nodup) (hs : ks.Pairwise (fun a b => a ≤ b)) : Srt (ks.map fun x => (x, (T x).getD 0)) := by
  unfold Srt
  rw [List.pairwise_map]
  have h := List.Pairwise.and (List.nodup_iff_pairwise_ne.1 hn) hs
  exact h.imp fun {a b} h => by have h1 := h.1; have h2 := h.2; show a < b; omega
theorem sorted_at {T : Int → Option Int} : ∀ {ks : List Int} {x : Int}, atR (ks.map fun x => (x, (T x).getD 0)) x = if x ∈ ks then some ((T x).getD 0) else none
  | [], x => by simp [atR]
  | k :: ks, x => by
    rw [List.map_cons, atR_cons]
    by_cases e : k = x
    · subst e; simp
    · rw [if_neg e, sorted_at]
      have e2 : ¬ x = k := fun h => e h.symm
      simp [e2]
theorem zeroI5 (w : World) : (zeroValue 3).run Try.prog w = .ok (.int .i64 0) w := by kernel_rfl
set_option maxHeartbeats 4000000 in
set_option maxRecDepth 100000 in
theorem esort_any (b n : Nat) (T : Int → Option Int) (w : World) (hM : MapT w b n T) (hn : n ≤ 1000000) (hwf : ∀ x, (T x).isSome = true → (Lit.int .i64 x).wf = true) :
    Calls Try.prog 39 #[.map (some b)] w fun e w' => ∃ v r, e = .returned v ∧ Srt r ∧ atR r = T ∧ r.length ≤ n ∧ w'.ownsRow w.heap.size 75 2 v r.length (flat2 r) ∧ Below w.heap.size w w' := by
  obtain ⟨i0, hi0, hz0, hz1, hz2⟩ := info_parts ready_info
  obtain ⟨D, hown, hD⟩ := hM
  have hsz := hown.size_le
  obtain ⟨hnd, hmem⟩ := intKeys_facts hown (Maps.int_keyed Try.underlying3) Try.underlying3
  have HM := Lib.hid (show MapT w b n T from ⟨D, hown, hD⟩)
  have HWF := Lib.hid hwf
  have hin : ∀ x, x ∈ intKeys D ↔ (T x).isSome = true := fun x => by
    rw [hmem x, (hD (.int .i64 x) (by simp [WideAt.IsKeyLit])).1]
    show ((T x).map (Value.int .i64)).isSome = true ↔ _
    simp
  have HIN := Lib.hid hin
  have HND := Lib.hid hnd
  clear hD hmem hin hnd hwf
  go_enter Try.func39, Try.ntmps39
  go_wp2_with fail
  refine (Try.ekeys (some b) w).mono ?_
  rintro e w1 ⟨rfl, rfl⟩
  go_wp2_with fail
  refine (Try.esorted b n D heldV w hown (by unfold maxLen; omega) (by omega)).mono ?_
  rintro e w2 ⟨v, ss, rfl, hp, hrow, hnil, hb⟩
  obtain ⟨ks, hks⟩ : ∃ l, ss.mergeSort (fun x y => decide (x ≤ y)) = l := ⟨_, rfl⟩
  rw [hks] at hrow
  have hpk : ks.Perm (intKeys D) := by rw [← hks]; exact (List.mergeSort_perm _ _).trans hp
  have hsk : ks.Pairwise (fun a b => a ≤ b) := by
    rw [← hks]
    have := List.pairwise_mergeSort (le := fun (a b : Int) => decide (a ≤ b)) (fun a b c h1 h2 => by simp at *; omega) (fun a b => by simp; omega) ss
    exact this.imp (fun h => by simpa using h)
  have hkl : ks.length = ss.length := by rw [← hks]; exact List.length_mergeSort _
  have hlen : (intKeys D).length = Maps.size D := by
    obtain ⟨es, rfl⟩ := hown.isMap
    rw [Maps.size_eq]; simp [intKeys]
  have hmn : ss.length ≤ n := by rw [hp.length_eq, hlen]; exact hsz
  obtain ⟨m, hm⟩ : ∃ m, ss.length = m := ⟨_, rfl⟩
  rw [hm] at hrow hkl hmn
  obtain ⟨Ak, ck, rfl⟩ := slice_of_own hrow
  have hkr := Sl.of_own hrow
  have HMM : Hid (∀ x, x ∈ ks ↔ (T x).isSome = true) := fun x => (hpk.mem_iff).trans (HIN.out x)
  have HNK : Hid ks.Nodup := hpk.nodup_iff.2 HND.out
  have HSK := Lib.hid hsk
  have HKL := Lib.hid hkl
  have HKR := Lib.hid (fun w' (hb : Below w2.heap.size w2 w') => hkr.up hb)
  have HB := Lib.hid hb
  have hs2 := hb.size
  clear hp hnil hks hpk hsk hkl hlen hrow hkr hb hown hsz HIN HND
  clear hm
  go_wp2_with fail
  go_loopw [3, 10] (fun ev iv wr => ∃ (i : Nat), iv = .int .i64 i ∧ i ≤ m ∧ wr.ownsRow w2.heap.size 75 2 ev i (flat2 ((ks.take i).map fun x => (x, (T x).getD 0))) ∧ Below w2.heap.size w2 wr) (fun ev iv _ => m - (intOf iv).toNat)
  case atStart => exact ⟨0, rfl, by omega, World.ownsRow_nil _ _ _ _, Below.refl _ _⟩
  case round =>
    obtain ⟨i, rfl, hi, hown, hB⟩ := hrel
    have hs := hB.size
    obtain ⟨Ae, ce, rfl⟩ := slice_of_own hown
    have HNW := Lib.hid hown
    clear hown
    by_cases him : i < m
    · obtain ⟨ad, rfl, hab, c0⟩ := (HKR.out _ hB).lst.atI HKL.out him
      have hik : i < ks.length := by rw [HKL.out]; exact him
      have htk : ks.take (i + 1) = ks.take i ++ [ks.getD i 0] := by
        rw [List.take_succ_eq_append_getElem hik, List.getD_eq_getElem?_getD, List.getElem?_eq_getElem hik]; rfl
      have hmx : ks.getD i 0 ∈ ks := by
        rw [List.getD_eq_getElem?_getD, List.getElem?_eq_getElem hik]; exact List.getElem_mem _
      obtain ⟨x, hx⟩ : ∃ x, ks.getD i 0 = x := ⟨_, rfl⟩
      rw [hx] at c0 htk hmx
      have hTx := (HMM.out x).1 hmx
      have HW := Lib.hid (HWF.out x hTx)
      obtain ⟨u, hu⟩ := Option.isSome_iff_exists.1 hTx
      have HU := Lib.hid hu
      have HTK := Lib.hid htk
      have hMr := HM.out.below (HB.out.trans (hB.mono hs2))
      have HMR := Lib.hid (show MapV wr 3 b n (tabS T) from hMr)
      clear hik htk hmx hx hTx hu hMr
      go_wp2_with (first
        | (at_lookup; refine wpList_look_map rfl _ _ _ rfl 3 3 b n (tabS T) rfl HMR.out (Maps.int_keyed Try.underlying3) Try.underlying78 (zeroI5 _) (.int .i64 x) (.int .i64 x) rfl (keyI x HW.out) (isKeyI x) (.int .i64 u) (by show ((T x).map (Value.int .i64)).getD _ = _; rw [HU.out]; rfl) ?_)
        | (at_builtin; refine wpList_append_own _ rfl _ _ 42 rfl w2.heap.size 75 i0 _ 2 16 Try.underlying42 hi0 hz0 hz1 hz2 rfl (by decide) _ _ _ rfl (HNW.out.alloc _) ⟨wr.heap.size, 0, none⟩ 1 1 [.int .i64 x, .int .i64 u] rfl rfl (by exact lit_cells wr #[.int .i64 x, .int .i64 u] _ _ rfl) (by simp [Value.oneCell']) (by unfold maxLen; omega) (by omega) (by simp; omega) ?_; intro v' w3 hown' hgrow3 hnil3; clear hnil3))
      have hbN : Below w2.heap.size w2 w3 := (hB.alloc hs _).grown hgrow3 (by simp; omega) (fun g hg => (HNW.out.lt g hg).1)
      have HON : Hid (w3.ownsRow w2.heap.size 75 2 v' (i + 1) (flat2 ((ks.take (i + 1)).map fun x => (x, (T x).getD 0)))) := by
        show w3.ownsRow w2.heap.size 75 2 v' (i + 1) _
        rw [HTK.out, List.map_append, flat2_append]
        show w3.ownsRow w2.heap.size 75 2 v' (i + 1) (_ ++ [.int .i64 x, .int .i64 ((T x).getD 0)])
        rw [HU.out]
        exact hown'
      clear hgrow3 hown'
      go_roundw
      case rel => exact ⟨i + 1, by go_num, by omega, HON.out, hbN⟩
      case measure => simp [intOf]; omega
    · obtain rfl : i = m := by omega
      have htk : ks.take i = ks := List.take_of_length_le (by rw [HKL.out]; exact Nat.le_refl _)
      have HTK := Lib.hid htk
      clear htk
      have hat : atR (ks.map fun x => (x, (T x).getD 0)) = T := by
        funext x
        rw [sorted_at]
        by_cases h : x ∈ ks
        · rw [if_pos h]
          obtain ⟨u, hu⟩ := Option.isSome_iff_exists.1 ((HMM.out x).1 h)
          rw [hu]; rfl
        · rw [if_neg h]
          cases hu : T x with
          | none => rfl
          | some u => exact absurd ((HMM.out x).2 (by rw [hu]; rfl)) h
      have HAT := Lib.hid hat
      clear hat
      go_wp2_with fail
      go_ret
      refine ⟨_, ks.map fun x => (x, (T x).getD 0), rfl, sorted_srt HNK.out HSK.out, HAT.out, by rw [List.length_map, HKL.out]; exact hmn, ?_, HB.out.trans (hB.mono hs2)⟩
      have h := HNW.out
      rw [HTK.out] at h
      rw [List.length_map, HKL.out]
      exact own_down h hs2
end Go.Proofs.Ytmbaklodgpcegaa
