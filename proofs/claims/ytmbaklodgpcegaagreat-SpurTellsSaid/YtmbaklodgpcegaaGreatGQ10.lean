/- Several texts of mine in one: Ref15b, Ref15c, Joint, Ref15d, Early3, Early4, Early2. No condition. -/
import Derived.Test.YtmbaklodgpcegaaGreatGQ4
import Derived.Test.YtmbaklodgpcegaaGreatGQ5
import Derived.Test.YtmbaklodgpcegaaGreatTyEd
import Derived.Test.YtmbaklodgpcegaaGreatGQ2
import Derived.Test.YtmbaklodgpcegaaGreatRef12b
import Derived.Test.YtmbaklodgpcegaaGreatShelfIter
import Derived.Test.YtmbaklodgpcegaaGreatGQ6
import Derived.Test.YtmbaklodgpcegaaGreatGQ7

/- The document's own earliest times: with. It makes new memory alone. -/
namespace Go.Proofs.YtmbaklodgpcegaaGreat
open Go.ChangeShapes Go.WideShapes Go.ChangeAt Go.RowKit Go.Sort Hp
set_option linter.unusedSimpArgs false
set_option linter.unusedVariables false
theorem drop_cons2 {d : List (Int × Int)} {i : Nat} (h : i < d.length) : d.drop i = gt d i :: d.drop (i + 1) := by
  rw [List.drop_eq_getElem_cons h]
  unfold gt
  rw [List.getD_eq_getElem?_getD, List.getElem?_eq_getElem h]; rfl
theorem withR_len {n a : Int} : ∀ (r : List (Int × Int)) (laid : Bool), (withR n a r laid).length ≤ r.length + 1
  | [], laid => by cases laid <;> simp [withR]
  | x :: r, laid => by
    have h1 := withR_len (n := n) (a := a) r true
    have h2 := withR_len (n := n) (a := a) r false
    have h3 : ∀ r : List (Int × Int), (withR n a r true).length ≤ r.length := by
      intro r
      induction r with
      | nil => simp [withR]
      | cons y s ih =>
        rw [withR, if_neg (by simp), List.nil_append, Bool.true_or, List.length_append]
        by_cases e : y.1 = n <;> simp [e] <;> omega
    have h4 := h3 r
    rw [withR, List.length_append, List.length_append]
    by_cases hc : n ≤ x.1 <;> by_cases e : x.1 = n <;> cases laid <;> simp [hc, e] <;> omega
end Go.Proofs.YtmbaklodgpcegaaGreat

/- The document's own earliest times: step, Times. They make new memory alone. -/
namespace Go.Proofs.YtmbaklodgpcegaaGreat
open Go.ChangeShapes Go.WideShapes Go.ChangeAt Go.RowKit Go.Sort Hp
set_option linter.unusedSimpArgs false
set_option linter.unusedVariables false
theorem rnd_next {size : Int} {no : Int → Bool} {l : List Ed} {T : Int → Option Int} {i : Nat} (h : i < l.length) : rndE size no (l.take (i + 1)) T = relE size no (rndE size no (l.take i) T) (gEd l i) := by
  unfold rndE
  rw [List.take_succ_eq_append_getElem h, List.foldl_append]
  show relE size no _ l[i] = _
  rw [gEd_eq h]
end Go.Proofs.YtmbaklodgpcegaaGreat

/- joint.From: for each node the places of the edges from there, each a row of its own. It makes new memory alone. -/
namespace Go.Proofs.YtmbaklodgpcegaaGreat
open Go.ChangeShapes Go.WideShapes Go.ChangeAt Go.RowKit Go.Sort Hp
set_option linter.unusedSimpArgs false
set_option linter.unusedVariables false
theorem infoIJ : (Tryz.prog.info? 3).map (fun i => (i.zero, i.size, i.bytes)) = some (some (.int .i64 0), 1, 8) := by kernel_rfl
/-- Of the first k edges the places of those from n. -/
def rowI (l : List Ed) (k n : Nat) : List Int := ((List.range k).filter (fun (i : Nat) => (gEd l i).fr == (n : Int))).map (fun (i : Nat) => (i : Int))
theorem rowI_next (l : List Ed) (k n : Nat) : rowI l (k + 1) n = if (gEd l k).fr = (n : Int) then rowI l k n ++ [(k : Int)] else rowI l k n := by
  unfold rowI
  rw [List.range_succ, List.filter_append, List.map_append]
  by_cases h : (gEd l k).fr = (n : Int)
  · rw [if_pos h]; simp [h]
  · rw [if_neg h]; simp [h]
theorem rowI_zero (l : List Ed) (n : Nat) : rowI l 0 n = [] := rfl
theorem rowI_len (l : List Ed) (k n : Nat) : (rowI l k n).length ≤ k := by
  unfold rowI
  rw [List.length_map]
  have := List.length_filter_le (fun i => (gEd l i).fr == (n : Int)) (List.range k)
  simpa using this
def cellP (cs : List Value) (n : Nat) : Value := cs.getD n (.bool false)
/-- 256 cells, each a row of the call's own, no two of them in one block. -/
structure Plc (w : World) (base : Nat) (l : List Ed) (k : Nat) (cs : List Value) : Prop where
  len : cs.length = 256
  row : ∀ n, n < 256 → w.ownsRow base 3 1 (cellP cs n) (rowI l k n).length ((rowI l k n).map (Value.int .i64))
  sep : ∀ n m, n < 256 → m < 256 → n ≠ m → (cellP cs n).ownBlock = none ∨ (cellP cs n).ownBlock ≠ (cellP cs m).ownBlock
theorem cellP_at {cs : List Value} {n : Nat} (h : n < cs.length) : cs[n]? = some (cellP cs n) := by
  unfold cellP
  rw [List.getD_eq_getElem?_getD, List.getElem?_eq_getElem h]; rfl
theorem cellP_set {cs : List Value} {f n : Nat} (v : Value) (h : f < cs.length) : cellP (cs.set f v) n = if n = f then v else cellP cs n := by
  unfold cellP
  rw [List.getD_eq_getElem?_getD, List.getD_eq_getElem?_getD, List.getElem?_set]
  by_cases e : n = f
  · subst e; simp [h]
  · rw [if_neg (fun e2 => e e2.symm), if_neg e]
theorem own_low' {w w' : World} {base g : Nat} {e : TypeId} {size n : Nat} {v : Value} {xs : List Value} (h : w.ownsRow base e size v n xs) (hg : w.grownBy w' (some g)) (hb : g < base) : w'.ownsRow base e size v n xs :=
  h.kept hg (by
    cases hq : v.ownBlock with
    | none => exact .inl rfl
    | some q =>
      refine .inr fun e => ?_
      injection e with e
      have := (h.lt q hq).1
      omega)
theorem own_belowJ {w w' : World} {base : Nat} {e : TypeId} {size n : Nat} {v : Value} {xs : List Value} (h : w.ownsRow base e size v n xs) (hb : Below w.heap.size w w') : w'.ownsRow base e size v n xs :=
  h.kept (grown_of_below (row := some w.heap.size) hb) (.inr (fun e => by have := (h.lt _ e).2; omega))
theorem Plc.zero (w : World) (base : Nat) (l : List Ed) : Plc w base l 0 (List.replicate 256 (.slice none 0 0)) := by
  have hc : ∀ n, n < 256 → cellP (List.replicate 256 (Value.slice none 0 0)) n = .slice none 0 0 := fun n hn => by
    unfold cellP
    rw [List.getD_eq_getElem?_getD, List.getElem?_replicate, if_pos hn]; rfl
  refine ⟨List.length_replicate, fun n hn => ?_, fun n m hn hm _ => ?_⟩
  · rw [hc n hn, rowI_zero]
    exact World.ownsRow_nil _ _ _ _
  · rw [hc n hn]; exact .inl rfl
theorem Plc.below {w w' : World} {base : Nat} {l : List Ed} {k : Nat} {cs : List Value} (h : Plc w base l k cs) (hb : Below w.heap.size w w') : Plc w' base l k cs := ⟨h.len, fun n hn => own_belowJ (h.row n hn) hb, h.sep⟩
theorem Plc.put {w W w' : World} {base g : Nat} {l : List Ed} {k f : Nat} {v1 : Value} {cs : List Value} (h : Plc w base l k cs) (hf : f < 256) (hfr : (gEd l k).fr = (f : Int)) (hg : g < base) (hw : Below w.heap.size w W) (hgr : W.grownBy w' (cellP cs f).ownBlock)
    (hown : w'.ownsRow base 3 1 v1 ((rowI l k f).length + 1) ((rowI l k f).map (Value.int .i64) ++ [.int .i64 k])) (hbl : v1.ownBlock = (cellP cs f).ownBlock ∨ ∃ b, w.heap.size ≤ b ∧ v1.ownBlock = some b) :
    Plc (w'.setCell ⟨g, f, none⟩ v1) base l (k + 1) (cs.set f v1) := by
  have hset : ∀ {v : Value} {n : Nat} {xs : List Value}, w'.ownsRow base 3 1 v n xs → (w'.setCell ⟨g, f, none⟩ v1).ownsRow base 3 1 v n xs := fun hv => own_low' hv (grown_set (g := g) w' f v1) hg
  have hl := h.len
  refine ⟨by rw [List.length_set]; exact h.len, fun n hn => ?_, fun n m hn hm hne => ?_⟩
  · rw [cellP_set v1 (by omega), rowI_next]
    by_cases e : n = f
    · subst e
      rw [if_pos rfl, if_pos hfr, List.length_append, List.map_append]
      exact hset hown
    · rw [if_neg e, if_neg (fun e2 => e (by omega))]
      refine hset ((own_belowJ (h.row n hn) hw).kept hgr ?_)
      rcases h.sep n f hn hf e with h1 | h1
      · exact .inl h1
      · exact .inr h1
  · rw [cellP_set v1 (by omega), cellP_set v1 (by omega)]
    have key : ∀ m, m < 256 → m ≠ f → (cellP cs m).ownBlock = none ∨ (cellP cs m).ownBlock ≠ v1.ownBlock := fun m hm hmf => by
      rcases hbl with h1 | ⟨b, h1, h2⟩
      · rw [h1]; exact h.sep m f hm hf hmf
      · cases ho : (cellP cs m).ownBlock with
        | none => exact .inl rfl
        | some q =>
          refine .inr fun e => ?_
          rw [h2] at e
          injection e with e
          have := ((h.row m hm).lt q ho).2
          omega
    by_cases e : n = f
    · subst e
      rw [if_pos rfl, if_neg (fun e => hne e.symm)]
      rcases key m hm (fun e => hne e.symm) with h1 | h1
      · by_cases h3 : v1.ownBlock = none
        · exact .inl h3
        · exact .inr fun e => h3 (by rw [e]; exact h1)
      · exact .inr fun e => h1 e.symm
    · rw [if_neg e]
      by_cases e2 : m = f
      · subst e2
        rw [if_pos rfl]
        exact key n hn e
      · rw [if_neg e2]; exact h.sep n m hn hm hne
end Go.Proofs.YtmbaklodgpcegaaGreat

/- The document's own earliest times: Times, Reaches. They make new memory alone. -/
namespace Go.Proofs.YtmbaklodgpcegaaGreat
open Go.ChangeShapes Go.WideShapes Go.ChangeAt Go.RowKit Go.Sort Hp
set_option linter.unusedSimpArgs false
set_option linter.unusedVariables false
theorem infoI15 : (Tryz.prog.info? 3).map (fun i => (i.zero, i.size, i.bytes)) = some (some (.int .i64 0), 1, 8) := by kernel_rfl
theorem ints_one15 (l : List Int) : ∀ u ∈ l.map (Value.int .i64), u.oneCell' = true := by
  intro u hu
  obtain ⟨x, _, rfl⟩ := List.mem_map.1 hu
  rfl
/-- Nodes to which no edge is taken. -/
def shutE (sh : List Int) (q : Int) : Int → Bool := fun y => (sh ++ [q]).contains y
theorem rnds_next {size : Int} {no : Int → Bool} {l : List Ed} {k : Nat} {T : Int → Option Int} : rndsE size no l (k + 1) T = rndE size no l (rndsE size no l k T) := rfl
theorem atR_one (q now : Int) : atR [(q, now)] = oneT q now := by
  funext n
  rw [atR_cons, atR_nil]
  unfold oneT
  by_cases e : q = n
  · rw [if_pos e, if_pos e.symm]
  · rw [if_neg e, if_neg (fun h => e h.symm)]
/-- The times: none, if it is not right to ask, else the earliest ones, by rising nodes. -/
structure IsTimes (l : List Ed) (q now size : Int) (sh : List Int) (r : List (Int × Int)) : Prop where
  srt : Srt r
  no : askE l q now size = false → r = []
  yes : askE l q now size = true → Early l size (shutE sh q) q now (atR r)
theorem IsTimes.one {l : List Ed} {q now size : Int} {sh : List Int} {r r' : List (Int × Int)} (h : IsTimes l q now size sh r) (h' : IsTimes l q now size sh r') : r = r' := by
  cases ha : askE l q now size with
  | false => rw [h.no ha, h'.no ha]
  | true => exact Srt.ext h.srt h'.srt fun n => congrFun ((h.yes ha).one (h'.yes ha)) n
end Go.Proofs.YtmbaklodgpcegaaGreat

/- slices.Sorted(maps.Keys(m)) at ints, by the library's contracts: the keys of a map that is not nil, rising, in a new row. -/
namespace Go.Proofs
open Go.RowKit Go.Maps Go.Sort Go.Shelf
set_option linter.unusedSimpArgs false
set_option linter.unusedVariables false
theorem Tryz.sortsA (m : Nat) : AnyZI.SortsIn Tryz.prog Tryz.sortedA_ren Fence.wide m :=
  ⟨fun blk off cap ss W hH hblk hsz => callsIn_wide.2 (AnyM.slices_Sort_int Tryz.sortA blk off cap ss W hH hblk hsz),
   fun p cap W => callsIn_wide.2 (AnyM.slices_Sort_int_none Tryz.sortA p cap W)⟩
theorem Tryz.ekeys (mb : Option Nat) (W : World) : Calls Tryz.prog 68 #[.map mb] W fun e w' => e = .returned (.func (.func 79) #[] #[.pointer (some ⟨W.heap.size, 0, none⟩)]) ∧ w' = W.alloc (.cells #[.map mb] 89) :=
  callsIn_wide.1 (AnyZI.keys_in Tryz.keysA Fence.wide 5 trivial rfl mb W)
set_option maxHeartbeats 1000000 in
theorem Tryz.esorted {H : Type} (b nn : Nat) (D0 : DataW H) (R : Value → Option (DataW H × List MemPlace)) (w : World) (hown : w.ownsMap Tryz.prog 3 R b nn D0) (hmax : Maps.size D0 ≤ maxLen) (hbytes : Maps.size D0 * 8 ≤ 140737488355328) :
    Calls Tryz.prog 67 #[.func (.func 79) #[] #[.pointer (some ⟨w.heap.size, 0, none⟩)]] (w.alloc (.cells #[.map (some b)] 89)) fun e w' => ∃ (v : Value) (ss : List Int), e = .returned v ∧ ss.Perm (intKeys D0) ∧
      w'.ownsRow w.heap.size 3 1 v ss.length ((ss.mergeSort (fun x y => decide (x ≤ y))).map encZ) ∧ (v = .slice none 0 0 ↔ ss = []) ∧ Below w.heap.size w w' := by
  have hbl := hown.lt
  have hseq : SeqGives Fence.wide 2 Tryz.prog 79 #[.pointer (some ⟨w.heap.size, 0, none⟩)] encZ (fun ss => ss.Perm (intKeys D0)) (Maps.size D0) (w.alloc (.cells #[.map (some b)] 89)) :=
    AnyZI.keys_gives (ρ := Tryz.keysA_ren) { Tryz.keysA with } Fence.wide _ trivial rfl (by omega) w.heap.size b nn D0 _ (by simp) (by simp) (by
      obtain ⟨es, clock, hb, Ft, hs, hD⟩ := hown
      exact ⟨es, clock, (Below.heap_alloc _ _ b hbl).trans hb, Ft, hs, hD⟩)
  have cS := AnyZI.sorted_in Tryz.sortedA Fence.wide 5 trivial trivial trivial trivial rfl (by omega) (Tryz.sortsA _) (enters_of Tryz.func78 (by kernel_rfl) rfl) 79 #[.pointer (some ⟨w.heap.size, 0, none⟩)] trivial (enters_of Tryz.func79 (by kernel_rfl) rfl) _ _ hmax hbytes _ hseq
  change CallsIn _ _ Tryz.prog 67 _ _ _ at cS
  refine (callsIn_wide.1 cS).mono ?_
  rintro e w' ⟨v, ss, rfl, hS, hrow, hnil, hb⟩
  exact ⟨v, ss, rfl, hS, ownsRow_base_a hrow (by simp), hnil, ((Below.refl _ w).alloc (Nat.le_refl _) _).trans (hb.mono (by simp))⟩
end Go.Proofs

/- The keys of a map of ints: each once, just those that it holds. Plain facts. -/
namespace Go.Proofs.YtmbaklodgpcegaaGreat
open Go.ChangeShapes Go.WideShapes Go.ChangeAt Go.RowKit Go.Sort Go.Maps
set_option linter.unusedSimpArgs false
set_option linter.unusedVariables false
theorem intKeys_facts {H : Type} {D : DataW H} {P : Program} {k : TypeId} {R : Value → Option (DataW H × List MemPlace)} {w : World} {b n : Nat} (hown : w.ownsMap P k R b n D) (K : Keyed P k) (hk : P.underlying k = some (.int .i64)) : (intKeys D).Nodup ∧ ∀ x, x ∈ intKeys D ↔ Maps.has D (.int .i64 x) = true := by
  obtain ⟨es, hD, hpw, _⟩ := hown.entries K
  obtain ⟨es', hD', hko⟩ := hown.keysOf
  obtain rfl : es = es' := by rw [hD] at hD'; simpa using hD'
  subst hD
  have hi : ∀ p ∈ es, ∃ x, p.1 = .int .i64 x := fun p hp => by
    obtain ⟨v, hv⟩ := hko p hp
    obtain ⟨x, _, hx, _⟩ := Maps.keyOf_i64 hk hv
    exact ⟨x, hx⟩
  refine ⟨?_, fun x => ?_⟩
  · unfold intKeys
    rw [List.nodup_iff_pairwise_ne, List.pairwise_map]
    refine hpw.imp_of_mem ?_
    intro p q hp hq hne e
    obtain ⟨a, ha⟩ := hi p hp
    obtain ⟨c, hc⟩ := hi q hq
    rw [ha, hc] at e hne
    exact hne (by simpa [Go.intOf] using e)
  · unfold intKeys
    rw [Maps.has_eq, List.any_eq_true, List.mem_map]
    refine exists_congr fun p => and_congr_right fun hp => ?_
    obtain ⟨a, ha⟩ := hi p hp
    rw [ha]
    simp [Go.intOf, Lit.sameKey]
end Go.Proofs.YtmbaklodgpcegaaGreat

/- The program's closed: the nodes to which no edge is taken, as a map. It makes new memory alone. -/
namespace Go.Proofs.YtmbaklodgpcegaaGreat
open Go.ChangeShapes Go.WideShapes Go.ChangeAt Go.RowKit Go.Sort Hp
set_option linter.unusedSimpArgs false
set_option linter.unusedVariables false
theorem run_makeMap0 {P : Program} (t k e : TypeId) (ht : P.underlying t = some (.map k e)) (w : World) : (Instr.makeMap t none).run P w = .ok (.map (some w.heap.size)) (w.alloc (.map #[] 0)) := by
  simp [Instr.makeMap, run_underlying ht]
/-- q, and the first k of sh. -/
def clsd (sh : List Int) (q : Int) (k : Nat) : Int → Bool := fun y => y == q || (sh.take k).contains y
theorem contains_snoc (l : List Int) (x y : Int) : (l ++ [x]).contains y = (l.contains y || y == x) := by
  rw [Bool.eq_iff_iff]
  simp only [Bool.or_eq_true, beq_iff_eq, List.contains_iff_mem, List.mem_append, List.mem_singleton]
theorem clsd_next {sh : List Int} {q : Int} {k : Nat} (h : k < sh.length) (y : Int) : clsd sh q (k + 1) y = if y = sh.getD k 0 then true else clsd sh q k y := by
  unfold clsd
  rw [List.take_succ_eq_append_getElem h, contains_snoc, List.getD_eq_getElem?_getD, List.getElem?_eq_getElem h]
  generalize sh[k] = x
  generalize (sh.take k).contains y = b
  show (y == q || (b || y == x)) = if y = x then true else (y == q || b)
  by_cases e : y = x
  · rw [if_pos e, beq_iff_eq.2 e]; simp
  · rw [if_neg e, beq_eq_false_iff_ne.2 e, Bool.or_false]
theorem clsd_all {sh : List Int} {q : Int} {k : Nat} (h : sh.length ≤ k) (y : Int) : clsd sh q k y = shutE sh q y := by
  unfold clsd shutE
  rw [List.take_of_length_le h, Bool.eq_iff_iff]
  simp only [Bool.or_eq_true, beq_iff_eq, List.contains_iff_mem, List.mem_append, List.mem_singleton]
  exact Or.comm
set_option maxHeartbeats 2000000 in
set_option maxRecDepth 100000 in
theorem eclosed_any (q : Int) (As : Option Addr) (ns cs : Nat) (sh : List Int) (w : World) (hq : (Lit.int .i64 q).wf = true) (hds : sh.length = ns) (hns : ns ≤ 100000) (hwf : ∀ k, k < ns → (Lit.int .i64 (sh.getD k 0)).wf = true) (hls : Sl w w.heap.size 1 As ns cs (sh.map (Value.int .i64))) :
    Calls Tryz.prog 49 #[.int .i64 q, .slice As ns cs] w fun e w' => ∃ b n, e = .returned (.map (some b)) ∧ w.heap.size ≤ b ∧ n ≤ ns + 1 ∧ SetW w' b n (shutE sh q) ∧ Below w.heap.size w w' := by
  have HDS := Lib.hid hds
  have HWF := Lib.hid hwf
  have hmk := run_makeMap0 (P := Tryz.prog) 70 3 4 Tryz.underlying70 w
  obtain ⟨g, hg⟩ : ∃ g, w.heap.size = g := ⟨_, rfl⟩
  have hS0 := SetW.made w
  rw [hg] at hS0
  rw [hg] at hmk
  have HG := Lib.hid hg
  have hB0 : Below w.heap.size w (w.alloc (.map #[] 0)) := (Below.refl _ _).alloc (Nat.le_refl _) _
  have hs0 := hB0.size
  obtain ⟨w2, hput, hS2, hg2⟩ := hS0.put (by unfold maxLen; omega) hq true
  have hgl : ∀ j, some g = some j → w.heap.size ≤ j := fun j hj => by have := HG.out; simp at hj; omega
  have hB2 : Below w.heap.size w w2 := hB0.grown hg2 hs0 hgl
  have HL := Lib.hid (fun w' (hb : Below w.heap.size w w') => hls.up hb)
  clear hg hls hds hwf hB0 hS0 hg2 hs0
  go_enter Tryz.func49, Tryz.ntmps49
  go_wp2
  clear hmk hput
  go_loopw [13] (fun iv wr => ∃ k : Nat, k ≤ ns ∧ iv = .int .i64 k ∧ Below w.heap.size w wr ∧ SetW wr g (k + 1) (clsd sh q k)) (fun iv _ => ns - (intOf iv).toNat)
  case atStart => exact ⟨0, by omega, rfl, hB2, hS2.congr (fun y _ => by unfold clsd; by_cases e : y = q <;> simp [e])⟩
  case round =>
    clear hB2 hS2
    obtain ⟨k, hk, rfl, hB, hS⟩ := hrel
    have hs := hB.size
    by_cases hkn : k < ns
    · obtain ⟨ad, rfl, hab, c0⟩ := (HL.out _ hB).lst.atI HDS.out hkn
      have hw := HWF.out k hkn
      have hnx := clsd_next (sh := sh) (q := q) (k := k) (by rw [HDS.out]; exact hkn)
      obtain ⟨id, hid⟩ : ∃ x, sh.getD k 0 = x := ⟨_, rfl⟩
      rw [hid] at c0 hw hnx
      have HW := Lib.hid hw
      have HNX := Lib.hid hnx
      clear hid hw hnx
      go_wp2_with (at_mapUpdate; refine wpList_put_set rfl _ _ _ rfl g (k + 1) _ id true rfl hS (by unfold maxLen; omega) rfl HW.out rfl ?_; intro w4 hS4 hg4)
      have hB4 : Below w.heap.size w w4 := hB.grown hg4 hs hgl
      have hS5 : SetW w4 g (k + 1 + 1) (clsd sh q (k + 1)) := hS4.congr (fun j _ => by rw [HNX.out j])
      clear hS4 hg4 hS
      go_wp2
      go_roundw
      case rel => exact ⟨k + 1, by omega, by go_num, hB4, hS5⟩
      case measure => simp [intOf]; omega
    · obtain rfl : k = ns := by omega
      have hS2 : SetW wr g (k + 1) (shutE sh q) := hS.congr (fun j _ => clsd_all (by rw [HDS.out]; exact Nat.le_refl _) j)
      have HS2 := Lib.hid hS2
      clear hS hS2
      go_wp2
      go_ret
      exact ⟨g, k + 1, rfl, by have := HG.out; omega, by omega, HS2.out, hB⟩
end Go.Proofs.YtmbaklodgpcegaaGreat
