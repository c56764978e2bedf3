/- The program's closed: the nodes to which no edge is taken, as a map. It makes new memory alone. -/
import Derived.Test.YtmibgfenobekjaaGQ7
import Derived.Test.YtmibgfenobekjaaMapIB
namespace Go.Proofs.Ytmibgfenobekjaa
open Go.ChangeShapes Go.WideShapes Go.ChangeAt Go.RowKit Go.Sort Hp
set_option linter.unusedSimpArgs false
set_option linter.unusedVariables false
theorem run_makeMap0 {P : Program} (t k e : TypeId) (ht : P.underlying t = some (.map k e)) (w : World) : (Instr.makeMap t none).run P w = .ok (.map (some w.heap.size)) (w.alloc (.map #[] 0)) := by
  simp [Instr.makeMap, run_underlying ht]
/-- q, and the first k of sh. -/
def clsd (sh : List Int) (q : Int) (k : Nat) : Int → Bool := fun y => y == q || (sh.take k).contains y
theorem contains_snoc (l : List Int) (x y : Int) : (l ++ [x]).contains y = (l.contains y || y == x) := by
  rw [Bool.eq_iff_iff]
  simp only [Bool.or_eq_true, beq_iff_eq, List.contains_iff_mem, List.mem_append, List.mem_singleton]
theorem clsd_next {sh : List Int} {q : Int} {k : Nat} (h : k < sh.length) (y : Int) : clsd sh q (k + 1) y = if y = sh.getD k 0 then true else clsd sh q k y := by
  unfold clsd
  rw [List.take_succ_eq_append_getElem h, contains_snoc, List.getD_eq_getElem?_getD, List.getElem?_eq_getElem h]
  generalize sh[k] = x
  generalize (sh.take k).contains y = b
  show (y == q || (b || y == x)) = if y = x then true else (y == q || b)
  by_cases e : y = x
  · rw [if_pos e, beq_iff_eq.2 e]; simp
  · rw [if_neg e, beq_eq_false_iff_ne.2 e, Bool.or_false]
theorem clsd_all {sh : List Int} {q : Int} {k : Nat} (h : sh.length ≤ k) (y : Int) : clsd sh q k y = shutE sh q y := by
  unfold clsd shutE
  rw [List.take_of_length_le h, Bool.eq_iff_iff]
  simp only [Bool.or_eq_true, beq_iff_eq, List.contains_iff_mem, List.mem_append, List.mem_singleton]
  exact Or.comm
set_option maxHeartbeats 2000000 in
set_option maxRecDepth 100000 in
theorem eclosed_any (q : Int) (As : Option Addr) (ns cs : Nat) (sh : List Int) (w : World) (hq : (Lit.int .i64 q).wf = true) (hds : sh.length = ns) (hns : ns ≤ 100000) (hwf : ∀ k, k < ns → (Lit.int .i64 (sh.getD k 0)).wf = true) (hls : Sl w w.heap.size 1 As ns cs (sh.map (Value.int .i64))) :
    Calls Try.prog 31 #[.int .i64 q, .slice As ns cs] w fun e w' => ∃ b n, e = .returned (.map (some b)) ∧ w.heap.size ≤ b ∧ n ≤ ns + 1 ∧ SetW w' b n (shutE sh q) ∧ Below w.heap.size w w' := by
  have HDS := Lib.hid hds
  have HWF := Lib.hid hwf
  have hmk := run_makeMap0 (P := Try.prog) 67 3 4 Try.underlying67 w
  obtain ⟨g, hg⟩ : ∃ g, w.heap.size = g := ⟨_, rfl⟩
  have hS0 := SetW.made w
  rw [hg] at hS0
  rw [hg] at hmk
  have HG := Lib.hid hg
  have hB0 : Below w.heap.size w (w.alloc (.map #[] 0)) := (Below.refl _ _).alloc (Nat.le_refl _) _
  have hs0 := hB0.size
  obtain ⟨w2, hput, hS2, hg2⟩ := hS0.put (by unfold maxLen; omega) hq true
  have hgl : ∀ j, some g = some j → w.heap.size ≤ j := fun j hj => by have := HG.out; simp at hj; omega
  have hB2 : Below w.heap.size w w2 := hB0.grown hg2 hs0 hgl
  have HL := Lib.hid (fun w' (hb : Below w.heap.size w w') => hls.up hb)
  clear hg hls hds hwf hB0 hS0 hg2 hs0
  go_enter Try.func31, Try.ntmps31
  go_wp2
  clear hmk hput
  go_loopw [13] (fun iv wr => ∃ k : Nat, k ≤ ns ∧ iv = .int .i64 k ∧ Below w.heap.size w wr ∧ SetW wr g (k + 1) (clsd sh q k)) (fun iv _ => ns - (intOf iv).toNat)
  case atStart => exact ⟨0, by omega, rfl, hB2, hS2.congr (fun y _ => by unfold clsd; by_cases e : y = q <;> simp [e])⟩
  case round =>
    clear hB2 hS2
    obtain ⟨k, hk, rfl, hB, hS⟩ := hrel
    have hs := hB.size
    by_cases hkn : k < ns
    · obtain ⟨ad, rfl, hab, c0⟩ := (HL.out _ hB).lst.atI HDS.out hkn
      have hw := HWF.out k hkn
      have hnx := clsd_next (sh := sh) (q := q) (k := k) (by rw [HDS.out]; exact hkn)
      obtain ⟨id, hid⟩ : ∃ x, sh.getD k 0 = x := ⟨_, rfl⟩
      rw [hid] at c0 hw hnx
      have HW := Lib.hid hw
      have HNX := Lib.hid hnx
      clear hid hw hnx
      go_wp2_with (at_mapUpdate; refine wpList_put_set rfl _ _ _ rfl g (k + 1) _ id true rfl hS (by unfold maxLen; omega) rfl HW.out rfl ?_; intro w4 hS4 hg4)
      have hB4 : Below w.heap.size w w4 := hB.grown hg4 hs hgl
      have hS5 : SetW w4 g (k + 1 + 1) (clsd sh q (k + 1)) := hS4.congr (fun j _ => by rw [HNX.out j])
      clear hS4 hg4 hS
      go_wp2
      go_roundw
      case rel => exact ⟨k + 1, by omega, by go_num, hB4, hS5⟩
      case measure => simp [intOf]; omega
    · obtain rfl : k = ns := by omega
      have hS2 : SetW wr g (k + 1) (shutE sh q) := hS.congr (fun j _ => clsd_all (by rw [HDS.out]; exact Nat.le_refl _) j)
      have HS2 := Lib.hid hS2
      clear hS hS2
      go_wp2
      go_ret
      exact ⟨g, k + 1, rfl, by have := HG.out; omega, by omega, HS2.out, hB⟩
end Go.Proofs.Ytmibgfenobekjaa
