/- The document's own contacts: Delete, Change, Expire. -/
import Derived.Test.YtojjnbpgdegjiaaRef06c
namespace Go.Proofs.Ytojjnbpgdegjiaa
open Go.ChangeShapes Go.WideShapes Go.ChangeAt Go.RowKit Go.Sort
set_option linter.unusedSimpArgs false
set_option linter.unusedVariables false
def keepC (d : List Co) (id : Int) : List Co := d.filter (fun x => !(x.id == id))
theorem keepC_next {d : List Co} {i : Nat} (id : Int) (h : i < d.length) : keepC (d.take (i + 1)) id = keepC (d.take i) id ++ (if (gCo d i).id = id then [] else [gCo d i]) := by
  unfold keepC
  rw [take_nextCo h, List.filter_append]
  congr 1
  by_cases e : (gCo d i).id = id <;> simp [List.filter_cons, e]
theorem flatCo_one_ (y : Co) : flatCo [y] = [.int .i64 y.id, .int .i64 y.fr, .int .i64 y.tn, .int .i64 y.st, .int .i64 y.en, .int .i64 y.rt] := rfl
set_option maxHeartbeats 4000000 in
set_option maxRecDepth 100000 in
theorem rdel6_any (A : Option Addr) (n c : Nat) (d : List Co) (id : Int) (w : World) (hd : d.length = n) (hn : n ≤ 1000000) (h : Sl w w.heap.size 6 A n c (flatCo d)) :
    Calls Try.prog 18 #[.slice A n c, .int .i64 id] w fun e w' => ∃ v, e = .returned (.tuple #[v, .int .i64 (delCode (keepC d id).length n)]) ∧ w'.ownsRow w.heap.size 28 6 v (keepC d id).length (flatCo (keepC d id)) ∧ Below w.heap.size w w' := by
  obtain ⟨i0, hi0, hz0, hz1, hz2⟩ := info_parts infoCo
  have HD := Lib.hid hd
  have HL := Lib.hid h
  clear hd h
  go_enter Try.func18, Try.ntmps18
  go_wp2
  go_loopw [6, 7] (fun ov iv wr => ∃ (o : List Co) (k i : Nat), iv = .int .i64 i ∧ i ≤ n ∧ k ≤ i ∧ Hid (o.length = k) ∧ wr.ownsRow w.heap.size 28 6 ov k (flatCo o) ∧ Below w.heap.size w wr ∧ Hid (keepC (d.take i) id = o)) (fun _ iv _ => n - (intOf iv).toNat)
  case atStart => exact ⟨[], 0, 0, rfl, by omega, by omega, rfl, World.ownsRow_nil _ _ _ _, Below.refl _ _, rfl⟩
  case round =>
    obtain ⟨o, k, i, rfl, hi, hk, HO, hown, hB, HF⟩ := hrel
    have hs := hB.size
    by_cases hin : i < n
    · obtain ⟨ad, rfl, hab, c0, c1, c2, c3, c4, c5⟩ := (HL.out.below hB).lst.atCo HD.out hin
      have hnx := keepC_next id (d := d) (i := i) (by rw [HD.out]; exact hin)
      obtain ⟨r, hr⟩ : ∃ r, gCo d i = r := ⟨_, rfl⟩
      rw [HF.out, hr] at hnx
      rw [hr] at c0 c1 c2 c3 c4 c5
      clear hr HF
      by_cases he : r.id = id
      · have g1 : (r.id != id) = false := by simp [he]
        rw [if_pos he, List.append_nil] at hnx
        have HNX := Lib.hid hnx
        clear hnx he
        go_wp2_with fail
        go_roundw
        case rel => exact ⟨o, k, i + 1, by go_num, by omega, by omega, HO, hown, hB, HNX⟩
        case measure => simp [intOf]; omega
      · have g1 : (r.id != id) = true := by simp [he]
        rw [if_neg he] at hnx
        have HNX := Lib.hid hnx
        clear hnx he
        go_wp2_with (first | (at_builtin; refine wpList_append_own _ rfl _ _ 22 rfl w.heap.size 28 i0 _ 6 48 Try.underlying22 hi0 hz0 hz1 hz2 rfl (by decide) _ _ _ rfl (hown.alloc _) ⟨wr.heap.size, 0, none⟩ 1 1 [.int .i64 r.id, .int .i64 r.fr, .int .i64 r.tn, .int .i64 r.st, .int .i64 r.en, .int .i64 r.rt] rfl rfl (by exact lit_cells wr #[.int .i64 r.id, .int .i64 r.fr, .int .i64 r.tn, .int .i64 r.st, .int .i64 r.en, .int .i64 r.rt] _ _ rfl) (by simp [Value.oneCell']) (by unfold maxLen; omega) (by omega) (by simp; omega) ?_; intro v' w3 hown' hgrow3 hnil3))
        have hbN := (hB.alloc hs _).grown hgrow3 (by simp; omega) (fun q hq => (hown.lt q hq).1)
        clear hgrow3 hnil3
        go_wp2_with fail
        go_roundw
        case rel => exact ⟨o ++ [r], k + 1, i + 1, by go_num, by omega, by omega, by simp [Hid, HO.out], (by rw [flatCo_append, flatCo_one_]; exact hown'), hbN, HNX⟩
        case measure => simp [intOf]; omega
    · have hie : i = n := by omega
      have hf := HF.out
      rw [List.take_of_length_le (by rw [HD.out]; omega)] at hf
      have HF2 := Lib.hid hf
      clear hf HF
      obtain ⟨Ao, co, rfl⟩ := slice_of_own hown
      by_cases hkn : k = n
      · have g1 : ((k : Int) == (n : Int)) = true := by simp [hkn]
        have HKN := Lib.hid hkn
        clear hkn
        go_wp2_with fail
        go_ret2
        refine ⟨_, ?_, by rw [HF2.out, HO.out]; exact hown, hB⟩
        rw [HF2.out, HO.out, delCode, if_pos HKN.out]; rfl
      · have g1 : ((k : Int) == (n : Int)) = false := beq_eq_false_iff_ne.2 (by omega)
        go_wp2_with fail
        go_ret2
        refine ⟨_, ?_, by rw [HF2.out, HO.out]; exact hown, hB⟩
        rw [HF2.out, HO.out, delCode, if_neg hkn]; rfl
/-- What Change leaves, and its code. -/
def chgL (d : List Co) (id rt : Int) : List Co := if inB rt 1 2147483647 = true ∧ idIn d id = true then d.set (d.findIdx (fun x => x.id == id)) (withRt (gCo d (d.findIdx (fun x => x.id == id))) rt) else d
def chgQ (d : List Co) (id rt : Int) : Int := if inB rt 1 2147483647 = false then 1 else if idIn d id = true then 0 else 6
theorem find_idx {d : List Co} {id : Int} {q : Nat} (hq : q < d.length) (hb : ∀ j, j < q → ((gCo d j).id == id) = false) (hh : ((gCo d q).id == id) = true) : d.findIdx (fun x => x.id == id) = q := by
  rw [List.findIdx_eq hq]
  refine ⟨by rw [← gCo_eq hq]; exact hh, fun j hj => ?_⟩
  have := hb j hj
  rw [gCo_eq (by omega : j < d.length)] at this
  exact this
theorem idIn_of {d : List Co} {id : Int} {q : Nat} (hq : q < d.length) (hh : ((gCo d q).id == id) = true) : idIn d id = true := by
  unfold idIn
  exact List.any_eq_true.2 ⟨_, gCo_mem hq, hh⟩
theorem idIn_no {d : List Co} {id : Int} (h : ∀ j, j < d.length → ((gCo d j).id == id) = false) : idIn d id = false := by
  unfold idIn
  rw [List.any_eq_false]
  intro x hx
  obtain ⟨j, hj, rfl⟩ := mem_gCo hx
  simp [h j hj]
theorem chg_arg {d : List Co} {id rt : Int} (h : inB rt 1 2147483647 = false) : chgL d id rt = d ∧ chgQ d id rt = 1 := by
  unfold chgL chgQ; simp [h]
theorem chg_none {d : List Co} {id rt : Int} (h : inB rt 1 2147483647 = true) (h2 : idIn d id = false) : chgL d id rt = d ∧ chgQ d id rt = 6 := by
  unfold chgL chgQ; simp [h, h2]
theorem chg_hit {d : List Co} {id rt : Int} {q : Nat} (h : inB rt 1 2147483647 = true) (hq : q < d.length) (hb : ∀ j, j < q → ((gCo d j).id == id) = false) (hh : ((gCo d q).id == id) = true) : chgL d id rt = d.set q (withRt (gCo d q) rt) ∧ chgQ d id rt = 0 := by
  unfold chgL chgQ; rw [find_idx hq hb hh]; simp [h, idIn_of hq hh]
set_option maxHeartbeats 4000000 in
set_option maxRecDepth 100000 in
theorem rchange6_any (A : Option Addr) (n c : Nat) (d : List Co) (id rt : Int) (w : World) (hd : d.length = n) (hn : n ≤ 1000000) (h : Sl w w.heap.size 6 A n c (flatCo d)) (l : List Co) (hl : chgL d id rt = l) (q : Int) (hq : chgQ d id rt = q) :
    Calls Try.prog 20 #[.slice A n c, .int .i64 id, .int .i64 rt] w fun e w' => ∃ v, e = .returned (.tuple #[v, .int .i64 q]) ∧ w'.ownsRow w.heap.size 28 6 v n (flatCo l) ∧ Below w.heap.size w w' := by
  have HD := Lib.hid hd
  have HLL := Lib.hid hl
  have HQQ := Lib.hid hq
  clear hd hl hq
  go_enter Try.func20, Try.ntmps20
  go_wp2_with fail
  refine (rcopy6_any A n c d w HD.out hn h).mono ?_
  rintro e w3 ⟨v, rfl, hown, hB⟩
  clear h
  by_cases h1 : rt < 1
  · obtain ⟨e1, e2⟩ := chg_arg (d := d) (id := id) (rt := rt) (by unfold inB; simp; omega)
    have HL2 := Lib.hid (HLL.out.symm.trans e1)
    have HQ2 := Lib.hid (HQQ.out.symm.trans e2)
    clear e1 e2
    obtain ⟨Av, cv, rfl⟩ := slice_of_own hown
    go_wp2_with fail
    go_ret2
    exact ⟨_, by rw [HQ2.out]; rfl, by rw [HL2.out]; exact hown, hB⟩
  · by_cases h2 : 2147483647 < rt
    · obtain ⟨e1, e2⟩ := chg_arg (d := d) (id := id) (rt := rt) (by unfold inB; simp; omega)
      have HL2 := Lib.hid (HLL.out.symm.trans e1)
      have HQ2 := Lib.hid (HQQ.out.symm.trans e2)
      clear e1 e2
      obtain ⟨Av, cv, rfl⟩ := slice_of_own hown
      go_wp2_with fail
      go_ret2
      exact ⟨_, by rw [HQ2.out]; rfl, by rw [HL2.out]; exact hown, hB⟩
    · have HIN : Hid (inB rt 1 2147483647 = true) := by
        show inB rt 1 2147483647 = true
        unfold inB; simp; omega
      obtain ⟨Av, cv, rfl⟩ := slice_of_own hown
      have HOW := Lib.hid hown
      clear hown
      go_wp2_with fail
      clear h1 h2
      go_loopw [9] (fun iv wr => ∃ i : Nat, iv = .int .i64 i ∧ i ≤ n ∧ Hid (∀ j, j < i → ((gCo d j).id == id) = false) ∧ w3 = wr) (fun iv _ => n - (intOf iv).toNat)
      case atStart => exact ⟨0, rfl, by omega, (fun j hj => by omega), rfl⟩
      case round =>
        obtain ⟨i, rfl, hi, HN, rfl⟩ := hrel
        by_cases hin : i < n
        · obtain ⟨g5, c5, hA, hnc5, hcm5, hgb5, hgl5⟩ := own_at HOW.out (by omega)
          unfold maxLen at hcm5
          injection hA with hA _ hcc
          subst hA hcc
          have hii : (0 : Int) ≤ (i : Int) := by omega
          have hinI : (i : Int) < (n : Int) := by omega
          obtain ⟨c0, c1, c2, c3, c4, c5'⟩ := ownCo_at HOW.out HD.out hin
          obtain ⟨x, hx⟩ : ∃ x, gCo d i = x := ⟨_, rfl⟩
          rw [hx] at c0 c1 c2 c3 c4 c5'
          have HX := Lib.hid hx
          clear hx
          by_cases he : x.id = id
          · have g1 : (x.id == id) = true := beq_iff_eq.2 he
            obtain ⟨e1, e2⟩ := chg_hit HIN.out (by rw [HD.out]; exact hin) HN.out (by rw [HX.out]; exact g1)
            rw [HX.out] at e1
            have HL2 := Lib.hid (HLL.out.symm.trans e1)
            have HQ2 := Lib.hid (HQQ.out.symm.trans e2)
            have hf4 := HOW.out.frozenAt (i * 6 + 5)
            obtain ⟨hst, hgr⟩ := HOW.out.stored (i * 6 + 5) (.int .i64 rt)
            rw [flatCo_rt d i rt (by have := HD.out; omega), HX.out] at hst
            clear e1 e2 he c1 c2 c3 c4
            go_wp2_with fail
            go_ret2
            refine ⟨_, by rw [HQ2.out]; rfl, by rw [HL2.out]; exact hst, Below.grown hB hgr hB.size (fun k hk => by simp at hk; omega)⟩
          · have g1 : (x.id == id) = false := beq_eq_false_iff_ne.2 he
            have HN2 : Hid (∀ j, j < i + 1 → ((gCo d j).id == id) = false) := fun j hj => by
              by_cases e : j = i
              · subst e; rw [HX.out]; exact g1
              · exact HN.out j (by omega)
            clear he c1 c2 c3 c4 c5'
            go_wp2_with fail
            go_roundw
            case rel => exact ⟨i + 1, by go_num, by omega, HN2, by first | rfl | trivial⟩
            case measure => simp [intOf]; omega
        · obtain rfl : i = n := by omega
          obtain ⟨e1, e2⟩ := chg_none HIN.out (idIn_no (fun j hj => HN.out j (by rw [HD.out] at hj; exact hj)))
          have HL2 := Lib.hid (HLL.out.symm.trans e1)
          have HQ2 := Lib.hid (HQQ.out.symm.trans e2)
          clear e1 e2
          go_wp2_with fail
          go_ret2
          exact ⟨_, by rw [HQ2.out]; rfl, by rw [HL2.out]; exact HOW.out, hB⟩
end Go.Proofs.Ytojjnbpgdegjiaa
