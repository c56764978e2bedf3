/- Several texts of mine in one: DueAt, JointTM. No condition. -/
import Derived.Test.YtjkcjbcbnnpmfaaDue
import Derived.Test.YtjkcjbcbnnpmfaaGF
import Derived.Test.YtjkcjbcbnnpmfaaGJ

/- due.Table: At, open. They make new memory alone. -/
namespace Go.Proofs.Ytjkcjbcbnnpmfaa
open Go.ChangeShapes Go.WideShapes Go.ChangeAt Go.RowKit Go.Sort Go.Maps Hp
set_option linter.unusedSimpArgs false
set_option linter.unusedVariables false
theorem hlat_yes {x : Ed} {t size a : Int} (h : x.latest t size = some a) (w : World) :
    Calls Try.prog 16 #[.agg #[.int .i64 x.id, .int .i64 x.fr, .int .i64 x.tn, .int .i64 x.op, .int .i64 x.en, .int .i64 x.ra, .int .i64 x.ow, .int .i64 x.ro], .int .i64 t, .int .i64 size] w fun e w' => e = .returned (.tuple #[.int .i64 a, .bool true]) ∧ Below w.heap.size w w' := latest_yes h w
theorem hlat_no {x : Ed} {t size : Int} (h : x.latest t size = none) (w : World) :
    Calls Try.prog 16 #[.agg #[.int .i64 x.id, .int .i64 x.fr, .int .i64 x.tn, .int .i64 x.op, .int .i64 x.en, .int .i64 x.ra, .int .i64 x.ow, .int .i64 x.ro], .int .i64 t, .int .i64 size] w fun e w' => e = .returned (.tuple #[.int .i64 0, .bool false]) ∧ Below w.heap.size w w' := latest_no h w
theorem gt_take {r : List (Int × Int)} {k : Nat} (h : k < r.length) : r.take (k + 1) = r.take k ++ [gt r k] := take_next h
set_option maxHeartbeats 2000000 in
set_option maxRecDepth 100000 in
theorem dat_tb {w1 w : World} {tb pb ub : Nat} {A : Option Addr} {n c : Nat} {q size : Int} {h sb nm : Nat} {P : Int → List (Int × Int)} {cs : Int → Value} {vf : Value} {F : List Int} (t : TB w1 w tb pb ub A n c q size h sb nm P cs vf F) (x k : Int) (hx : (Lit.int .i64 x).wf = true) (hlen : (P x).length ≤ 1000000) (u : Int) (b : Bool) (hu : (atS (P x) k).getD 0 = u) (hb : (atS (P x) k).isSome = b) :
    Calls Try.prog 38 #[.pointer (some ⟨tb, 0, none⟩), .int .i64 x, .int .i64 k] w fun e w' => e = .returned (.tuple #[.int .i64 u, .bool b]) ∧ Below w.heap.size w w' := by
  have x6 : w.cell? ⟨tb, 6, none⟩ = some (.map (some sb)) := t.box.cell 6
  have lt_x := t.box.lt
  have hlk := t.sm.look hx
  have hrow := t.sm.row x
  obtain ⟨vr, hvr⟩ : ∃ v, cs x = v := ⟨_, rfl⟩
  obtain ⟨R, hR⟩ : ∃ r, P x = r := ⟨_, rfl⟩
  rw [hvr] at hlk hrow
  rw [hR] at hrow hlen hu hb
  obtain ⟨nr, hnr⟩ : ∃ z, R.length = z := ⟨_, rfl⟩
  rw [hnr] at hrow hlen
  obtain ⟨Ar, cr, rfl⟩ := slice_of_own hrow
  have hsl := Sl.of_own hrow
  have HS := Lib.hid (fun w' (hb : Below w.heap.size w w') => hsl.up hb)
  have HNR := Lib.hid hnr
  have HU := Lib.hid hu
  have HB := Lib.hid hb
  have hw1 : IntKind.i64.wrap ((nr : Int) - 1) = (nr : Int) - 1 := IntWalk.i64_in _ (by omega)
  clear hrow hvr hR hnr hsl hu hb t
  go_enter Try.func38, Try.ntmps38
  go_wp2
  clear hlk
  go_loopw [9] (fun iv wr => ∃ (i : Nat) (z : Int), iv = .int .i64 z ∧ Hid (z = (i : Int) - 1) ∧ i ≤ nr ∧ Hid (atS R k = atS (R.take i) k) ∧ Below w.heap.size w wr) (fun iv _ => ((intOf iv) + 1).toNat)
  case atStart => exact ⟨nr, (nr : Int) - 1, rfl, rfl, by omega, by show atS R k = _; rw [List.take_of_length_le (by rw [HNR.out]; omega)], Below.refl _ _⟩
  case round =>
    clear hw1
    obtain ⟨i, z, rfl, HZ, hi, HA, hB⟩ := hrel
    cases i with
    | zero =>
      obtain rfl : z = -1 := by have := HZ.out; omega
      have e1 : atS R k = none := by rw [HA.out]; rfl
      have f1 : u = 0 := by rw [← HU.out, e1]; rfl
      have f2 : b = false := by rw [← HB.out, e1]; rfl
      subst f1 f2
      clear e1
      go_wp2
      exact bodyPost_ret (v := .tuple #[.int .i64 0, .bool false]) (by simp [results, Try.results38, go_sem]) rfl ⟨rfl, hB⟩
    | succ p =>
      obtain rfl : z = (p : Int) := by have := HZ.out; omega
      have hp : p < nr := by omega
      obtain ⟨ad, rfl, hab, c0, c1⟩ := (HS.out _ hB).lst.fst2 HNR.out hp
      have htk := gt_take (r := R) (k := p) (by rw [HNR.out]; exact hp)
      obtain ⟨y, hy⟩ : ∃ y, gt R p = y := ⟨_, rfl⟩
      rw [hy] at c0 c1 htk
      have HTK := Lib.hid htk
      clear hy htk
      by_cases hk : y.1 ≤ k
      · have e1 : atS R k = some y.2 := by rw [HA.out, HTK.out, atS_snoc, if_pos hk]
        have f1 : y.2 = u := by rw [← HU.out, e1]; rfl
        have f2 : b = true := by rw [← HB.out, e1]; rfl
        subst f2
        rw [f1] at c1
        have g1 : decide (y.1 ≤ k) = true := decide_eq_true hk
        clear e1 f1 hk
        go_wp2
        exact bodyPost_ret (v := .tuple #[.int .i64 u, .bool true]) (by simp [results, Try.results38, go_sem]) rfl ⟨rfl, hB⟩
      · have HA2 : Hid (atS R k = atS (R.take p) k) := by
          show atS R k = _
          rw [HA.out, HTK.out, atS_snoc, if_neg hk]
        have g1 : decide (y.1 ≤ k) = false := decide_eq_false hk
        have hw1 : IntKind.i64.wrap ((p : Int) - 1) = (p : Int) - 1 := IntWalk.i64_in _ (by omega)
        clear hk
        go_wp2
        go_roundw
        case rel => exact ⟨p, (p : Int) - 1, rfl, rfl, by omega, HA2, hB⟩
        case measure => first | (simp [intOf]; done) | (simp [intOf]; omega)
/-- .. of a table of h hops, at as many hops at most. -/
theorem dat_any {w0 w : World} {tb : Nat} {A : Option Addr} {n c : Nat} {l : List Ed} {q by_ size : Int} {sh : List Int} {h : Nat} (t : TabH w0 w tb A n c l q by_ size sh h) (hh : h ≤ 10000) (x : Int) (k : Nat) (hk : k ≤ h) (hx : (Lit.int .i64 x).wf = true) (u : Int) (b : Bool) (hu : (lateL l size (opn sh q) q by_ k x).getD 0 = u) (hb : (lateL l size (opn sh q) q by_ k x).isSome = b) :
    Calls Try.prog 38 #[.pointer (some ⟨tb, 0, none⟩), .int .i64 x, .int .i64 (k : Int)] w fun e w' => e = .returned (.tuple #[.int .i64 u, .bool b]) ∧ Below w.heap.size w w' := by
  obtain ⟨w1, pb, ub, sb, nm, ct, P, cs, vf, F, hd, ht, hS, hC, hF, hF3, hF2, hP, hn⟩ := t
  have e := hS.2.1 x k hk
  exact dat_tb ht x k hx (by have := hP x; omega) u b (by rw [e]; exact hu) (by rw [e]; exact hb)
set_option maxHeartbeats 2000000 in
set_option maxRecDepth 100000 in
theorem dopen_any {w0 w : World} {tb : Nat} {A : Option Addr} {n c : Nat} {l : List Ed} {q by_ size : Int} {sh : List Int} {h : Nat} (t : TabH w0 w tb A n c l q by_ size sh h) (x : Int) (hx : (Lit.int .i64 x).wf = true) (b : Bool) (hb : opn sh q x = b) :
    Calls Try.prog 41 #[.pointer (some ⟨tb, 0, none⟩), .int .i64 x] w fun e w' => e = .returned (.bool b) ∧ Below w.heap.size w w' := by
  obtain ⟨w1, pb, ub, sb, nm, ct, P, cs, vf, F, hd, ht, _⟩ := t
  have x2 : w.cell? ⟨tb, 2, none⟩ = some (.int .i64 q) := ht.box.cell 2
  have x4 : w.cell? ⟨tb, 4, none⟩ = some (.map (some ub)) := ht.box.cell 4
  have lt_x := ht.box.lt
  obtain ⟨un, hS⟩ := hd.su w ht.bl
  have hlk := hS.look hx
  unfold opn at hb
  obtain ⟨sb2, hs2⟩ : ∃ z, sh.contains x = z := ⟨_, rfl⟩
  rw [hs2] at hlk hb
  clear hS hd ht hs2
  by_cases hq : x = q
  · subst hq
    have f : b = true := by rw [← hb]; simp
    subst f
    clear hb
    go_enter Try.func41, Try.ntmps41
    go_wp2
    go_ret
    exact ⟨rfl, Below.refl _ _⟩
  · have hbq : (x == q) = false := beq_eq_false_iff_ne.2 hq
    have f : b = !sb2 := by rw [← hb, hbq, Bool.false_or]
    subst f
    clear hb hq
    cases sb2
    all_goals
      go_enter Try.func41, Try.ntmps41
      go_wp2
      go_ret
      exact ⟨rfl, Below.refl _ _⟩
end Go.Proofs.Ytjkcjbcbnnpmfaa

/- The places of the edges to a node. Plain facts. -/
namespace Go.Proofs.Ytjkcjbcbnnpmfaa
open Go.ChangeShapes Go.WideShapes Go.ChangeAt Go.RowKit Go.Sort Hp
set_option linter.unusedSimpArgs false
set_option linter.unusedVariables false
theorem rowT_edges (l : List Ed) (n : Nat) : ∀ k, k ≤ l.length → (rowT l k n).map (fun i => gEd l i.toNat) = (l.take k).filter (fun e => e.tn == (n : Int))
  | 0, _ => by rw [rowT_zero]; rfl
  | k + 1, h => by
    have ih := rowT_edges l n k (by omega)
    rw [rowT_next, take_nextEd (by omega), List.filter_append, ← ih]
    by_cases e : (gEd l k).tn = (n : Int)
    · rw [if_pos e, List.map_append, List.filter_cons_of_pos (by simpa using e)]; simp
    · rw [if_neg e, List.filter_cons_of_neg (by simpa using e)]; simp
/-- The places of the edges to n, and these edges. -/
structure RowT (l : List Ed) (n : Int) (R : List Int) : Prop where
  at_ : ∀ j, j < R.length → ∃ i : Nat, R.getD j 0 = (i : Int) ∧ i < l.length ∧ (gEd l i).tn = n
  len : R.length = (l.filter (fun e => e.tn == n)).length
  all : ∀ e ∈ l, e.tn = n → e ∈ R.map (fun i => gEd l i.toNat)
theorem rowT_of (l : List Ed) (n : Nat) : RowT l (n : Int) (rowT l l.length n) := by
  have h := rowT_edges l n l.length (Nat.le_refl _)
  rw [List.take_length] at h
  refine ⟨fun j hj => ?_, ?_, fun e he hf => ?_⟩
  · have hm : (rowT l l.length n).getD j 0 ∈ rowT l l.length n := by
      rw [List.getD_eq_getElem?_getD, List.getElem?_eq_getElem hj]; exact List.getElem_mem _
    generalize (rowT l l.length n).getD j 0 = x at hm
    unfold rowT at hm
    obtain ⟨i, hi, rfl⟩ := List.mem_map.1 hm
    obtain ⟨h1, h2⟩ := List.mem_filter.1 hi
    exact ⟨i, rfl, by simpa using h1, by simpa using h2⟩
  · have := congrArg List.length h
    rwa [List.length_map] at this
  · rw [h]
    exact List.mem_filter.2 ⟨he, by simpa using hf⟩
end Go.Proofs.Ytjkcjbcbnnpmfaa
