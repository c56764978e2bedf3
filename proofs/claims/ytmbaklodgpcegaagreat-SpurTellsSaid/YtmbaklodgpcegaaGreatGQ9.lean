/- Several texts of mine in one: JointT, EarlyMath2, SprMath, EarlyMath3, JointTM. No condition. -/
import Derived.Test.YtmbaklodgpcegaaGreatGQ10
import Derived.Test.YtmbaklodgpcegaaGreatEarlyMath
import Derived.Test.YtmbaklodgpcegaaGreatGQ8

/- joint.To: for each node the places of the edges to there, each a row of its own. It makes new memory alone. -/
namespace Go.Proofs.YtmbaklodgpcegaaGreat
open Go.ChangeShapes Go.WideShapes Go.ChangeAt Go.RowKit Go.Sort Hp
set_option linter.unusedSimpArgs false
set_option linter.unusedVariables false
/-- Of the first k edges the places of those from n. -/
def rowT (l : List Ed) (k n : Nat) : List Int := ((List.range k).filter (fun (i : Nat) => (gEd l i).tn == (n : Int))).map (fun (i : Nat) => (i : Int))
theorem rowT_next (l : List Ed) (k n : Nat) : rowT l (k + 1) n = if (gEd l k).tn = (n : Int) then rowT l k n ++ [(k : Int)] else rowT l k n := by
  unfold rowT
  rw [List.range_succ, List.filter_append, List.map_append]
  by_cases h : (gEd l k).tn = (n : Int)
  · rw [if_pos h]; simp [h]
  · rw [if_neg h]; simp [h]
theorem rowT_zero (l : List Ed) (n : Nat) : rowT l 0 n = [] := rfl
theorem rowT_len (l : List Ed) (k n : Nat) : (rowT l k n).length ≤ k := by
  unfold rowT
  rw [List.length_map]
  have := List.length_filter_le (fun i => (gEd l i).tn == (n : Int)) (List.range k)
  simpa using this
/-- 256 cells, each a row of the call's own, no two of them in one block. -/
structure PlcT (w : World) (base : Nat) (l : List Ed) (k : Nat) (cs : List Value) : Prop where
  len : cs.length = 256
  row : ∀ n, n < 256 → w.ownsRow base 3 1 (cellP cs n) (rowT l k n).length ((rowT l k n).map (Value.int .i64))
  sep : ∀ n m, n < 256 → m < 256 → n ≠ m → (cellP cs n).ownBlock = none ∨ (cellP cs n).ownBlock ≠ (cellP cs m).ownBlock
theorem PlcT.zero (w : World) (base : Nat) (l : List Ed) : PlcT w base l 0 (List.replicate 256 (.slice none 0 0)) := by
  have hc : ∀ n, n < 256 → cellP (List.replicate 256 (Value.slice none 0 0)) n = .slice none 0 0 := fun n hn => by
    unfold cellP
    rw [List.getD_eq_getElem?_getD, List.getElem?_replicate, if_pos hn]; rfl
  refine ⟨List.length_replicate, fun n hn => ?_, fun n m hn hm _ => ?_⟩
  · rw [hc n hn, rowT_zero]
    exact World.ownsRow_nil _ _ _ _
  · rw [hc n hn]; exact .inl rfl
theorem PlcT.below {w w' : World} {base : Nat} {l : List Ed} {k : Nat} {cs : List Value} (h : PlcT w base l k cs) (hb : Below w.heap.size w w') : PlcT w' base l k cs := ⟨h.len, fun n hn => own_belowJ (h.row n hn) hb, h.sep⟩
theorem PlcT.put {w W w' : World} {base g : Nat} {l : List Ed} {k f : Nat} {v1 : Value} {cs : List Value} (h : PlcT w base l k cs) (hf : f < 256) (hfr : (gEd l k).tn = (f : Int)) (hg : g < base) (hw : Below w.heap.size w W) (hgr : W.grownBy w' (cellP cs f).ownBlock)
    (hown : w'.ownsRow base 3 1 v1 ((rowT l k f).length + 1) ((rowT l k f).map (Value.int .i64) ++ [.int .i64 k])) (hbl : v1.ownBlock = (cellP cs f).ownBlock ∨ ∃ b, w.heap.size ≤ b ∧ v1.ownBlock = some b) :
    PlcT (w'.setCell ⟨g, f, none⟩ v1) base l (k + 1) (cs.set f v1) := by
  have hset : ∀ {v : Value} {n : Nat} {xs : List Value}, w'.ownsRow base 3 1 v n xs → (w'.setCell ⟨g, f, none⟩ v1).ownsRow base 3 1 v n xs := fun hv => own_low' hv (grown_set (g := g) w' f v1) hg
  have hl := h.len
  refine ⟨by rw [List.length_set]; exact h.len, fun n hn => ?_, fun n m hn hm hne => ?_⟩
  · rw [cellP_set v1 (by omega), rowT_next]
    by_cases e : n = f
    · subst e
      rw [if_pos rfl, if_pos hfr, List.length_append, List.map_append]
      exact hset hown
    · rw [if_neg e, if_neg (fun e2 => e (by omega))]
      refine hset ((own_belowJ (h.row n hn) hw).kept hgr ?_)
      rcases h.sep n f hn hf e with h1 | h1
      · exact .inl h1
      · exact .inr h1
  · rw [cellP_set v1 (by omega), cellP_set v1 (by omega)]
    have key : ∀ m, m < 256 → m ≠ f → (cellP cs m).ownBlock = none ∨ (cellP cs m).ownBlock ≠ v1.ownBlock := fun m hm hmf => by
      rcases hbl with h1 | ⟨b, h1, h2⟩
      · rw [h1]; exact h.sep m f hm hf hmf
      · cases ho : (cellP cs m).ownBlock with
        | none => exact .inl rfl
        | some q =>
          refine .inr fun e => ?_
          rw [h2] at e
          injection e with e
          have := ((h.row m hm).lt q ho).2
          omega
    by_cases e : n = f
    · subst e
      rw [if_pos rfl, if_neg (fun e => hne e.symm)]
      rcases key m hm (fun e => hne e.symm) with h1 | h1
      · by_cases h3 : v1.ownBlock = none
        · exact .inl h3
        · exact .inr fun e => h3 (by rw [e]; exact h1)
      · exact .inr fun e => h1 e.symm
    · rw [if_neg e]
      by_cases e2 : m = f
      · subst e2
        rw [if_pos rfl]
        exact key n hn e
      · rw [if_neg e2]; exact h.sep n m hn hm hne
end Go.Proofs.YtmbaklodgpcegaaGreat

/- The search takes each node up once: what is popped rises, what was taken up stays as it is. Plain facts. -/
namespace Go.Proofs.YtmbaklodgpcegaaGreat
open Go.ChangeShapes Go.WideShapes Go.ChangeAt Go.RowKit Go.Sort
set_option linter.unusedSimpArgs false
set_option linter.unusedVariables false
/-- X: the nodes that were taken up; lo: the time that was popped last. -/
structure Cnt (T : Int → Option Int) (H : List (Int × Int)) (X : List Int) (lo : Int) : Prop where
  nd : H.Nodup
  ge : ∀ n t, (n, t) ∈ H → lo ≤ t
  fin : ∀ n ∈ X, ∃ v, T n = some v ∧ v ≤ lo ∧ (n, v) ∉ H
  xnd : X.Nodup
theorem Cnt.first (q now : Int) : Cnt (oneT q now) [(q, now)] [] now := ⟨by simp, fun n t h => by simp at h; omega, fun n h => by simp at h, by simp⟩
/-- The least is popped: none that is left is earlier. -/
theorem Cnt.pop {T : Int → Option Int} {H H' : List (Int × Int)} {X : List Int} {lo n t : Int} (h : Cnt T H X lo) (hH : H.Perm ((n, t) :: H')) (hl : ∀ m s, (m, s) ∈ H' → t ≤ s) : Cnt T H' X t ∧ (n, t) ∉ H' ∧ (T n = some t → n ∉ X) := by
  have hnd := (hH.nodup_iff).1 h.nd
  obtain ⟨h1, h2⟩ := List.nodup_cons.1 hnd
  have hlo := h.ge n t (hH.mem_iff.2 (List.mem_cons_self ..))
  refine ⟨⟨h2, hl, fun m hm => ?_, h.xnd⟩, h1, fun hT hX => ?_⟩
  · obtain ⟨v, hv, hle, hno⟩ := h.fin m hm
    exact ⟨v, hv, by omega, fun hin => hno (hH.mem_iff.2 (List.mem_cons_of_mem _ hin))⟩
  · obtain ⟨v, hv, _, hno⟩ := h.fin n hX
    rw [hT] at hv
    injection hv with hv
    subst hv
    exact hno (hH.mem_iff.2 (List.mem_cons_self ..))
/-- One is laid in, no earlier than what was popped last, and earlier than is told of its node. -/
theorem Cnt.push {T : Int → Option Int} {H H' : List (Int × Int)} {X : List Int} {lo m a : Int} (h : Cnt T H X lo) (hw : ∀ n t, (n, t) ∈ H → ∃ u, T n = some u ∧ u ≤ t) (ha : lo ≤ a) (hl : lessT T m a = true) (hH : H'.Perm ((m, a) :: H)) : Cnt (setT T m a) H' X lo ∧ m ∉ X := by
  have hmX : m ∉ X := fun hX => by
    obtain ⟨v, hv, hle, _⟩ := h.fin m hX
    unfold lessT at hl
    rw [hv] at hl
    have := of_decide_eq_true hl
    omega
  have hnew : (m, a) ∉ H := fun hin => by
    obtain ⟨u, hu, hle⟩ := hw m a hin
    unfold lessT at hl
    rw [hu] at hl
    have := of_decide_eq_true hl
    omega
  refine ⟨⟨(hH.nodup_iff).2 (List.nodup_cons.2 ⟨hnew, h.nd⟩), fun n t hin => ?_, fun n hn => ?_, h.xnd⟩, hmX⟩
  · rcases List.mem_cons.1 (hH.mem_iff.1 hin) with h1 | h1
    · injection h1 with _ e2
      omega
    · exact h.ge n t h1
  · obtain ⟨v, hv, hle, hno⟩ := h.fin n hn
    have hne : n ≠ m := fun e => hmX (e ▸ hn)
    refine ⟨v, by rw [setT_ne _ _ hne]; exact hv, hle, fun hin => ?_⟩
    rcases List.mem_cons.1 (hH.mem_iff.1 hin) with h1 | h1
    · injection h1 with e1 _
      exact hne e1
    · exact hno h1
/-- A node is taken up. -/
theorem Cnt.take {T : Int → Option Int} {H : List (Int × Int)} {X : List Int} {n t : Int} (h : Cnt T H X t) (hT : T n = some t) (hno : (n, t) ∉ H) (hX : n ∉ X) : Cnt T H (n :: X) t := by
  refine ⟨h.nd, h.ge, fun m hm => ?_, List.nodup_cons.2 ⟨hX, h.xnd⟩⟩
  rcases List.mem_cons.1 hm with rfl | h1
  · exact ⟨t, hT, Int.le_refl _, hno⟩
  · exact h.fin m h1
/-- The edges that begin at none of these nodes. -/
def leftE (l : List Ed) (X : List Int) : Nat := (l.filter fun e => !X.contains e.fr).length
theorem leftE_le (l : List Ed) (X : List Int) : leftE l X ≤ l.length := List.length_filter_le _ _
theorem leftE_take (l : List Ed) {X : List Int} {n : Int} (hX : n ∉ X) : leftE l (n :: X) + (l.filter fun e => e.fr == n).length = leftE l X := by
  unfold leftE
  induction l with
  | nil => rfl
  | cons e r ih =>
    by_cases h1 : e.fr = n
    · have h2 : X.contains e.fr = false := by rw [h1, Bool.eq_false_iff]; intro h; exact hX (List.contains_iff_mem.1 h)
      have h3 : (n :: X).contains e.fr = true := by rw [List.contains_iff_mem, h1]; exact List.mem_cons_self ..
      rw [List.filter_cons_of_neg (by simp only [h3]; decide), List.filter_cons_of_pos (by simpa using h1), List.filter_cons_of_pos (by simp only [h2]; decide)]
      simp only [List.length_cons]
      omega
    · have h3 : (n :: X).contains e.fr = X.contains e.fr := by
        rw [Bool.eq_iff_iff, List.contains_iff_mem, List.contains_iff_mem, List.mem_cons]
        exact ⟨fun h => h.resolve_left h1, .inr⟩
      rw [List.filter_cons_of_neg (p := fun e : Ed => e.fr == n) (by simpa using h1)]
      cases h4 : X.contains e.fr with
      | true =>
        rw [List.filter_cons_of_neg (by simp only [h3, h4]; decide), List.filter_cons_of_neg (by simp only [h4]; decide)]
        exact ih
      | false =>
        rw [List.filter_cons_of_pos (by simp only [h3, h4]; decide), List.filter_cons_of_pos (by simp only [h4]; decide)]
        simp only [List.length_cons]
        omega
end Go.Proofs.YtmbaklodgpcegaaGreat

/- The search for earliest times, round by round: what it keeps, how long it is, how often it goes on. Plain facts. -/
namespace Go.Proofs.YtmbaklodgpcegaaGreat
open Go.ChangeShapes Go.WideShapes Go.ChangeAt Go.RowKit Go.Sort Hp
set_option linter.unusedSimpArgs false
set_option linter.unusedVariables false
theorem runE_node {size : Int} {no : Int → Bool} : ∀ {es : List Ed} {n t m u : Int}, runE size no n t es = some (m, u) → m = n ∨ ∃ e ∈ es, e.tn = m
  | [], n, t, m, u, h => by injection h with h; injection h with e1 _; exact .inl e1.symm
  | e :: r, n, t, m, u, h => by
    obtain ⟨s, a, hf, hn, hp, hr⟩ := runE_cons h
    rcases runE_node hr with h1 | ⟨x, hx, h1⟩
    · exact .inr ⟨e, List.mem_cons_self .., h1.symm⟩
    · exact .inr ⟨x, List.mem_cons_of_mem _ hx, h1⟩
theorem Rch.node {l : List Ed} {size : Int} {no : Int → Bool} {q now n t : Int} (hr : rightE l = true) (hq : 1 ≤ q ∧ q ≤ 255) (h : Rch l size no q now n t) : 1 ≤ n ∧ n ≤ 255 := by
  obtain ⟨es, hl, h1⟩ := h
  rcases runE_node h1 with rfl | ⟨e, he, rfl⟩
  · exact hq
  · exact (Ed.ok_spec.1 (rightE_ok hr (hl e he))).2.2.1
theorem rowI_edges (l : List Ed) (n : Nat) : ∀ k, k ≤ l.length → (rowI l k n).map (fun i => gEd l i.toNat) = (l.take k).filter (fun e => e.fr == (n : Int))
  | 0, _ => by rw [rowI_zero]; rfl
  | k + 1, h => by
    have ih := rowI_edges l n k (by omega)
    rw [rowI_next, take_nextEd (by omega), List.filter_append, ← ih]
    by_cases e : (gEd l k).fr = (n : Int)
    · rw [if_pos e, List.map_append, List.filter_cons_of_pos (by simpa using e)]; simp
    · rw [if_neg e, List.filter_cons_of_neg (by simpa using e)]; simp
/-- The places of the edges from n, and these edges. -/
structure RowE (l : List Ed) (n : Int) (R : List Int) : Prop where
  at_ : ∀ j, j < R.length → ∃ i : Nat, R.getD j 0 = (i : Int) ∧ i < l.length ∧ (gEd l i).fr = n
  len : R.length = (l.filter (fun e => e.fr == n)).length
  all : ∀ e ∈ l, e.fr = n → e ∈ R.map (fun i => gEd l i.toNat)
theorem rowE_of (l : List Ed) (n : Nat) : RowE l (n : Int) (rowI l l.length n) := by
  have h := rowI_edges l n l.length (Nat.le_refl _)
  rw [List.take_length] at h
  refine ⟨fun j hj => ?_, ?_, fun e he hf => ?_⟩
  · have hm : (rowI l l.length n).getD j 0 ∈ rowI l l.length n := by
      rw [List.getD_eq_getElem?_getD, List.getElem?_eq_getElem hj]; exact List.getElem_mem _
    generalize (rowI l l.length n).getD j 0 = x at hm
    unfold rowI at hm
    obtain ⟨i, hi, rfl⟩ := List.mem_map.1 hm
    obtain ⟨h1, h2⟩ := List.mem_filter.1 hi
    exact ⟨i, rfl, by simpa using h1, by simpa using h2⟩
  · have := congrArg List.length h
    rwa [List.length_map] at this
  · rw [h]
    exact List.mem_filter.2 ⟨he, by simpa using hf⟩
/-- .. of the first j. -/
def psE (l : List Ed) (R : List Int) (j : Nat) : List Ed := (R.take j).map (fun i => gEd l i.toNat)
theorem psE_next {l : List Ed} {n : Int} {R : List Int} {j i : Nat} (hj : j < R.length) (hi : R.getD j 0 = (i : Int)) : psE l R (j + 1) = psE l R j ++ [gEd l i] := by
  unfold psE
  rw [List.take_succ_eq_append_getElem hj, List.map_append]
  have : R[j] = (i : Int) := by rw [← hi, List.getD_eq_getElem?_getD, List.getElem?_eq_getElem hj]; rfl
  rw [this]; rfl
section
variable {l : List Ed} {size : Int} {no : Int → Bool} {q now : Int}
/-- Ahead of a pop. -/
structure SeaE (l : List Ed) (size : Int) (no : Int → Bool) (q now : Int) (nm : Nat) (T : Int → Option Int) (H : List (Int × Int)) (X : List Int) (lo : Int) (G : Nat) : Prop where
  sp : Spread l size no q now T H
  ct : Cnt T H X lo
  hl : H.length + leftE l X ≤ l.length + 1
  hn : nm + leftE l X ≤ l.length + 1
  hg : H.length + 2 * leftE l X ≤ G
/-- Behind one: that one is (n, t). -/
structure SeaR (l : List Ed) (size : Int) (no : Int → Bool) (q now : Int) (nm : Nat) (T : Int → Option Int) (H : List (Int × Int)) (X : List Int) (n t : Int) (g : Nat) : Prop where
  sp : Spread l size no q now T ((n, t) :: H)
  ct : Cnt T H X t
  out : (n, t) ∉ H
  new : T n = some t → n ∉ X
  hl : H.length + leftE l X ≤ l.length
  hn : nm + leftE l X ≤ l.length + 1
  hg : 1 + H.length + 2 * leftE l X ≤ g
/-- Behind j edges from n. -/
structure SeaI (l : List Ed) (size : Int) (no : Int → Bool) (q now : Int) (n t : Int) (R : List Int) (X : List Int) (g j nm : Nat) (T : Int → Option Int) (H : List (Int × Int)) : Prop where
  at_ : SpreadAt l size no q now n t (psE l R j) T H
  ct : Cnt T H (n :: X) t
  hl : H.length + R.length + leftE l (n :: X) ≤ l.length + j
  hn : nm + R.length + leftE l (n :: X) ≤ l.length + 1 + j
  hg : 1 + H.length + 2 * leftE l (n :: X) + 2 * R.length ≤ g + j
theorem SeaE.first : SeaE l size no q now 1 (oneT q now) [(q, now)] [] now (1 + 2 * l.length) := by
  have h := leftE_le l []
  exact ⟨Spread.first, Cnt.first q now, by simp; omega, by omega, by simp; omega⟩
theorem SeaE.pop {nm : Nat} {T : Int → Option Int} {H : List (Int × Int)} {X : List Int} {lo : Int} {G : Nat} (h : SeaE l size no q now nm T H X lo G) {m : Int × Int} (hm : IsLeast m H) : SeaR l size no q now nm T (H.erase m) X m.1 m.2 G := by
  have hp : H.Perm ((m.1, m.2) :: H.erase m) := List.perm_cons_erase hm.1
  have hlen := hp.length_eq
  rw [List.length_cons] at hlen
  obtain ⟨h1, h2, h3⟩ := h.ct.pop hp (fun a s hs => by
    have := ahd_no.1 (hm.2 (a, s) (List.mem_of_mem_erase hs))
    simp only at this
    omega)
  have := h.hl
  have := h.hg
  have := h.hn
  refine ⟨⟨h.sp.start, h.sp.rch, fun a s hs => h.sp.wait a s (hp.mem_iff.2 hs), fun a s hs => ?_⟩, h1, h2, h3, by omega, by omega, by omega⟩
  rcases h.sp.pend a s hs with h4 | h4
  · exact .inl (hp.mem_iff.1 h4)
  · exact .inr h4
theorem SeaE.done {nm : Nat} {T : Int → Option Int} {X : List Int} {lo : Int} {G : Nat} (h0 : 0 ≤ now) (h : SeaE l size no q now nm T [] X lo G) : Early l size no q now T := h.sp.done h0
theorem SeaR.told {nm : Nat} {T : Int → Option Int} {H : List (Int × Int)} {X : List Int} {n t : Int} {g : Nat} (h : SeaR l size no q now nm T H X n t g) : ∃ u, T n = some u ∧ u ≤ t := h.sp.wait n t (List.mem_cons_self ..)
theorem SeaR.stale {nm : Nat} {T : Int → Option Int} {H : List (Int × Int)} {X : List Int} {n t u : Int} {g : Nat} (h : SeaR l size no q now nm T H X n t g) (hu : T n = some u) (hlt : u < t) : SeaE l size no q now nm T H X t (g - 1) := by
  have := h.hl
  have := h.hg
  exact ⟨h.sp.stale (List.Perm.refl _) hu hlt, h.ct, by omega, h.hn, by omega⟩
theorem SeaR.take {nm : Nat} {T : Int → Option Int} {H : List (Int × Int)} {X : List Int} {n t : Int} {g : Nat} {R : List Int} (h : SeaR l size no q now nm T H X n t g) (hT : T n = some t) (hR : RowE l n R) : SeaI l size no q now n t R X g 0 nm T H := by
  have h1 := leftE_take l (h.new hT)
  rw [← hR.len] at h1
  have := h.hl
  have := h.hg
  have := h.hn
  exact ⟨h.sp.pop (List.Perm.refl _) hT, h.ct.take hT h.out (h.new hT), by omega, by omega, by omega⟩
theorem SeaI.skip {n t : Int} {R X : List Int} {g j nm i : Nat} {T : Int → Option Int} {H : List (Int × Int)} (h : SeaI l size no q now n t R X g j nm T H) (hj : j < R.length) (hi : R.getD j 0 = (i : Int)) (hs : ∀ s a, no (gEd l i).tn = false → (gEd l i).pass t size = some (s, a) → lessT T (gEd l i).tn a = false) : SeaI l size no q now n t R X g (j + 1) nm T H := by
  have := h.hl
  have := h.hg
  have := h.hn
  exact ⟨by rw [psE_next (n := n) hj hi]; exact h.at_.skip hs, h.ct, by omega, by omega, by omega⟩
theorem SeaI.push {n t s a : Int} {R X : List Int} {g j nm i : Nat} {T : Int → Option Int} {H : List (Int × Int)} (h : SeaI l size no q now n t R X g j nm T H) (hj : j < R.length) (hi : R.getD j 0 = (i : Int)) (hil : i < l.length) (hok : (gEd l i).ok = true) (hf : (gEd l i).fr = n) (hn : no (gEd l i).tn = false) (hq : no q = true) (hp : (gEd l i).pass t size = some (s, a)) (hl : lessT T (gEd l i).tn a = true) :
    SeaI l size no q now n t R X g (j + 1) (nm + 1) (setT T (gEd l i).tn a) (H ++ [((gEd l i).tn, a)]) := by
  have h1 := h.hl
  have h2 := h.hg
  have h3 := h.hn
  have hne := (Ed.ok_spec.1 hok).2.2.2.1
  have hH : (H ++ [((gEd l i).tn, a)]).Perm (((gEd l i).tn, a) :: H) := List.perm_append_comm
  have hpf := pass_facts hp
  refine ⟨by rw [psE_next (n := n) hj hi]; exact h.at_.push (gEd_mem hil) hf (fun e => hne (by rw [hf, e])) hn hq hp hl hH, (h.ct.push h.at_.wait (by omega) hl hH).1, ?_, by omega, ?_⟩
  · rw [List.length_append]; simp; omega
  · rw [List.length_append]; simp; omega
theorem SeaI.end_ {n t : Int} {R X : List Int} {g nm : Nat} {T : Int → Option Int} {H : List (Int × Int)} (h : SeaI l size no q now n t R X g R.length nm T H) (hR : RowE l n R) : SeaE l size no q now nm T H (n :: X) t (g - 1) := by
  have h1 := h.hl
  have h2 := h.hg
  have h3 := h.hn
  refine ⟨h.at_.end_ fun e he hf => ?_, h.ct, by omega, by omega, by omega⟩
  have := hR.all e he hf
  unfold psE
  rw [List.take_of_length_le (Nat.le_refl _)]
  exact this
end
end Go.Proofs.YtmbaklodgpcegaaGreat

/- What the earliest times tell: for the laws. Plain facts. -/
namespace Go.Proofs.YtmbaklodgpcegaaGreat
open Go.ChangeShapes Go.WideShapes Go.ChangeAt Go.RowKit Go.Sort Hp
set_option linter.unusedSimpArgs false
set_option linter.unusedVariables false
def freeE : Int → Bool := fun _ => false
theorem shutE_self (sh : List Int) (q : Int) : shutE sh q q = true := by
  show (sh ++ [q]).contains q = true
  rw [List.contains_iff_mem]; simp
theorem shutE_nil {q y : Int} (h : shutE [] q y = true) : y = q := by
  have h1 : ([q] : List Int).contains y = true := h
  rw [List.contains_iff_mem] at h1
  simpa using h1
theorem shutE_mem {sh : List Int} {q y : Int} (h : y ∈ sh) : shutE sh q y = true := by
  show (sh ++ [q]).contains y = true
  rw [List.contains_iff_mem]; exact List.mem_append.2 (.inl h)
theorem Early.ge0 {l : List Ed} {size : Int} {no : Int → Bool} {q now : Int} {T : Int → Option Int} (h0 : 0 ≤ now) (h : Early l size no q now T) : ∀ n t, T n = some t → 0 ≤ t := fun n t ht => by
  have := (h.rch n t ht).ge
  omega
/-- Who may go back to the beginning is nowhere earlier for it. -/
theorem Early.free {l : List Ed} {size : Int} {q now : Int} {T : Int → Option Int} (h0 : 0 ≤ now) (h : Early l size (shutE [] q) q now T) : NoEdge l size freeE T := by
  intro e he t s a ht _ hp
  by_cases hn : shutE [] q e.tn = true
  · have e1 := shutE_nil hn
    have h1 := (h.rch _ _ ht).ge
    have h2 := pass_facts hp
    exact ⟨now, by rw [e1]; exact h.start, by omega⟩
  · exact h.noEdge e he t s a ht (by simpa using hn) hp
theorem runE_free {size : Int} {no : Int → Bool} : ∀ {es : List Ed} {n t : Int} {x : Int × Int}, runE size no n t es = some x → runE size freeE n t es = some x
  | [], n, t, x, h => h
  | e :: r, n, t, x, h => by
    obtain ⟨s, a, hf, _, hp, hr⟩ := runE_cons h
    rw [runE_step hf rfl hp]
    exact runE_free hr
/-- Walks on, whatever they may not enter, are nowhere earlier than told. -/
theorem Early.walk {l : List Ed} {size : Int} {no : Int → Bool} {q now n v t m u : Int} {T : Int → Option Int} {es : List Ed} (h0 : 0 ≤ now) (h : Early l size (shutE [] q) q now T) (hl : ∀ e ∈ es, e ∈ l) (hv : T n = some v) (hle : v ≤ t) (hr : runE size no n t es = some (m, u)) : ∃ u', T m = some u' ∧ u' ≤ u :=
  noEdge_run (h.free h0) (h.ge0 h0) hl hv hle (runE_free hr)
theorem runE_less {size more : Int} {no : Int → Bool} (hs : 0 ≤ size) (hm : size ≤ more) : ∀ {es : List Ed} {n t t' m u : Int}, 0 ≤ t' → t' ≤ t → runE more no n t es = some (m, u) → ∃ u', runE size no n t' es = some (m, u') ∧ u' ≤ u
  | [], n, t, t', m, u, h0, h1, h => by
    injection h with h; injection h with e1 e2
    subst e1 e2
    exact ⟨t', rfl, h1⟩
  | e :: r, n, t, t', m, u, h0, h1, h => by
    obtain ⟨s, a, hf, hn, hp, hr⟩ := runE_cons h
    obtain ⟨b, hp2, hle2, _, _, _, _, _, hb0, _⟩ := pass_less hs hm hp
    obtain ⟨s', a', hp', _, hle, h2, h3, _⟩ := pass_earlier h0 h1 hp2
    obtain ⟨u', hr', hu⟩ := runE_less hs hm (t' := a') (by omega) (by omega) hr
    exact ⟨u', by rw [runE_step hf hn hp']; exact hr', hu⟩
theorem runE_shut {size : Int} {no : Int → Bool} : ∀ {es : List Ed} {n t m u : Int}, runE size no n t es = some (m, u) → m = n ∨ no m = false
  | [], n, t, m, u, h => by injection h with h; injection h with e1 _; exact .inl e1.symm
  | e :: r, n, t, m, u, h => by
    obtain ⟨s, a, hf, hn, hp, hr⟩ := runE_cons h
    rcases runE_shut hr with h1 | h1
    · exact .inr (by rw [h1]; exact hn)
    · exact .inr h1
theorem runE_time {size : Int} {no : Int → Bool} : ∀ {es : List Ed} {n t m u : Int}, t ≤ 1099511627776 → runE size no n t es = some (m, u) → u ≤ 1099511627776
  | [], n, t, m, u, h0, h => by injection h with h; injection h with _ e2; omega
  | e :: r, n, t, m, u, h0, h => by
    obtain ⟨s, a, hf, hn, hp, hr⟩ := runE_cons h
    have h1 := pass_facts hp
    have h2 := (Ed.ok_spec.1 h1.1).2.2.2.2.2.1
    exact runE_time (by omega) hr
theorem srt_nodup {r : List (Int × Int)} (h : Srt r) : (r.map (·.1)).Nodup := by
  rw [List.nodup_iff_pairwise_ne, List.pairwise_map]
  exact h.imp fun h => by omega
theorem nodup_len_int : ∀ {es l : List Int}, es.Nodup → (∀ e ∈ es, e ∈ l) → es.length ≤ l.length
  | [], l, _, _ => Nat.zero_le _
  | e :: r, l, hn, hl => by
    obtain ⟨hm, hr⟩ := List.nodup_cons.1 hn
    obtain ⟨pa, bs, hl2⟩ := List.append_of_mem (hl e (List.mem_cons_self ..))
    have h1 := nodup_len_int (l := pa ++ bs) hr (fun x hx => by
      have h2 := hl x (List.mem_cons_of_mem _ hx)
      rw [hl2] at h2
      rcases List.mem_append.1 h2 with h3 | h3
      · exact List.mem_append.2 (.inl h3)
      · rcases List.mem_cons.1 h3 with h4 | h4
        · exact absurd (h4 ▸ hx) hm
        · exact List.mem_append.2 (.inr h4))
    rw [hl2]
    simp only [List.length_append, List.length_cons] at h1 ⊢
    omega
theorem srt_len {r r' : List (Int × Int)} (h : Srt r) (hs : ∀ x ∈ r, ∃ u, atR r' x.1 = some u) : r.length ≤ r'.length := by
  have h1 := nodup_len_int (l := r'.map (·.1)) (srt_nodup h) (fun e he => by
    obtain ⟨x, hx, rfl⟩ := List.mem_map.1 he
    obtain ⟨u, hu⟩ := hs x hx
    exact List.mem_map.2 ⟨_, atR_mem hu, rfl⟩)
  simpa using h1
/-- Right to ask just if there is a time told. -/
theorem IsTimes.ask {l : List Ed} {q now size : Int} {sh : List Int} {r : List (Int × Int)} (h : IsTimes l q now size sh r) {n t : Int} (ht : atR r n = some t) : askE l q now size = true := by
  cases ha : askE l q now size with
  | true => rfl
  | false => rw [h.no ha] at ht; cases ht
theorem IsTimes.start {l : List Ed} {q now size : Int} {sh : List Int} {r : List (Int × Int)} (h : IsTimes l q now size sh r) (ha : askE l q now size = true) : atR r q = some now := (h.yes ha).start
theorem IsTimes.pos {l : List Ed} {q now size : Int} {sh : List Int} {r : List (Int × Int)} (h : IsTimes l q now size sh r) : 0 < r.length ↔ askE l q now size = true := by
  constructor
  · intro h1
    cases ha : askE l q now size with
    | true => rfl
    | false => rw [h.no ha] at h1; simp at h1
  · intro ha
    exact List.length_pos_of_mem (atR_mem (h.start ha))
theorem gt_memR {r : List (Int × Int)} {k : Nat} (h : k < r.length) : (gt r k) ∈ r := gt_mem h
theorem atR_gt {r : List (Int × Int)} (h : Srt r) {k : Nat} (hk : k < r.length) : atR r (gt r k).1 = some (gt r k).2 := h.at_ (gt_mem hk)
/-- EarlyJoins. -/
theorem joins_math {l : List Ed} {q now size m t : Int} {ra rb : List (Int × Int)} (ha : IsTimes l q now size [] ra) (ht : atR ra m = some t) (hb : IsTimes l m t size [] rb) : askE l m t size = true ∧ ∀ k, k < rb.length → ∃ u, atR ra (gt rb k).1 = some u ∧ u ≤ (gt rb k).2 ∧ t ≤ (gt rb k).2 := by
  have hq := ha.ask ht
  obtain ⟨h1, ⟨h2, h3⟩, h4, h5⟩ := askE_spec.1 hq
  have hE := ha.yes hq
  have hr := hE.rch m t ht
  have hn := hr.node h5 h1
  have hg := hr.ge
  obtain ⟨es, hes, hrun⟩ := hr
  have hm : askE l m t size = true := askE_spec.2 ⟨hn, ⟨by omega, runE_time h3 hrun⟩, h4, h5⟩
  refine ⟨hm, fun k hk => ?_⟩
  have h6 := atR_gt hb.srt hk
  have hr2 := (hb.yes hm).rch _ _ h6
  have hg2 := hr2.ge
  obtain ⟨es2, hes2, hrun2⟩ := hr2
  obtain ⟨u, hu, hle⟩ := hE.walk h2 hes2 ht (Int.le_refl _) hrun2
  exact ⟨u, hu, hle, hg2⟩
/-- EarlyEarlier. -/
theorem earlier_math {l : List Ed} {q now later size more : Int} {ra rb : List (Int × Int)} (h0 : 0 ≤ now) (h1 : now ≤ later) (h2 : 0 ≤ size) (h3 : size ≤ more) (ha : IsTimes l q now size [] ra) (hb : IsTimes l q later more [] rb) : (∀ k, k < rb.length → ∃ u, atR ra (gt rb k).1 = some u ∧ u ≤ (gt rb k).2) ∧ rb.length ≤ ra.length := by
  have key : ∀ x ∈ rb, ∃ u, atR ra x.1 = some u ∧ u ≤ x.2 := fun x hx => by
    have h4 : atR rb x.1 = some x.2 := hb.srt.at_ hx
    have hq := hb.ask h4
    obtain ⟨g1, g2, g3, g4⟩ := askE_spec.1 hq
    have hqa : askE l q now size = true := askE_spec.2 ⟨g1, ⟨h0, by omega⟩, ⟨h2, by omega⟩, g4⟩
    obtain ⟨es, hes, hrun⟩ := (hb.yes hq).rch _ _ h4
    obtain ⟨u, hr, hle⟩ := runE_less h2 h3 h0 h1 hrun
    obtain ⟨v, hv, hle2⟩ := (ha.yes hqa).least _ _ ⟨es, hes, hr⟩
    exact ⟨v, hv, by omega⟩
  exact ⟨fun k hk => key _ (gt_mem hk), srt_len hb.srt fun x hx => by obtain ⟨u, hu, _⟩ := key x hx; exact ⟨u, hu⟩⟩
/-- EarlyShuts. -/
theorem shuts_math {l : List Ed} {q now size : Int} {sh : List Int} {ra rb : List (Int × Int)} (ha : IsTimes l q now size [] ra) (hb : IsTimes l q now size sh rb) : (∀ k, k < rb.length → ∃ u, atR ra (gt rb k).1 = some u ∧ u ≤ (gt rb k).2) ∧ (∀ y ∈ sh, (atR rb y).isSome = true → y = q) ∧ (0 < ra.length ↔ 0 < rb.length) := by
  refine ⟨fun k hk => ?_, fun y hy hs => ?_, by rw [ha.pos, hb.pos]⟩
  · have h4 := atR_gt hb.srt hk
    have hq := hb.ask h4
    have h0 := (askE_spec.1 hq).2.1.1
    obtain ⟨es, hes, hrun⟩ := (hb.yes hq).rch _ _ h4
    exact (ha.yes hq).walk h0 hes ((ha.yes hq).start) (Int.le_refl _) hrun
  · obtain ⟨u, hu⟩ := Option.isSome_iff_exists.1 hs
    obtain ⟨es, hes, hrun⟩ := (hb.yes (hb.ask hu)).rch _ _ hu
    rcases runE_shut hrun with h1 | h1
    · exact h1
    · rw [shutE_mem hy] at h1; cases h1
theorem srt_lt {r : List (Int × Int)} (h : Srt r) {k : Nat} (hk : k + 1 < r.length) : (gt r k).1 < (gt r (k + 1)).1 := by
  have h1 := (List.pairwise_iff_getElem.1 h) k (k + 1) (by omega) hk (by omega)
  have e1 : gt r k = r[k]'(by omega) := by unfold gt; rw [List.getD_eq_getElem?_getD, List.getElem?_eq_getElem (by omega)]; rfl
  have e2 : gt r (k + 1) = r[k + 1]'hk := by unfold gt; rw [List.getD_eq_getElem?_getD, List.getElem?_eq_getElem hk]; rfl
  rw [e1, e2]; exact h1
theorem findE_memL {l : List Ed} {id : Int} {e : Ed} (h : findE l id = some e) : e ∈ l := List.mem_of_find?_eq_some h
/-- EarlyLeast: the walk. -/
theorem least_walk {l : List Ed} {ids : List Int} {q now size : Int} {es : List Ed} {hs : List Hp} {r : List (Int × Int)} (ha : IsTimes l q now size [] r) (hq : askE l q now size = true) (hf : followE l ids q = some es) (hp : passE size es now = some hs) : ∀ i, i < es.length → ∃ u, atR r ((nodesE q es).getD (i + 1) 0) = some u ∧ u ≤ (gHp hs i).ar := by
  have h0 := (askE_spec.1 hq).2.1.1
  have hE := ha.yes hq
  have hN := hE.free h0
  have hz := hE.ge0 h0
  have step : ∀ i, i < es.length → (∃ v, atR r ((nodesE q es).getD i 0) = some v ∧ v ≤ readyE now hs i) → ∃ u, atR r ((nodesE q es).getD (i + 1) 0) = some u ∧ u ≤ (gHp hs i).ar := fun i hi ⟨v, hv, hle⟩ => by
    obtain ⟨f1, f2, f3⟩ := followE_at hf i hi
    obtain ⟨p1, _⟩ := passE_at hp i hi
    obtain ⟨s', a', hp', _, hle', _, _, _⟩ := pass_earlier (hz _ _ hv) hle p1
    obtain ⟨u, hu, hua⟩ := hN (gEd es i) (findE_memL f3) v s' a' (by rw [f1]; exact hv) rfl hp'
    exact ⟨u, by rw [f2]; exact hu, by omega⟩
  intro i
  induction i with
  | zero =>
    intro hi
    refine step 0 hi ⟨now, ?_, by unfold readyE; simp⟩
    have : (nodesE q es).getD 0 0 = q := by simp [nodesE]
    rw [this]; exact hE.start
  | succ i ih =>
    intro hi
    obtain ⟨u, hu, hle⟩ := ih (by omega)
    exact step (i + 1) hi ⟨u, hu, by unfold readyE; simpa using hle⟩
/-- .. and the edges. -/
theorem least_edge {l : List Ed} {q now size : Int} {r : List (Int × Int)} (ha : IsTimes l q now size [] r) (hq : askE l q now size = true) {e : Ed} (he : e ∈ l) {t s a : Int} (ht : atR r e.fr = some t) (hp : e.pass t size = some (s, a)) : ∃ u, atR r e.tn = some u ∧ u ≤ a :=
  (ha.yes hq).free (askE_spec.1 hq).2.1.1 e he t s a ht rfl hp
end Go.Proofs.YtmbaklodgpcegaaGreat

/- The places of the edges to a node. Plain facts. -/
namespace Go.Proofs.YtmbaklodgpcegaaGreat
open Go.ChangeShapes Go.WideShapes Go.ChangeAt Go.RowKit Go.Sort Hp
set_option linter.unusedSimpArgs false
set_option linter.unusedVariables false
theorem rowT_edges (l : List Ed) (n : Nat) : ∀ k, k ≤ l.length → (rowT l k n).map (fun i => gEd l i.toNat) = (l.take k).filter (fun e => e.tn == (n : Int))
  | 0, _ => by rw [rowT_zero]; rfl
  | k + 1, h => by
    have ih := rowT_edges l n k (by omega)
    rw [rowT_next, take_nextEd (by omega), List.filter_append, ← ih]
    by_cases e : (gEd l k).tn = (n : Int)
    · rw [if_pos e, List.map_append, List.filter_cons_of_pos (by simpa using e)]; simp
    · rw [if_neg e, List.filter_cons_of_neg (by simpa using e)]; simp
/-- The places of the edges to n, and these edges. -/
structure RowT (l : List Ed) (n : Int) (R : List Int) : Prop where
  at_ : ∀ j, j < R.length → ∃ i : Nat, R.getD j 0 = (i : Int) ∧ i < l.length ∧ (gEd l i).tn = n
  len : R.length = (l.filter (fun e => e.tn == n)).length
  all : ∀ e ∈ l, e.tn = n → e ∈ R.map (fun i => gEd l i.toNat)
theorem rowT_of (l : List Ed) (n : Nat) : RowT l (n : Int) (rowT l l.length n) := by
  have h := rowT_edges l n l.length (Nat.le_refl _)
  rw [List.take_length] at h
  refine ⟨fun j hj => ?_, ?_, fun e he hf => ?_⟩
  · have hm : (rowT l l.length n).getD j 0 ∈ rowT l l.length n := by
      rw [List.getD_eq_getElem?_getD, List.getElem?_eq_getElem hj]; exact List.getElem_mem _
    generalize (rowT l l.length n).getD j 0 = x at hm
    unfold rowT at hm
    obtain ⟨i, hi, rfl⟩ := List.mem_map.1 hm
    obtain ⟨h1, h2⟩ := List.mem_filter.1 hi
    exact ⟨i, rfl, by simpa using h1, by simpa using h2⟩
  · have := congrArg List.length h
    rwa [List.length_map] at this
  · rw [h]
    exact List.mem_filter.2 ⟨he, by simpa using hf⟩
end Go.Proofs.YtmbaklodgpcegaaGreat
