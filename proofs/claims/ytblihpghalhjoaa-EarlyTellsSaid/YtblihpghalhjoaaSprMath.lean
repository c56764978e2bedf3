/- The search for earliest times, round by round: what it keeps, how long it is, how often it goes on. Plain facts. -/
import Derived.Test.YtblihpghalhjoaaEarlyMath2
import Derived.Test.YtblihpghalhjoaaJoint
import Derived.Test.YtblihpghalhjoaaGC
namespace Go.Proofs.Ytblihpghalhjoaa
open Go.ChangeShapes Go.WideShapes Go.ChangeAt Go.RowKit Go.Sort Hp
set_option linter.unusedSimpArgs false
set_option linter.unusedVariables false
theorem runE_node {size : Int} {no : Int → Bool} : ∀ {es : List Ed} {n t m u : Int}, runE size no n t es = some (m, u) → m = n ∨ ∃ e ∈ es, e.tn = m
  | [], n, t, m, u, h => by injection h with h; injection h with e1 _; exact .inl e1.symm
  | e :: r, n, t, m, u, h => by
    obtain ⟨s, a, hf, hn, hp, hr⟩ := runE_cons h
    rcases runE_node hr with h1 | ⟨x, hx, h1⟩
    · exact .inr ⟨e, List.mem_cons_self .., h1.symm⟩
    · exact .inr ⟨x, List.mem_cons_of_mem _ hx, h1⟩
theorem Rch.node {l : List Ed} {size : Int} {no : Int → Bool} {q now n t : Int} (hr : rightE l = true) (hq : 1 ≤ q ∧ q ≤ 255) (h : Rch l size no q now n t) : 1 ≤ n ∧ n ≤ 255 := by
  obtain ⟨es, hl, h1⟩ := h
  rcases runE_node h1 with rfl | ⟨e, he, rfl⟩
  · exact hq
  · exact (Ed.ok_spec.1 (rightE_ok hr (hl e he))).2.2.1
theorem rowI_edges (l : List Ed) (n : Nat) : ∀ k, k ≤ l.length → (rowI l k n).map (fun i => gEd l i.toNat) = (l.take k).filter (fun e => e.fr == (n : Int))
  | 0, _ => by rw [rowI_zero]; rfl
  | k + 1, h => by
    have ih := rowI_edges l n k (by omega)
    rw [rowI_next, take_nextEd (by omega), List.filter_append, ← ih]
    by_cases e : (gEd l k).fr = (n : Int)
    · rw [if_pos e, List.map_append, List.filter_cons_of_pos (by simpa using e)]; simp
    · rw [if_neg e, List.filter_cons_of_neg (by simpa using e)]; simp
/-- The places of the edges from n, and these edges. -/
structure RowE (l : List Ed) (n : Int) (R : List Int) : Prop where
  at_ : ∀ j, j < R.length → ∃ i : Nat, R.getD j 0 = (i : Int) ∧ i < l.length ∧ (gEd l i).fr = n
  len : R.length = (l.filter (fun e => e.fr == n)).length
  all : ∀ e ∈ l, e.fr = n → e ∈ R.map (fun i => gEd l i.toNat)
theorem rowE_of (l : List Ed) (n : Nat) : RowE l (n : Int) (rowI l l.length n) := by
  have h := rowI_edges l n l.length (Nat.le_refl _)
  rw [List.take_length] at h
  refine ⟨fun j hj => ?_, ?_, fun e he hf => ?_⟩
  · have hm : (rowI l l.length n).getD j 0 ∈ rowI l l.length n := by
      rw [List.getD_eq_getElem?_getD, List.getElem?_eq_getElem hj]; exact List.getElem_mem _
    generalize (rowI l l.length n).getD j 0 = x at hm
    unfold rowI at hm
    obtain ⟨i, hi, rfl⟩ := List.mem_map.1 hm
    obtain ⟨h1, h2⟩ := List.mem_filter.1 hi
    exact ⟨i, rfl, by simpa using h1, by simpa using h2⟩
  · have := congrArg List.length h
    rwa [List.length_map] at this
  · rw [h]
    exact List.mem_filter.2 ⟨he, by simpa using hf⟩
/-- .. of the first j. -/
def psE (l : List Ed) (R : List Int) (j : Nat) : List Ed := (R.take j).map (fun i => gEd l i.toNat)
theorem psE_next {l : List Ed} {n : Int} {R : List Int} {j i : Nat} (hj : j < R.length) (hi : R.getD j 0 = (i : Int)) : psE l R (j + 1) = psE l R j ++ [gEd l i] := by
  unfold psE
  rw [List.take_succ_eq_append_getElem hj, List.map_append]
  have : R[j] = (i : Int) := by rw [← hi, List.getD_eq_getElem?_getD, List.getElem?_eq_getElem hj]; rfl
  rw [this]; rfl
section
variable {l : List Ed} {size : Int} {no : Int → Bool} {q now : Int}
/-- Ahead of a pop. -/
structure SeaE (l : List Ed) (size : Int) (no : Int → Bool) (q now : Int) (nm : Nat) (T : Int → Option Int) (H : List (Int × Int)) (X : List Int) (lo : Int) (G : Nat) : Prop where
  sp : Spread l size no q now T H
  ct : Cnt T H X lo
  hl : H.length + leftE l X ≤ l.length + 1
  hn : nm + leftE l X ≤ l.length + 1
  hg : H.length + 2 * leftE l X ≤ G
/-- Behind one: that one is (n, t). -/
structure SeaR (l : List Ed) (size : Int) (no : Int → Bool) (q now : Int) (nm : Nat) (T : Int → Option Int) (H : List (Int × Int)) (X : List Int) (n t : Int) (g : Nat) : Prop where
  sp : Spread l size no q now T ((n, t) :: H)
  ct : Cnt T H X t
  out : (n, t) ∉ H
  new : T n = some t → n ∉ X
  hl : H.length + leftE l X ≤ l.length
  hn : nm + leftE l X ≤ l.length + 1
  hg : 1 + H.length + 2 * leftE l X ≤ g
/-- Behind j edges from n. -/
structure SeaI (l : List Ed) (size : Int) (no : Int → Bool) (q now : Int) (n t : Int) (R : List Int) (X : List Int) (g j nm : Nat) (T : Int → Option Int) (H : List (Int × Int)) : Prop where
  at_ : SpreadAt l size no q now n t (psE l R j) T H
  ct : Cnt T H (n :: X) t
  hl : H.length + R.length + leftE l (n :: X) ≤ l.length + j
  hn : nm + R.length + leftE l (n :: X) ≤ l.length + 1 + j
  hg : 1 + H.length + 2 * leftE l (n :: X) + 2 * R.length ≤ g + j
theorem SeaE.first : SeaE l size no q now 1 (oneT q now) [(q, now)] [] now (1 + 2 * l.length) := by
  have h := leftE_le l []
  exact ⟨Spread.first, Cnt.first q now, by simp; omega, by omega, by simp; omega⟩
theorem SeaE.pop {nm : Nat} {T : Int → Option Int} {H : List (Int × Int)} {X : List Int} {lo : Int} {G : Nat} (h : SeaE l size no q now nm T H X lo G) {m : Int × Int} (hm : IsLeast m H) : SeaR l size no q now nm T (H.erase m) X m.1 m.2 G := by
  have hp : H.Perm ((m.1, m.2) :: H.erase m) := List.perm_cons_erase hm.1
  have hlen := hp.length_eq
  rw [List.length_cons] at hlen
  obtain ⟨h1, h2, h3⟩ := h.ct.pop hp (fun a s hs => by
    have := ahd_no.1 (hm.2 (a, s) (List.mem_of_mem_erase hs))
    simp only at this
    omega)
  have := h.hl
  have := h.hg
  have := h.hn
  refine ⟨⟨h.sp.start, h.sp.rch, fun a s hs => h.sp.wait a s (hp.mem_iff.2 hs), fun a s hs => ?_⟩, h1, h2, h3, by omega, by omega, by omega⟩
  rcases h.sp.pend a s hs with h4 | h4
  · exact .inl (hp.mem_iff.1 h4)
  · exact .inr h4
theorem SeaE.done {nm : Nat} {T : Int → Option Int} {X : List Int} {lo : Int} {G : Nat} (h0 : 0 ≤ now) (h : SeaE l size no q now nm T [] X lo G) : Early l size no q now T := h.sp.done h0
theorem SeaR.told {nm : Nat} {T : Int → Option Int} {H : List (Int × Int)} {X : List Int} {n t : Int} {g : Nat} (h : SeaR l size no q now nm T H X n t g) : ∃ u, T n = some u ∧ u ≤ t := h.sp.wait n t (List.mem_cons_self ..)
theorem SeaR.stale {nm : Nat} {T : Int → Option Int} {H : List (Int × Int)} {X : List Int} {n t u : Int} {g : Nat} (h : SeaR l size no q now nm T H X n t g) (hu : T n = some u) (hlt : u < t) : SeaE l size no q now nm T H X t (g - 1) := by
  have := h.hl
  have := h.hg
  exact ⟨h.sp.stale (List.Perm.refl _) hu hlt, h.ct, by omega, h.hn, by omega⟩
theorem SeaR.take {nm : Nat} {T : Int → Option Int} {H : List (Int × Int)} {X : List Int} {n t : Int} {g : Nat} {R : List Int} (h : SeaR l size no q now nm T H X n t g) (hT : T n = some t) (hR : RowE l n R) : SeaI l size no q now n t R X g 0 nm T H := by
  have h1 := leftE_take l (h.new hT)
  rw [← hR.len] at h1
  have := h.hl
  have := h.hg
  have := h.hn
  exact ⟨h.sp.pop (List.Perm.refl _) hT, h.ct.take hT h.out (h.new hT), by omega, by omega, by omega⟩
theorem SeaI.skip {n t : Int} {R X : List Int} {g j nm i : Nat} {T : Int → Option Int} {H : List (Int × Int)} (h : SeaI l size no q now n t R X g j nm T H) (hj : j < R.length) (hi : R.getD j 0 = (i : Int)) (hs : ∀ s a, no (gEd l i).tn = false → (gEd l i).pass t size = some (s, a) → lessT T (gEd l i).tn a = false) : SeaI l size no q now n t R X g (j + 1) nm T H := by
  have := h.hl
  have := h.hg
  have := h.hn
  exact ⟨by rw [psE_next (n := n) hj hi]; exact h.at_.skip hs, h.ct, by omega, by omega, by omega⟩
theorem SeaI.push {n t s a : Int} {R X : List Int} {g j nm i : Nat} {T : Int → Option Int} {H : List (Int × Int)} (h : SeaI l size no q now n t R X g j nm T H) (hj : j < R.length) (hi : R.getD j 0 = (i : Int)) (hil : i < l.length) (hok : (gEd l i).ok = true) (hf : (gEd l i).fr = n) (hn : no (gEd l i).tn = false) (hq : no q = true) (hp : (gEd l i).pass t size = some (s, a)) (hl : lessT T (gEd l i).tn a = true) :
    SeaI l size no q now n t R X g (j + 1) (nm + 1) (setT T (gEd l i).tn a) (H ++ [((gEd l i).tn, a)]) := by
  have h1 := h.hl
  have h2 := h.hg
  have h3 := h.hn
  have hne := (Ed.ok_spec.1 hok).2.2.2.1
  have hH : (H ++ [((gEd l i).tn, a)]).Perm (((gEd l i).tn, a) :: H) := List.perm_append_comm
  have hpf := pass_facts hp
  refine ⟨by rw [psE_next (n := n) hj hi]; exact h.at_.push (gEd_mem hil) hf (fun e => hne (by rw [hf, e])) hn hq hp hl hH, (h.ct.push h.at_.wait (by omega) hl hH).1, ?_, by omega, ?_⟩
  · rw [List.length_append]; simp; omega
  · rw [List.length_append]; simp; omega
theorem SeaI.end_ {n t : Int} {R X : List Int} {g nm : Nat} {T : Int → Option Int} {H : List (Int × Int)} (h : SeaI l size no q now n t R X g R.length nm T H) (hR : RowE l n R) : SeaE l size no q now nm T H (n :: X) t (g - 1) := by
  have h1 := h.hl
  have h2 := h.hg
  have h3 := h.hn
  refine ⟨h.at_.end_ fun e he hf => ?_, h.ct, by omega, by omega, by omega⟩
  have := hR.all e he hf
  unfold psE
  rw [List.take_of_length_le (Nat.le_refl _)]
  exact this
end
end Go.Proofs.Ytblihpghalhjoaa
