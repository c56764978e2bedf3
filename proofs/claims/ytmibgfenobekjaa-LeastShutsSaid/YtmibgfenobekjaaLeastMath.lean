/- The best route: with the fewest edges, and of those by the first edges that fit, one after the other. Plain facts. -/
import Derived.Test.YtmibgfenobekjaaGQ19
namespace Go.Proofs.Ytmibgfenobekjaa
open Go.ChangeShapes Go.WideShapes Go.ChangeAt Go.RowKit Go.Sort Hp
set_option linter.unusedSimpArgs false
set_option linter.unusedVariables false
/-- An edge from n, where one is ready at t, to where one is in time with k edges more. -/
def fitE (l : List Ed) (size : Int) (op : Int → Bool) (q by_ : Int) (k : Nat) (n t : Int) (e : Ed) : Bool :=
  e.fr == n && (match e.pass t size with | none => false | some p => op e.tn && (match lateL l size op q by_ k e.tn with | none => false | some v => decide (p.2 ≤ v)))
theorem fitE_spec {l : List Ed} {size : Int} {op : Int → Bool} {q by_ : Int} {k : Nat} {n t : Int} {e : Ed} : fitE l size op q by_ k n t e = true ↔ e.fr = n ∧ ∃ s a v, e.pass t size = some (s, a) ∧ op e.tn = true ∧ lateL l size op q by_ k e.tn = some v ∧ a ≤ v := by
  unfold fitE
  constructor
  · intro h
    rw [Bool.and_eq_true, beq_iff_eq] at h
    obtain ⟨h1, h2⟩ := h
    cases hp : e.pass t size with
    | none => rw [hp] at h2; cases h2
    | some p =>
      rw [hp] at h2
      simp only [Bool.and_eq_true] at h2
      obtain ⟨h3, h4⟩ := h2
      cases hv : lateL l size op q by_ k e.tn with
      | none => rw [hv] at h4; cases h4
      | some v => rw [hv] at h4; exact ⟨h1, p.1, p.2, v, rfl, h3, rfl, of_decide_eq_true h4⟩
  · rintro ⟨h1, s, a, v, hp, ho, hv, hle⟩
    rw [hp, hv, ho, beq_iff_eq.2 h1]
    simpa using hle
def bestE (l : List Ed) (size : Int) (op : Int → Bool) (q by_ : Int) : Nat → Int → Int → Option (List Ed)
  | 0, _, _ => some []
  | k + 1, n, t => (l.find? (fitE l size op q by_ k n t)).bind fun e => (e.pass t size).bind fun p => (bestE l size op q by_ k e.tn p.2).map (e :: ·)
/-- Who is at n, ready at t, is in time with k edges, and with no fewer. -/
structure FewAt (l : List Ed) (size : Int) (op : Int → Bool) (q by_ : Int) (k : Nat) (n t : Int) : Prop where
  ge : 0 ≤ t
  le : ∃ v, lateL l size op q by_ k n = some v ∧ t ≤ v
  min : ∀ j, j < k → ∀ u, lateL l size op q by_ j n = some u → u < t
section
variable {l : List Ed} {size : Int} {op : Int → Bool} {q by_ : Int}
theorem FewAt.zero {n t : Int} (h : FewAt l size op q by_ 0 n t) : n = q ∧ t ≤ by_ := by
  obtain ⟨v, hv, hle⟩ := h.le
  unfold lateL oneT at hv
  split at hv
  · rename_i e
    injection hv with hv
    exact ⟨e, by omega⟩
  · cases hv
theorem FewAt.ne {k : Nat} {n t : Int} (h0 : 0 ≤ by_) (h : FewAt l size op q by_ (k + 1) n t) : n ≠ q := by
  rintro rfl
  have h1 := h.min 0 (by omega) by_ (lateL_end 0)
  obtain ⟨v, hv, hle⟩ := h.le
  have := lateL_bounds h0 _ _ _ hv
  omega
/-- An edge that fits leads to where one edge fewer is needed. -/
theorem FewAt.next {k : Nat} {n t s a : Int} {e : Ed} (h0 : 0 ≤ by_) (hb : by_ ≤ 1099511627776) (h : FewAt l size op q by_ (k + 1) n t) (he : e ∈ l) (hf : fitE l size op q by_ k n t e = true) (hp : e.pass t size = some (s, a)) : FewAt l size op q by_ k e.tn a := by
  obtain ⟨h1, s', a', v, hp', ho, hv, hle⟩ := fitE_spec.1 hf
  rw [hp] at hp'
  injection hp' with hp'
  injection hp' with _ e2
  subst e2
  have hpf := pass_facts hp
  have hge := h.ge
  refine ⟨by omega, ⟨v, hv, hle⟩, fun j hj u hu => ?_⟩
  rcases Int.lt_or_le u a with h2 | h2
  · exact h2
  · have hub := lateL_bounds h0 j _ _ hu
    obtain ⟨x, hx, htx⟩ := lat_complete hp h2 (by omega)
    obtain ⟨w, hw, hxw⟩ := (lateL_step (by_ := by_) j).edge e he (by rw [h1]; exact h.ne h0) ho u x hu hx
    rw [h1] at hw
    have := h.min (j + 1) (by omega) w hw
    omega
/-- There is one that fits. -/
theorem FewAt.fit {k : Nat} {n t : Int} (h0 : 0 ≤ by_) (hb : by_ ≤ 1099511627776) (h : FewAt l size op q by_ (k + 1) n t) : ∃ e ∈ l, fitE l size op q by_ k n t e = true := by
  obtain ⟨v, hv, hle⟩ := h.le
  obtain ⟨es, u, h1, h2, h3, h4⟩ := lateL_sound (k + 1) hv h.ge hle
  cases es with
  | nil =>
    injection h3 with h3
    injection h3 with e1 _
    exact absurd e1 (h.ne h0)
  | cons e r =>
    obtain ⟨s, a, hf, hn, hp, hr⟩ := runE_cons h3
    obtain ⟨w, hw, hle2⟩ := lateL_complete hb h0 k (fun x hx => h1 x (List.mem_cons_of_mem _ hx)) (by simp at h2; omega) hr h4
    exact ⟨e, h1 e (List.mem_cons_self ..), fitE_spec.2 ⟨hf, s, a, w, hp, by simpa using hn, hw, hle2⟩⟩
/-- The best way on: it is one, by k edges, in time. -/
theorem bestE_is (h0 : 0 ≤ by_) (hb : by_ ≤ 1099511627776) : ∀ (k : Nat) {n t : Int}, FewAt l size op q by_ k n t → ∃ es u, bestE l size op q by_ k n t = some es ∧ (∀ e ∈ es, e ∈ l) ∧ es.length = k ∧ runE size (fun y => !op y) n t es = some (q, u) ∧ u ≤ by_
  | 0, n, t, h => by
    obtain ⟨rfl, hle⟩ := h.zero
    exact ⟨[], t, rfl, by simp, rfl, rfl, hle⟩
  | k + 1, n, t, h => by
    obtain ⟨e0, he0, hf0⟩ := h.fit h0 hb
    cases hfind : l.find? (fitE l size op q by_ k n t) with
    | none => exact absurd hf0 (by simpa using List.find?_eq_none.1 hfind e0 he0)
    | some e =>
      have he := List.mem_of_find?_eq_some hfind
      have hf := List.find?_some hfind
      obtain ⟨h1, s, a, v, hp, ho, hv, hle⟩ := fitE_spec.1 hf
      obtain ⟨es, u, g1, g2, g3, g4, g5⟩ := bestE_is h0 hb k (h.next h0 hb he hf hp)
      refine ⟨e :: es, u, by rw [bestE, hfind]; simp only [Option.bind, hp, g1, Option.map], fun x hx => ?_, by simp [g3], ?_, g5⟩
      · rcases List.mem_cons.1 hx with rfl | h2
        · exact he
        · exact g2 x h2
      · rw [runE_step h1 (by simp [ho]) hp]; exact g4
/-- It comes nowhere twice. -/
theorem bestE_apart (h0 : 0 ≤ by_) (hb : by_ ≤ 1099511627776) : ∀ (k : Nat) {n t : Int} {es : List Ed}, FewAt l size op q by_ k n t → bestE l size op q by_ k n t = some es → (nodesE n es).Nodup ∧ ∀ m ∈ es.map Ed.tn, ∃ j a, j < k ∧ t ≤ a ∧ FewAt l size op q by_ j m a
  | 0, n, t, es, h, he => by
    injection he with he
    subst he
    exact ⟨by simp [nodesE], by simp⟩
  | k + 1, n, t, es, h, he => by
    rw [bestE] at he
    cases hfind : l.find? (fitE l size op q by_ k n t) with
    | none => rw [hfind] at he; cases he
    | some e =>
      rw [hfind] at he
      have hel := List.mem_of_find?_eq_some hfind
      have hf := List.find?_some hfind
      obtain ⟨h1, s, a, v, hp, ho, hv, hle⟩ := fitE_spec.1 hf
      simp only [Option.bind, hp] at he
      cases hr : bestE l size op q by_ k e.tn a with
      | none => rw [hr] at he; cases he
      | some rs =>
        rw [hr] at he
        injection he with he
        subst he
        have hn := h.next h0 hb hel hf hp
        have hpf := pass_facts hp
        obtain ⟨g1, g2⟩ := bestE_apart h0 hb k hn hr
        have key : ∀ m ∈ (e :: rs).map Ed.tn, ∃ j b, j < k + 1 ∧ t ≤ b ∧ FewAt l size op q by_ j m b := fun m hm => by
          rw [List.map_cons] at hm
          rcases List.mem_cons.1 hm with rfl | h2
          · exact ⟨k, a, by omega, by omega, hn⟩
          · obtain ⟨j, b, hj, hb2, hfw⟩ := g2 m h2
            exact ⟨j, b, by omega, by omega, hfw⟩
        refine ⟨?_, key⟩
        rw [nodesE_cons]
        refine List.nodup_cons.2 ⟨fun hm => ?_, g1⟩
        have hm' : n ∈ (e :: rs).map Ed.tn := hm
        obtain ⟨j, b, hj, hb2, hfw⟩ := key n hm'
        obtain ⟨v2, hv2, hle2⟩ := hfw.le
        have := h.min j hj v2 hv2
        omega
end
/-- In order by their first numbers, or the same ones. -/
def lexI : List Int → List Int → Prop
  | [], _ => True
  | _ :: _, [] => False
  | x :: r, y :: s => x < y ∨ (x = y ∧ lexI r s)
theorem find_first {l : List Ed} (hr : rightE l = true) {p : Ed → Bool} {e e' : Ed} (h : l.find? p = some e) (he' : e' ∈ l) (hp : p e' = true) : e.id < e'.id ∨ e = e' := by
  obtain ⟨hpe, i, hi, hie, hb⟩ := List.find?_eq_some_iff_getElem.1 h
  obtain ⟨j, hj, hje⟩ := List.getElem_of_mem he'
  rcases Nat.lt_trichotomy i j with e1 | e1 | e1
  · have := rightE_lt hr j i e1 hj
    rw [gEd_eq hi, gEd_eq hj, hie, hje] at this
    exact .inl this
  · subst e1
    exact .inr (by rw [← hie, hje])
  · have := hb j e1
    rw [hje, hp] at this
    cases this
/-- No way of as many edges, in time, has lesser IDs. -/
theorem bestE_first {l : List Ed} {size : Int} {op : Int → Bool} {q by_ : Int} (hre : rightE l = true) (h0 : 0 ≤ by_) (hb : by_ ≤ 1099511627776) : ∀ (k : Nat) {n t u : Int} {es es' : List Ed}, FewAt l size op q by_ k n t → bestE l size op q by_ k n t = some es → (∀ e ∈ es', e ∈ l) → es'.length = k → runE size (fun y => !op y) n t es' = some (q, u) → u ≤ by_ → lexI (es.map Ed.id) (es'.map Ed.id)
  | 0, n, t, u, es, es', h, he, _, _, _, _ => by
    injection he with he
    subst he
    trivial
  | k + 1, n, t, u, es, [], h, he, _, hl, _, _ => by simp at hl
  | k + 1, n, t, u, es, e' :: r', h, he, hm, hl, hrun, hu => by
    rw [bestE] at he
    obtain ⟨s', a', hf', hn', hp', hr'⟩ := runE_cons hrun
    have hm' : ∀ x ∈ r', x ∈ l := fun x hx => hm x (List.mem_cons_of_mem _ hx)
    obtain ⟨w, hw, hle2⟩ := lateL_complete hb h0 k hm' (by simp at hl; omega) hr' hu
    have hfit' : fitE l size op q by_ k n t e' = true := fitE_spec.2 ⟨hf', s', a', w, hp', by simpa using hn', hw, hle2⟩
    cases hfind : l.find? (fitE l size op q by_ k n t) with
    | none => rw [hfind] at he; cases he
    | some e =>
      rw [hfind] at he
      have hel := List.mem_of_find?_eq_some hfind
      have hf := List.find?_some hfind
      obtain ⟨h1, s, a, v, hp, ho, hv, hle⟩ := fitE_spec.1 hf
      simp only [Option.bind, hp] at he
      cases hr : bestE l size op q by_ k e.tn a with
      | none => rw [hr] at he; cases he
      | some rs =>
        rw [hr] at he
        injection he with he
        subst he
        rcases find_first hre hfind (hm e' (List.mem_cons_self ..)) hfit' with h2 | h2
        · exact .inl h2
        · subst h2
          rw [hp] at hp'
          injection hp' with hp'
          injection hp' with _ e2
          subst e2
          exact .inr ⟨rfl, bestE_first hre h0 hb k (h.next h0 hb hel hf hp) hr hm' (by simpa using hl) hr' hu⟩
end Go.Proofs.Ytmibgfenobekjaa
