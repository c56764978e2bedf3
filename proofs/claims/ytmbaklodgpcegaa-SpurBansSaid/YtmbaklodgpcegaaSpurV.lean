/- spur.Route's contract, the answer spelt as a slice; facts for the laws. -/
import Derived.Test.YtmbaklodgpcegaaSpur2
import Derived.Test.YtmbaklodgpcegaaLeastLaw
namespace Go.Proofs.Ytmbaklodgpcegaa
open Go.ChangeShapes Go.WideShapes Go.ChangeAt Go.RowKit Go.Sort Go.Maps Hp
set_option linter.unusedSimpArgs false
set_option linter.unusedVariables false
theorem sproute_v (A : Option Addr) (n c : Nat) (l : List Ed) (Ar : Option Addr) (nr cr : Nat) (root : List Int) (Ab : Option Addr) (nb cb : Nat) (bans : List Int) (f q now size by_ : Int) (w : World) (hd : l.length = n) (hn : n ≤ 1000) (hdr : root.length = nr) (hnr : nr ≤ 1000) (hwr : ∀ k, k < nr → (Lit.int .i64 (root.getD k 0)).wf = true) (hdb : bans.length = nb) (hnb : nb ≤ 100000) (hwb : ∀ k, k < nb → (Lit.int .i64 (bans.getD k 0)).wf = true) (hle : Sl w w.heap.size 8 A n c (flatEd l)) (hlr : Sl w w.heap.size 1 Ar nr cr (root.map (Value.int .i64))) (hlb : Sl w w.heap.size 1 Ab nb cb (bans.map (Value.int .i64)))
    (o : Option (List Hp × Int)) (ho : spurX l root bans f q now size by_ = o) (t : Int) (ht : bestV o = t) (H : List Hp) (hH : bestH o = H) (b : Bool) (hb0 : o.isSome = b) :
    Calls Try.prog 8 #[.slice A n c, .slice Ar nr cr, .slice Ab nb cb, .int .i64 f, .int .i64 q, .int .i64 now, .int .i64 size, .int .i64 by_] w fun e w' => ∃ Av nv cv, e = .returned (.tuple #[.agg #[.slice Av nv cv, .int .i64 t], .bool b]) ∧ H.length = nv ∧ nv ≤ n ∧ Sl w' w'.heap.size 3 Av nv cv (flatHp H) ∧ Below w.heap.size w w' := by
  refine (sproute_any A n c l Ar nr cr root Ab nb cb bans f q now size by_ w hd hn hdr hnr hwr hdb hnb hwb hle hlr hlb o ho t ht H hH b hb0).mono ?_
  rintro e w' ⟨v, rfl, hv, hbw⟩
  obtain ⟨Av, cv, rfl⟩ := slice_of_own hv
  refine ⟨Av, _, cv, rfl, rfl, ?_, Sl.of_own hv, hbw⟩
  subst hH
  cases o with
  | none => exact Nat.zero_le _
  | some p => rw [← hd]; exact spurX_len ho
section
variable {l : List Ed} {root bans : List Int} {f q now size by_ : Int}
theorem goes_nil (ids : List Int) : goesB [] [] ids = true := goesB_spec.2 ⟨ids, rfl, fun _ _ h => by cases h⟩
theorem spur_bare : spurX l [] [] f q now size by_ = bestX l f q now size by_ [] := by
  cases ho : bestX l f q now size by_ [] with
  | none => exact spurX_no fun ha es u hr _ => bestX_none ho ha hr
  | some p =>
    obtain ⟨ha, es, h1, h2⟩ := bestX_some ho
    have hS : Spur1 l [] [] f q now size by_ es p.2 := ⟨h2.rte, h2.le, goes_nil _, fun es' u' hr hu _ => h2.min es' u' hr hu⟩
    rw [spurX_of ha hS, ← h1]
theorem spurX_wf {o : Option (List Hp × Int)} (ho : spurX l root bans f q now size by_ = o) : ∀ i ∈ (bestH o).map Hp.id, (Lit.int .i64 i).wf = true := by
  cases o with
  | none => intro i hi; cases hi
  | some p =>
    obtain ⟨ha, es, h1, h2⟩ := spurX_some ho
    show ∀ i ∈ p.1.map Hp.id, _
    rw [h1, hopsE_ids]
    exact wfI_ids (askE_spec.1 ha).2.2.2 h2.rte.mem
theorem rte_node {es : List Ed} {u : Int} {sh : List Int} (ha : askE l f now size = true) (h : IsRte l f q now size sh es u) : nodeB q = true := by
  unfold nodeB inB
  exact decide_eq_true (runE_in255 (askE_spec.1 ha).1 h.run)
/-- What is answered is the route of its IDs, that goes on from root. -/
theorem spurX_route {p : List Hp × Int} (ho : spurX l root bans f q now size by_ = some p) : routeE l (p.1.map Hp.id) f q now size = some p ∧ p.2 ≤ by_ ∧ goesB root bans (p.1.map Hp.id) = true := by
  obtain ⟨ha, es, h1, h2⟩ := spurX_some ho
  have h3 := h2.rte.route ha (rte_node ha h2.rte)
  have h4 : p.1.map Hp.id = es.map Ed.id := by rw [h1, hopsE_ids]
  refine ⟨by rw [h4, h3, ← h1], h2.le, by rw [h4]; exact h2.goes⟩
theorem spur_cmp {p : List Hp × Int} {es' : List Ed} {u' : Int} (ho : spurX l root bans f q now size by_ = some p) (hr : IsRte l f q now size [] es' u') (hu : u' ≤ by_) (hg : goesB root bans (es'.map Ed.id) = true) :
    cmpR p.2 p.1 u' (hopsE size now es') ≤ 0 ∧ (cmpR p.2 p.1 u' (hopsE size now es') = 0 → p = (hopsE size now es', u')) := by
  obtain ⟨ha, es, h1, h2⟩ := spurX_some ho
  rw [cmpR_key, h1, keyR_hops, keyR_hops]
  refine ⟨h2.min es' u' hr hu hg, fun h0 => ?_⟩
  have h3 : (es, p.2) = (es', u') := key_inj (askE_spec.1 ha).2.2.2 h2.rte.mem hr.mem h0
  injection h3 with h4 h5
  exact Prod.ext (by rw [h1, h4]) h5
theorem goes_more {k : Int} {more ids : List Int} (h : goesB root (bans ++ more) ids = true) : goesB root bans ids = true := by
  obtain ⟨r, h1, h2⟩ := goesB_spec.1 h
  exact goesB_spec.2 ⟨r, h1, fun i hi hc => h2 i hi (List.mem_append.2 (.inl hc))⟩
/-- The best way on goes by its next ID. -/
theorem parts_next {p : List Hp × Int} {k : Int} {r : List Int} (ho : spurX l root bans f q now size by_ = some p) (hi : p.1.map Hp.id = root ++ k :: r) : spurX l (root ++ [k]) [] f q now size by_ = some p := by
  obtain ⟨ha, es, h1, h2⟩ := spurX_some ho
  have h4 : es.map Ed.id = root ++ k :: r := by rw [← hi, h1, hopsE_ids]
  have hk : k ∉ bans := by
    obtain ⟨r', h5, h6⟩ := goesB_spec.1 h2.goes
    rw [h4] at h5
    have h7 := List.append_cancel_left h5
    exact h6 k (by rw [← h7]; simp)
  have hS : Spur1 l (root ++ [k]) [] f q now size by_ es p.2 := by
    refine ⟨h2.rte, h2.le, goesB_spec.2 ⟨r, by rw [h4]; simp, fun _ _ h => by cases h⟩, fun es' u' hr hu hg => h2.min es' u' hr hu ?_⟩
    obtain ⟨r', h5, _⟩ := goesB_spec.1 hg
    refine goesB_spec.2 ⟨k :: r', by rw [h5]; simp, fun i hi => ?_⟩
    have : k = i := by simpa using hi
    subst this
    exact hk
  rw [spurX_of ha hS, ← h1]
/-- .. and any other one is behind it. -/
theorem parts_other {p p' : List Hp × Int} {k : Int} {r : List Int} (ho : spurX l root bans f q now size by_ = some p) (hi : p.1.map Hp.id = root ++ k :: r) (ho' : spurX l root (bans ++ [k]) f q now size by_ = some p') : cmpR p.2 p.1 p'.2 p'.1 < 0 := by
  obtain ⟨ha, es, h1, h2⟩ := spurX_some ho'
  obtain ⟨h3, h4⟩ := spur_cmp ho h2.rte h2.le (goes_more (k := k) h2.goes)
  rw [← h1] at h3 h4
  rcases Int.lt_or_le (cmpR p.2 p.1 p'.2 p'.1) 0 with h5 | h5
  · exact h5
  · exfalso
    have h6 := h4 (by omega)
    obtain ⟨r', h7, h8⟩ := goesB_spec.1 h2.goes
    have h9 : es.map Ed.id = root ++ k :: r := by rw [← hi, h6]; show _ = p'.1.map Hp.id; rw [h1, hopsE_ids]
    rw [h9] at h7
    have h10 := List.append_cancel_left h7
    exact h8 k (by rw [← h10]; simp) (by simp)
/-- Of a route that goes on so none is behind the best way on. -/
theorem spur_beats {ids : List Int} {p : List Hp × Int} (h : routeE l ids f q now size = some p) (hle : p.2 ≤ by_) (hg : goesB root bans ids = true) : ∃ p', spurX l root bans f q now size by_ = some p' ∧ cmpR p'.2 p'.1 p.2 p.1 ≤ 0 := by
  obtain ⟨es, hr, hi, h1, ha, _⟩ := rte_of_route h
  cases ho : spurX l root bans f q now size by_ with
  | none => have := spurX_none ho ha hr (by rw [hi]; exact hg); omega
  | some p' =>
    refine ⟨p', rfl, ?_⟩
    have h2 := (spur_cmp ho hr hle (by rw [hi]; exact hg)).1
    rw [← h1] at h2
    exact h2
/-- With more bans there is no better way on. -/
theorem bans_none {more : List Int} (ho : spurX l root bans f q now size by_ = none) : spurX l root (bans ++ more) f q now size by_ = none :=
  spurX_no fun ha es u hr hg => spurX_none ho ha hr (goes_more (k := 0) hg)
theorem bans_hit {p p' : List Hp × Int} {more : List Int} (ho : spurX l root bans f q now size by_ = some p) (hl : root.length < (p.1.map Hp.id).length) (hm : (p.1.map Hp.id).getD root.length 0 ∈ more) (ho' : spurX l root (bans ++ more) f q now size by_ = some p') : cmpR p.2 p.1 p'.2 p'.1 < 0 := by
  obtain ⟨ha, es, h1, h2⟩ := spurX_some ho'
  obtain ⟨h3, h4⟩ := spur_cmp ho h2.rte h2.le (goes_more (k := 0) h2.goes)
  rw [← h1] at h3 h4
  rcases Int.lt_or_le (cmpR p.2 p.1 p'.2 p'.1) 0 with h5 | h5
  · exact h5
  · exfalso
    have h6 := h4 (by omega)
    obtain ⟨r', h7, h8⟩ := goesB_spec.1 h2.goes
    have h9 : es.map Ed.id = p.1.map Hp.id := by rw [h6]; show _ = p'.1.map Hp.id; rw [h1, hopsE_ids]
    rw [h9] at h7
    rw [h7] at hl hm
    cases r' with
    | nil => simp at hl
    | cons j s =>
      have h10 : (root ++ j :: s).getD root.length 0 = j := by simp [List.getD_eq_getElem?_getD]
      rw [h10] at hm
      exact h8 j (by simp) (List.mem_append.2 (.inr hm))
theorem bans_miss {p : List Hp × Int} {more : List Int} (ho : spurX l root bans f q now size by_ = some p) (hm : root.length < (p.1.map Hp.id).length → (p.1.map Hp.id).getD root.length 0 ∉ more) : spurX l root (bans ++ more) f q now size by_ = some p := by
  obtain ⟨ha, es, h1, h2⟩ := spurX_some ho
  have h3 : p.1.map Hp.id = es.map Ed.id := by rw [h1, hopsE_ids]
  rw [h3] at hm
  have hS : Spur1 l root (bans ++ more) f q now size by_ es p.2 := by
    refine ⟨h2.rte, h2.le, ?_, fun es' u' hr hu hg => h2.min es' u' hr hu (goes_more (k := 0) hg)⟩
    obtain ⟨r, h4, h5⟩ := goesB_spec.1 h2.goes
    refine goesB_spec.2 ⟨r, h4, fun i hi hc => ?_⟩
    rcases List.mem_append.1 hc with h6 | h6
    · exact h5 i hi h6
    · rw [h4] at hm
      cases r with
      | nil => cases hi
      | cons j s =>
        have : j = i := by simpa using hi
        subst this
        exact hm (by simp) (by simpa [List.getD_eq_getElem?_getD] using h6)
  rw [spurX_of ha hS, ← h1]
end
end Go.Proofs.Ytmbaklodgpcegaa
