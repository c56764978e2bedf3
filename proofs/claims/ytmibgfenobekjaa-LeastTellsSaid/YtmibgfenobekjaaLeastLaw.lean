/- The best route's facts for the laws. Plain facts; least.Route's contract with both. -/
import Derived.Test.YtmibgfenobekjaaGQ18
import Derived.Test.YtmibgfenobekjaaEarlyMath3
namespace Go.Proofs.Ytmibgfenobekjaa
open Go.ChangeShapes Go.WideShapes Go.ChangeAt Go.RowKit Go.Sort Go.Maps Hp
set_option linter.unusedSimpArgs false
set_option linter.unusedVariables false
theorem lroute_b (A : Option Addr) (n c : Nat) (l : List Ed) (f q now size by_ : Int) (As : Option Addr) (ns cs : Nat) (sh : List Int) (w : World) (hd : l.length = n) (hn : n ≤ 1000) (hds : sh.length = ns) (hns : ns ≤ 100000) (hwf : ∀ k, k < ns → (Lit.int .i64 (sh.getD k 0)).wf = true) (hle : Sl w w.heap.size 8 A n c (flatEd l)) (hls : Sl w w.heap.size 1 As ns cs (sh.map (Value.int .i64)))
    (o : Option (List Hp × Int)) (ho : bestX l f q now size by_ sh = o) (t : Int) (ht : bestV o = t) (H : List Hp) (hH : bestH o = H) (b : Bool) (hb : o.isSome = b) :
    Calls Try.prog 9 #[.slice A n c, .int .i64 f, .int .i64 q, .int .i64 now, .int .i64 size, .int .i64 by_, .slice As ns cs] w fun e w' => ∃ Av nv cv, IsBestR l f q now size by_ sh o ∧ e = .returned (.tuple #[.agg #[.slice Av nv cv, .int .i64 t], .bool b]) ∧ H.length = nv ∧ nv ≤ n ∧ Sl w' w'.heap.size 3 Av nv cv (flatHp H) ∧ Below w.heap.size w w' := by
  subst ht hH hb
  refine (lroute_any A n c l f q now size by_ As ns cs sh w hd hn hds hns hwf hle hls).mono ?_
  rintro e w' ⟨v, o', hI, rfl, hv, hbw⟩
  obtain rfl : o' = o := (bestX_is hI).trans ho
  obtain ⟨Av, cv, rfl⟩ := slice_of_own hv
  refine ⟨Av, _, cv, hI, rfl, rfl, ?_, Sl.of_own hv, hbw⟩
  cases o' with
  | none => exact Nat.zero_le _
  | some p => rw [← hd]; exact bestX_len ho
section
variable {l : List Ed} {f q now size by_ : Int} {sh : List Int}
/-- Who may be there at the earliest time may be so with some number of edges. -/
theorem few_not {r : List (Int × Int)} {a : Int} (hT : IsTimes l f now size sh r) (hq : atR r q = some a) : ¬ IsFew l size (opn sh q) q a f now none := fun hF => by
  obtain ⟨hask, hqn, hge, ha40⟩ := hT.lim hq
  obtain ⟨hf, ⟨hn0, hn1⟩, hsz, hre⟩ := askE_spec.1 hask
  obtain ⟨e0, hm0, hr0⟩ := (hT.yes hask).rch q a hq
  have hop0 : ∀ y ∈ e0.map Ed.tn, (!(opn sh q y)) = false := fun y hy => by
    have h1 := runE_entered hr0 y hy
    have h2 : sh.contains y = false := by
      cases hc : sh.contains y with
      | false => rfl
      | true => rw [shutE_mem (List.contains_iff_mem.1 hc)] at h1; cases h1
    show (!(y == q || !sh.contains y)) = false
    rw [h2]; simp
  obtain ⟨v, hv, hle⟩ := lateL_complete (l := l) ha40 (by omega) e0.length hm0 (Nat.le_refl _) (runE_open (runE_free hr0) hop0) (Int.le_refl _)
  have := hF e0.length v hv
  omega
theorem first_math {o : Option (List Hp × Int)} {r : List (Int × Int)} (h : IsBestR l f q now size by_ sh o) (hT : IsTimes l f now size sh r) :
    (o = none ∧ ∀ a, atR r q = some a → by_ < a) ∨ ∃ es a k, o = some (hopsE size now es, a) ∧ atR r q = some a ∧ a ≤ by_ ∧ askE l f now size = true ∧ (1 ≤ q ∧ q ≤ 255) ∧ IsFew l size (opn sh q) q a f now (some k) ∧ (hopsE size now es).length = k ∧ Best1 l f q now size by_ sh es a := by
  have hs := best_spec h
  obtain ⟨r', hT', h⟩ := h
  obtain rfl := hT'.one hT
  obtain ⟨v0, hq⟩ : ∃ v0, atR r' q = v0 := ⟨_, rfl⟩
  rw [hq] at h
  cases v0 with
  | none => exact .inl ⟨h, fun a h1 => by rw [hq] at h1; cases h1⟩
  | some a =>
    simp only at h
    by_cases hby : by_ < a
    · rw [if_pos hby] at h
      exact .inl ⟨h, fun a' h1 => by rw [hq] at h1; injection h1 with h1; omega⟩
    · rw [if_neg hby] at h
      obtain ⟨g, hF, h⟩ := h
      cases g with
      | none => exact absurd hF (few_not hT hq)
      | some k =>
        obtain ⟨es', hes', rfl⟩ := h
        obtain ⟨hask, es, h1, h2⟩ := hs
        obtain ⟨_, hqn, _, ha40⟩ := hT.lim hq
        obtain ⟨_, ⟨hn0, _⟩, _, _⟩ := askE_spec.1 hask
        have h1' : hopsE size now es' = hopsE size now es := h1
        obtain ⟨es2, uu, g1, _, hlen, _⟩ := bestE_is (l := l) (size := size) (op := opn sh q) (q := q) (by omega) ha40 k (IsFew.few hn0 hF)
        rw [hes'] at g1
        injection g1 with g1
        subst g1
        refine .inr ⟨es, a, k, by rw [h1'], hq, by omega, hask, hqn, hF, ?_, h2⟩
        rw [← h1', hopsE_length, hlen]
theorem Best1.route {es : List Ed} {a : Int} (hq : 1 ≤ q ∧ q ≤ 255) (ha : askE l f now size = true) (h : Best1 l f q now size by_ sh es a) : routeE l ((hopsE size now es).map Hp.id) f q now size = some (hopsE size now es, a) := by
  rw [hopsE_ids]
  exact h.rte.route ha (by unfold nodeB inB; exact decide_eq_true hq)
end
theorem beats_math {l : List Ed} {f q now size by_ a' : Int} {es' : List Ed} {o : Option (List Hp × Int)} (ho : bestX l f q now size by_ [] = o) (ha : askE l f now size = true) (hr : IsRte l f q now size [] es' a') (hle : a' ≤ by_) :
    ∃ H a, o = some (H, a) ∧ cmpR a H a' (hopsE size now es') ≤ 0 ∧ (cmpR a H a' (hopsE size now es') = 0 → a = a' ∧ H = hopsE size now es') := by
  cases o with
  | none => have := bestX_none ho ha hr; omega
  | some p =>
    obtain ⟨_, es, h1, h2⟩ := bestX_some ho
    refine ⟨p.1, p.2, rfl, ?_, ?_⟩
    · rw [cmpR_key, h1, keyR_hops, keyR_hops]
      exact h2.min es' a' hr hle
    · intro h0
      rw [cmpR_key, h1, keyR_hops, keyR_hops] at h0
      have h3 : (es, p.2) = (es', a') := key_inj (askE_spec.1 ha).2.2.2 h2.rte.mem hr.mem h0
      injection h3 with h4 h5
      exact ⟨h5, by rw [h1, h4]⟩
theorem IsRte.less {l : List Ed} {f q now size later more u : Int} {sh : List Int} {es : List Ed} (h0 : 0 ≤ now) (h1 : now ≤ later) (h2 : 0 ≤ size) (h3 : size ≤ more) (h : IsRte l f q later more sh es u) : ∃ u', IsRte l f q now size sh es u' ∧ u' ≤ u := by
  obtain ⟨u', hr, hle⟩ := runE_less h2 h3 h0 h1 h.run
  exact ⟨u', ⟨h.mem, h.nd, h.no, hr⟩, hle⟩
theorem cmp_head {a b : Int} {x y : List Int} (h : cmpL (a :: x) (b :: y) ≤ 0) : a ≤ b := by
  rcases Int.lt_or_le b a with h1 | h1
  · have h2 := cmp_first (x := y) (y := x) h1
    have := cmpL_anti (a :: x) (b :: y)
    omega
  · exact h1
theorem later_math {l : List Ed} {f q now size by_ later more sooner : Int} {o o' : Option (List Hp × Int)} (h0 : 0 ≤ now) (h1 : now ≤ later) (h2 : 0 ≤ size) (h3 : size ≤ more) (h4 : sooner ≤ by_) (ho : bestX l f q now size by_ [] = o) (ho' : bestX l f q later more sooner [] = o') {p : List Hp × Int} (hp : o' = some p) : ∃ H a, o = some (H, a) ∧ a ≤ p.2 ∧ p.2 ≤ sooner := by
  subst hp
  obtain ⟨ha', es, g1, g2⟩ := bestX_some ho'
  obtain ⟨u', hr, hle⟩ := g2.rte.less h0 h1 h2 h3
  have hs := g2.le
  obtain ⟨q1, q2, q3, q4⟩ := askE_spec.1 ha'
  have ha : askE l f now size = true := askE_spec.2 ⟨q1, by omega, by omega, q4⟩
  obtain ⟨H, a, rfl, hc, _⟩ := beats_math ho ha hr (by omega)
  rw [cmpR_key] at hc
  have := cmp_head hc
  exact ⟨H, a, rfl, by omega, hs⟩
theorem IsRte.bare {l : List Ed} {f q now size u : Int} {sh : List Int} {es : List Ed} (h : IsRte l f q now size sh es u) : IsRte l f q now size [] es u := ⟨h.mem, h.nd, (fun _ _ hy => by cases hy), h.run⟩
/-- With some nodes shut. -/
theorem shuts_none {l : List Ed} {f q now size by_ : Int} {sh : List Int} {o o' : Option (List Hp × Int)} (ho : bestX l f q now size by_ sh = o) (ho' : bestX l f q now size by_ [] = o') (hn : o' = none) : o = none := by
  subst hn
  cases o with
  | none => rfl
  | some p =>
    obtain ⟨ha, es, _, h2⟩ := bestX_some ho
    have := bestX_none ho' ha h2.rte.bare
    have := h2.le
    omega
theorem shuts_same {l : List Ed} {f q now size by_ : Int} {sh : List Int} {o : Option (List Hp × Int)} (ho : bestX l f q now size by_ sh = o) {es : List Ed} {a : Int} (ha : askE l f now size = true) (hB : Best1 l f q now size by_ [] es a) (hno : ∀ y ∈ es.map Ed.tn, y ∉ sh) : o = some (hopsE size now es, a) := by
  have hr : IsRte l f q now size sh es a := ⟨hB.rte.mem, hB.rte.nd, hno, hB.rte.run⟩
  cases o with
  | none => have := bestX_none ho ha hr; have := hB.le; omega
  | some p =>
    obtain ⟨_, es', h1, h2⟩ := bestX_some ho
    have h3 : Best1 l f q now size by_ sh es a := ⟨hr, hB.le, fun es2 u2 hr2 hu2 => hB.min es2 u2 hr2.bare hu2⟩
    obtain ⟨e1, e2⟩ := h2.one (askE_spec.1 ha).2.2.2 h3
    rw [← e1, ← e2, ← h1]
theorem shuts_cmp {l : List Ed} {f q now size by_ : Int} {sh : List Int} {es es' : List Ed} {a a' : Int} (hB : Best1 l f q now size by_ [] es a) (hB' : Best1 l f q now size by_ sh es' a') : cmpR a (hopsE size now es) a' (hopsE size now es') ≤ 0 := by
  rw [cmpR_key, keyR_hops, keyR_hops]
  exact hB.min es' a' hB'.rte.bare hB'.le
theorem bestX_wf {l : List Ed} {f q now size by_ : Int} {sh : List Int} {o : Option (List Hp × Int)} (ho : bestX l f q now size by_ sh = o) : ∀ i ∈ (bestH o).map Hp.id, (Lit.int .i64 i).wf = true := by
  cases o with
  | none => intro i hi; cases hi
  | some p =>
    obtain ⟨ha, es, h1, h2⟩ := bestX_some ho
    show ∀ i ∈ p.1.map Hp.id, _
    rw [h1, hopsE_ids]
    intro i hi
    obtain ⟨e, he, rfl⟩ := List.mem_map.1 hi
    have := (Ed.ok_spec.1 (rightE_ok (askE_spec.1 ha).2.2.2 (h2.rte.mem e he))).1
    exact wfI (by omega)
theorem Best1.ends {l : List Ed} {f q now size by_ : Int} {sh : List Int} {es : List Ed} {a : Int} (ha : askE l f now size = true) (h : Best1 l f q now size by_ sh es a) : endsE l ((hopsE size now es).map Hp.id) f = some (nodesE f es) := by
  rw [hopsE_ids]
  exact endsE_of (askE_ends ha) (runE_follow (askE_spec.1 ha).2.2.2 h.rte.mem h.rte.run).1
theorem nodes_at {f : Int} {es : List Ed} {i : Nat} (h1 : 1 ≤ i) (h2 : i < (nodesE f es).length) : (nodesE f es).getD i 0 ∈ es.map Ed.tn := by
  obtain ⟨j, rfl⟩ : ∃ j, i = j + 1 := ⟨i - 1, by omega⟩
  rw [nodesE_len] at h2
  show (f :: es.map Ed.tn).getD (j + 1) 0 ∈ _
  rw [List.getD_cons_succ, List.getD_eq_getElem?_getD, List.getElem?_eq_getElem (by rw [List.length_map]; omega)]
  exact List.getElem_mem _
theorem nodes_all {f : Int} {es : List Ed} {sh : List Int} (h : ∀ p, 1 ≤ p → p < (nodesE f es).length → (nodesE f es).getD p 0 ∉ sh) : ∀ y ∈ es.map Ed.tn, y ∉ sh := fun y hy => by
  obtain ⟨j, hj, rfl⟩ := List.getElem_of_mem hy
  rw [List.length_map] at hj
  have h1 := h (j + 1) (by omega) (by rw [nodesE_len]; omega)
  have h2 : (nodesE f es).getD (j + 1) 0 = (es.map Ed.tn)[j]'(by rw [List.length_map]; exact hj) := by
    show (f :: es.map Ed.tn).getD (j + 1) 0 = _
    rw [List.getD_cons_succ, List.getD_eq_getElem?_getD, List.getElem?_eq_getElem (by rw [List.length_map]; exact hj)]; rfl
  rw [h2] at h1
  exact h1
theorem getD_memI {l : List Int} {k : Nat} (h : k < l.length) : l.getD k 0 ∈ l := by
  rw [List.getD_eq_getElem?_getD, List.getElem?_eq_getElem h]; exact List.getElem_mem _
theorem mem_getDI {l : List Int} {y : Int} (h : y ∈ l) : ∃ k, k < l.length ∧ l.getD k 0 = y := by
  obtain ⟨k, hk, e⟩ := List.getElem_of_mem h
  exact ⟨k, hk, by rw [List.getD_eq_getElem?_getD, List.getElem?_eq_getElem hk]; exact e⟩
theorem wfI_ids {l : List Ed} {es : List Ed} (hre : rightE l = true) (hm : ∀ e ∈ es, e ∈ l) : ∀ i ∈ es.map Ed.id, (Lit.int .i64 i).wf = true := fun i hi => by
  obtain ⟨e, he, rfl⟩ := List.mem_map.1 hi
  have := (Ed.ok_spec.1 (rightE_ok hre (hm e he))).1
  exact wfI (by omega)
theorem wf_getD {ns : List Int} {n : Nat} (hn : ns.length = n) (hw : ∀ m ∈ ns, (Lit.int .i64 m).wf = true) : ∀ q, q < n → (Lit.int .i64 (ns.getD q 0)).wf = true := fun q hq => by
  rw [List.getD_eq_getElem?_getD, List.getElem?_eq_getElem (by omega)]
  exact hw _ (List.getElem_mem (by omega))
end Go.Proofs.Ytmibgfenobekjaa
