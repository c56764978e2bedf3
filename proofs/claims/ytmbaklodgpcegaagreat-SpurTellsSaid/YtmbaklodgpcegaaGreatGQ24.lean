/- Several texts of mine in one: LeastLaw, SpurV, Ref17c, SpurGo. No condition. -/
import Derived.Test.YtmbaklodgpcegaaGreatGQ19
import Derived.Test.YtmbaklodgpcegaaGreatGQ9
import Derived.Test.YtmbaklodgpcegaaGreatSpur2
import Derived.Test.YtmbaklodgpcegaaGreatRef17b
import Derived.Test.YtmbaklodgpcegaaGreatGQ15

/- The best route's facts for the laws. Plain facts; least.Route's contract with both. -/
namespace Go.Proofs.YtmbaklodgpcegaaGreat
open Go.ChangeShapes Go.WideShapes Go.ChangeAt Go.RowKit Go.Sort Go.Maps Hp
set_option linter.unusedSimpArgs false
set_option linter.unusedVariables false
theorem lroute_b (A : Option Addr) (n c : Nat) (l : List Ed) (f q now size by_ : Int) (As : Option Addr) (ns cs : Nat) (sh : List Int) (w : World) (hd : l.length = n) (hn : n ≤ 1000) (hds : sh.length = ns) (hns : ns ≤ 100000) (hwf : ∀ k, k < ns → (Lit.int .i64 (sh.getD k 0)).wf = true) (hle : Sl w w.heap.size 8 A n c (flatEd l)) (hls : Sl w w.heap.size 1 As ns cs (sh.map (Value.int .i64)))
    (o : Option (List Hp × Int)) (ho : bestX l f q now size by_ sh = o) (t : Int) (ht : bestV o = t) (H : List Hp) (hH : bestH o = H) (b : Bool) (hb : o.isSome = b) :
    Calls Tryz.prog 13 #[.slice A n c, .int .i64 f, .int .i64 q, .int .i64 now, .int .i64 size, .int .i64 by_, .slice As ns cs] w fun e w' => ∃ Av nv cv, IsBestR l f q now size by_ sh o ∧ e = .returned (.tuple #[.agg #[.slice Av nv cv, .int .i64 t], .bool b]) ∧ H.length = nv ∧ nv ≤ n ∧ Sl w' w'.heap.size 3 Av nv cv (flatHp H) ∧ Below w.heap.size w w' := by
  subst ht hH hb
  refine (lroute_any A n c l f q now size by_ As ns cs sh w hd hn hds hns hwf hle hls).mono ?_
  rintro e w' ⟨v, o', hI, rfl, hv, hbw⟩
  obtain rfl : o' = o := (bestX_is hI).trans ho
  obtain ⟨Av, cv, rfl⟩ := slice_of_own hv
  refine ⟨Av, _, cv, hI, rfl, rfl, ?_, Sl.of_own hv, hbw⟩
  cases o' with
  | none => exact Nat.zero_le _
  | some p => rw [← hd]; exact bestX_len ho
section
variable {l : List Ed} {f q now size by_ : Int} {sh : List Int}
/-- Who may be there at the earliest time may be so with some number of edges. -/
theorem few_not {r : List (Int × Int)} {a : Int} (hT : IsTimes l f now size sh r) (hq : atR r q = some a) : ¬ IsFew l size (opn sh q) q a f now none := fun hF => by
  obtain ⟨hask, hqn, hge, ha40⟩ := hT.lim hq
  obtain ⟨hf, ⟨hn0, hn1⟩, hsz, hre⟩ := askE_spec.1 hask
  obtain ⟨e0, hm0, hr0⟩ := (hT.yes hask).rch q a hq
  have hop0 : ∀ y ∈ e0.map Ed.tn, (!(opn sh q y)) = false := fun y hy => by
    have h1 := runE_entered hr0 y hy
    have h2 : sh.contains y = false := by
      cases hc : sh.contains y with
      | false => rfl
      | true => rw [shutE_mem (List.contains_iff_mem.1 hc)] at h1; cases h1
    show (!(y == q || !sh.contains y)) = false
    rw [h2]; simp
  obtain ⟨v, hv, hle⟩ := lateL_complete (l := l) ha40 (by omega) e0.length hm0 (Nat.le_refl _) (runE_open (runE_free hr0) hop0) (Int.le_refl _)
  have := hF e0.length v hv
  omega
theorem first_math {o : Option (List Hp × Int)} {r : List (Int × Int)} (h : IsBestR l f q now size by_ sh o) (hT : IsTimes l f now size sh r) :
    (o = none ∧ ∀ a, atR r q = some a → by_ < a) ∨ ∃ es a k, o = some (hopsE size now es, a) ∧ atR r q = some a ∧ a ≤ by_ ∧ askE l f now size = true ∧ (1 ≤ q ∧ q ≤ 255) ∧ IsFew l size (opn sh q) q a f now (some k) ∧ (hopsE size now es).length = k ∧ Best1 l f q now size by_ sh es a := by
  have hs := best_spec h
  obtain ⟨r', hT', h⟩ := h
  obtain rfl := hT'.one hT
  obtain ⟨v0, hq⟩ : ∃ v0, atR r' q = v0 := ⟨_, rfl⟩
  rw [hq] at h
  cases v0 with
  | none => exact .inl ⟨h, fun a h1 => by rw [hq] at h1; cases h1⟩
  | some a =>
    simp only at h
    by_cases hby : by_ < a
    · rw [if_pos hby] at h
      exact .inl ⟨h, fun a' h1 => by rw [hq] at h1; injection h1 with h1; omega⟩
    · rw [if_neg hby] at h
      obtain ⟨g, hF, h⟩ := h
      cases g with
      | none => exact absurd hF (few_not hT hq)
      | some k =>
        obtain ⟨es', hes', rfl⟩ := h
        obtain ⟨hask, es, h1, h2⟩ := hs
        obtain ⟨_, hqn, _, ha40⟩ := hT.lim hq
        obtain ⟨_, ⟨hn0, _⟩, _, _⟩ := askE_spec.1 hask
        have h1' : hopsE size now es' = hopsE size now es := h1
        obtain ⟨es2, uu, g1, _, hlen, _⟩ := bestE_is (l := l) (size := size) (op := opn sh q) (q := q) (by omega) ha40 k (IsFew.few hn0 hF)
        rw [hes'] at g1
        injection g1 with g1
        subst g1
        refine .inr ⟨es, a, k, by rw [h1'], hq, by omega, hask, hqn, hF, ?_, h2⟩
        rw [← h1', hopsE_length, hlen]
theorem Best1.route {es : List Ed} {a : Int} (hq : 1 ≤ q ∧ q ≤ 255) (ha : askE l f now size = true) (h : Best1 l f q now size by_ sh es a) : routeE l ((hopsE size now es).map Hp.id) f q now size = some (hopsE size now es, a) := by
  rw [hopsE_ids]
  exact h.rte.route ha (by unfold nodeB inB; exact decide_eq_true hq)
end
theorem beats_math {l : List Ed} {f q now size by_ a' : Int} {es' : List Ed} {o : Option (List Hp × Int)} (ho : bestX l f q now size by_ [] = o) (ha : askE l f now size = true) (hr : IsRte l f q now size [] es' a') (hle : a' ≤ by_) :
    ∃ H a, o = some (H, a) ∧ cmpR a H a' (hopsE size now es') ≤ 0 ∧ (cmpR a H a' (hopsE size now es') = 0 → a = a' ∧ H = hopsE size now es') := by
  cases o with
  | none => have := bestX_none ho ha hr; omega
  | some p =>
    obtain ⟨_, es, h1, h2⟩ := bestX_some ho
    refine ⟨p.1, p.2, rfl, ?_, ?_⟩
    · rw [cmpR_key, h1, keyR_hops, keyR_hops]
      exact h2.min es' a' hr hle
    · intro h0
      rw [cmpR_key, h1, keyR_hops, keyR_hops] at h0
      have h3 : (es, p.2) = (es', a') := key_inj (askE_spec.1 ha).2.2.2 h2.rte.mem hr.mem h0
      injection h3 with h4 h5
      exact ⟨h5, by rw [h1, h4]⟩
theorem IsRte.less {l : List Ed} {f q now size later more u : Int} {sh : List Int} {es : List Ed} (h0 : 0 ≤ now) (h1 : now ≤ later) (h2 : 0 ≤ size) (h3 : size ≤ more) (h : IsRte l f q later more sh es u) : ∃ u', IsRte l f q now size sh es u' ∧ u' ≤ u := by
  obtain ⟨u', hr, hle⟩ := runE_less h2 h3 h0 h1 h.run
  exact ⟨u', ⟨h.mem, h.nd, h.no, hr⟩, hle⟩
theorem cmp_head {a b : Int} {x y : List Int} (h : cmpL (a :: x) (b :: y) ≤ 0) : a ≤ b := by
  rcases Int.lt_or_le b a with h1 | h1
  · have h2 := cmp_first (x := y) (y := x) h1
    have := cmpL_anti (a :: x) (b :: y)
    omega
  · exact h1
theorem later_math {l : List Ed} {f q now size by_ later more sooner : Int} {o o' : Option (List Hp × Int)} (h0 : 0 ≤ now) (h1 : now ≤ later) (h2 : 0 ≤ size) (h3 : size ≤ more) (h4 : sooner ≤ by_) (ho : bestX l f q now size by_ [] = o) (ho' : bestX l f q later more sooner [] = o') {p : List Hp × Int} (hp : o' = some p) : ∃ H a, o = some (H, a) ∧ a ≤ p.2 ∧ p.2 ≤ sooner := by
  subst hp
  obtain ⟨ha', es, g1, g2⟩ := bestX_some ho'
  obtain ⟨u', hr, hle⟩ := g2.rte.less h0 h1 h2 h3
  have hs := g2.le
  obtain ⟨q1, q2, q3, q4⟩ := askE_spec.1 ha'
  have ha : askE l f now size = true := askE_spec.2 ⟨q1, by omega, by omega, q4⟩
  obtain ⟨H, a, rfl, hc, _⟩ := beats_math ho ha hr (by omega)
  rw [cmpR_key] at hc
  have := cmp_head hc
  exact ⟨H, a, rfl, by omega, hs⟩
theorem IsRte.bare {l : List Ed} {f q now size u : Int} {sh : List Int} {es : List Ed} (h : IsRte l f q now size sh es u) : IsRte l f q now size [] es u := ⟨h.mem, h.nd, (fun _ _ hy => by cases hy), h.run⟩
/-- With some nodes shut. -/
theorem shuts_none {l : List Ed} {f q now size by_ : Int} {sh : List Int} {o o' : Option (List Hp × Int)} (ho : bestX l f q now size by_ sh = o) (ho' : bestX l f q now size by_ [] = o') (hn : o' = none) : o = none := by
  subst hn
  cases o with
  | none => rfl
  | some p =>
    obtain ⟨ha, es, _, h2⟩ := bestX_some ho
    have := bestX_none ho' ha h2.rte.bare
    have := h2.le
    omega
theorem shuts_same {l : List Ed} {f q now size by_ : Int} {sh : List Int} {o : Option (List Hp × Int)} (ho : bestX l f q now size by_ sh = o) {es : List Ed} {a : Int} (ha : askE l f now size = true) (hB : Best1 l f q now size by_ [] es a) (hno : ∀ y ∈ es.map Ed.tn, y ∉ sh) : o = some (hopsE size now es, a) := by
  have hr : IsRte l f q now size sh es a := ⟨hB.rte.mem, hB.rte.nd, hno, hB.rte.run⟩
  cases o with
  | none => have := bestX_none ho ha hr; have := hB.le; omega
  | some p =>
    obtain ⟨_, es', h1, h2⟩ := bestX_some ho
    have h3 : Best1 l f q now size by_ sh es a := ⟨hr, hB.le, fun es2 u2 hr2 hu2 => hB.min es2 u2 hr2.bare hu2⟩
    obtain ⟨e1, e2⟩ := h2.one (askE_spec.1 ha).2.2.2 h3
    rw [← e1, ← e2, ← h1]
theorem shuts_cmp {l : List Ed} {f q now size by_ : Int} {sh : List Int} {es es' : List Ed} {a a' : Int} (hB : Best1 l f q now size by_ [] es a) (hB' : Best1 l f q now size by_ sh es' a') : cmpR a (hopsE size now es) a' (hopsE size now es') ≤ 0 := by
  rw [cmpR_key, keyR_hops, keyR_hops]
  exact hB.min es' a' hB'.rte.bare hB'.le
theorem bestX_wf {l : List Ed} {f q now size by_ : Int} {sh : List Int} {o : Option (List Hp × Int)} (ho : bestX l f q now size by_ sh = o) : ∀ i ∈ (bestH o).map Hp.id, (Lit.int .i64 i).wf = true := by
  cases o with
  | none => intro i hi; cases hi
  | some p =>
    obtain ⟨ha, es, h1, h2⟩ := bestX_some ho
    show ∀ i ∈ p.1.map Hp.id, _
    rw [h1, hopsE_ids]
    intro i hi
    obtain ⟨e, he, rfl⟩ := List.mem_map.1 hi
    have := (Ed.ok_spec.1 (rightE_ok (askE_spec.1 ha).2.2.2 (h2.rte.mem e he))).1
    exact wfI (by omega)
theorem Best1.ends {l : List Ed} {f q now size by_ : Int} {sh : List Int} {es : List Ed} {a : Int} (ha : askE l f now size = true) (h : Best1 l f q now size by_ sh es a) : endsE l ((hopsE size now es).map Hp.id) f = some (nodesE f es) := by
  rw [hopsE_ids]
  exact endsE_of (askE_ends ha) (runE_follow (askE_spec.1 ha).2.2.2 h.rte.mem h.rte.run).1
theorem nodes_at {f : Int} {es : List Ed} {i : Nat} (h1 : 1 ≤ i) (h2 : i < (nodesE f es).length) : (nodesE f es).getD i 0 ∈ es.map Ed.tn := by
  obtain ⟨j, rfl⟩ : ∃ j, i = j + 1 := ⟨i - 1, by omega⟩
  rw [nodesE_len] at h2
  show (f :: es.map Ed.tn).getD (j + 1) 0 ∈ _
  rw [List.getD_cons_succ, List.getD_eq_getElem?_getD, List.getElem?_eq_getElem (by rw [List.length_map]; omega)]
  exact List.getElem_mem _
theorem nodes_all {f : Int} {es : List Ed} {sh : List Int} (h : ∀ p, 1 ≤ p → p < (nodesE f es).length → (nodesE f es).getD p 0 ∉ sh) : ∀ y ∈ es.map Ed.tn, y ∉ sh := fun y hy => by
  obtain ⟨j, hj, rfl⟩ := List.getElem_of_mem hy
  rw [List.length_map] at hj
  have h1 := h (j + 1) (by omega) (by rw [nodesE_len]; omega)
  have h2 : (nodesE f es).getD (j + 1) 0 = (es.map Ed.tn)[j]'(by rw [List.length_map]; exact hj) := by
    show (f :: es.map Ed.tn).getD (j + 1) 0 = _
    rw [List.getD_cons_succ, List.getD_eq_getElem?_getD, List.getElem?_eq_getElem (by rw [List.length_map]; exact hj)]; rfl
  rw [h2] at h1
  exact h1
theorem getD_memI {l : List Int} {k : Nat} (h : k < l.length) : l.getD k 0 ∈ l := by
  rw [List.getD_eq_getElem?_getD, List.getElem?_eq_getElem h]; exact List.getElem_mem _
theorem mem_getDI {l : List Int} {y : Int} (h : y ∈ l) : ∃ k, k < l.length ∧ l.getD k 0 = y := by
  obtain ⟨k, hk, e⟩ := List.getElem_of_mem h
  exact ⟨k, hk, by rw [List.getD_eq_getElem?_getD, List.getElem?_eq_getElem hk]; exact e⟩
theorem wfI_ids {l : List Ed} {es : List Ed} (hre : rightE l = true) (hm : ∀ e ∈ es, e ∈ l) : ∀ i ∈ es.map Ed.id, (Lit.int .i64 i).wf = true := fun i hi => by
  obtain ⟨e, he, rfl⟩ := List.mem_map.1 hi
  have := (Ed.ok_spec.1 (rightE_ok hre (hm e he))).1
  exact wfI (by omega)
theorem wf_getD {ns : List Int} {n : Nat} (hn : ns.length = n) (hw : ∀ m ∈ ns, (Lit.int .i64 m).wf = true) : ∀ q, q < n → (Lit.int .i64 (ns.getD q 0)).wf = true := fun q hq => by
  rw [List.getD_eq_getElem?_getD, List.getElem?_eq_getElem (by omega)]
  exact hw _ (List.getElem_mem (by omega))
end Go.Proofs.YtmbaklodgpcegaaGreat

/- spur.Route's contract, the answer spelt as a slice; facts for the laws. -/
namespace Go.Proofs.YtmbaklodgpcegaaGreat
open Go.ChangeShapes Go.WideShapes Go.ChangeAt Go.RowKit Go.Sort Go.Maps Hp
set_option linter.unusedSimpArgs false
set_option linter.unusedVariables false
theorem sproute_v (A : Option Addr) (n c : Nat) (l : List Ed) (Ar : Option Addr) (nr cr : Nat) (root : List Int) (Ab : Option Addr) (nb cb : Nat) (bans : List Int) (f q now size by_ : Int) (w : World) (hd : l.length = n) (hn : n ≤ 1000) (hdr : root.length = nr) (hnr : nr ≤ 1000) (hwr : ∀ k, k < nr → (Lit.int .i64 (root.getD k 0)).wf = true) (hdb : bans.length = nb) (hnb : nb ≤ 100000) (hwb : ∀ k, k < nb → (Lit.int .i64 (bans.getD k 0)).wf = true) (hle : Sl w w.heap.size 8 A n c (flatEd l)) (hlr : Sl w w.heap.size 1 Ar nr cr (root.map (Value.int .i64))) (hlb : Sl w w.heap.size 1 Ab nb cb (bans.map (Value.int .i64)))
    (o : Option (List Hp × Int)) (ho : spurX l root bans f q now size by_ = o) (t : Int) (ht : bestV o = t) (H : List Hp) (hH : bestH o = H) (b : Bool) (hb0 : o.isSome = b) :
    Calls Tryz.prog 5 #[.slice A n c, .slice Ar nr cr, .slice Ab nb cb, .int .i64 f, .int .i64 q, .int .i64 now, .int .i64 size, .int .i64 by_] w fun e w' => ∃ Av nv cv, e = .returned (.tuple #[.agg #[.slice Av nv cv, .int .i64 t], .bool b]) ∧ H.length = nv ∧ nv ≤ n ∧ Sl w' w'.heap.size 3 Av nv cv (flatHp H) ∧ Below w.heap.size w w' := by
  refine (sproute_any A n c l Ar nr cr root Ab nb cb bans f q now size by_ w hd hn hdr hnr hwr hdb hnb hwb hle hlr hlb o ho t ht H hH b hb0).mono ?_
  rintro e w' ⟨v, rfl, hv, hbw⟩
  obtain ⟨Av, cv, rfl⟩ := slice_of_own hv
  refine ⟨Av, _, cv, rfl, rfl, ?_, Sl.of_own hv, hbw⟩
  subst hH
  cases o with
  | none => exact Nat.zero_le _
  | some p => rw [← hd]; exact spurX_len ho
section
variable {l : List Ed} {root bans : List Int} {f q now size by_ : Int}
theorem goes_nil (ids : List Int) : goesB [] [] ids = true := goesB_spec.2 ⟨ids, rfl, fun _ _ h => by cases h⟩
theorem spur_bare : spurX l [] [] f q now size by_ = bestX l f q now size by_ [] := by
  cases ho : bestX l f q now size by_ [] with
  | none => exact spurX_no fun ha es u hr _ => bestX_none ho ha hr
  | some p =>
    obtain ⟨ha, es, h1, h2⟩ := bestX_some ho
    have hS : Spur1 l [] [] f q now size by_ es p.2 := ⟨h2.rte, h2.le, goes_nil _, fun es' u' hr hu _ => h2.min es' u' hr hu⟩
    rw [spurX_of ha hS, ← h1]
theorem spurX_wf {o : Option (List Hp × Int)} (ho : spurX l root bans f q now size by_ = o) : ∀ i ∈ (bestH o).map Hp.id, (Lit.int .i64 i).wf = true := by
  cases o with
  | none => intro i hi; cases hi
  | some p =>
    obtain ⟨ha, es, h1, h2⟩ := spurX_some ho
    show ∀ i ∈ p.1.map Hp.id, _
    rw [h1, hopsE_ids]
    exact wfI_ids (askE_spec.1 ha).2.2.2 h2.rte.mem
theorem rte_node {es : List Ed} {u : Int} {sh : List Int} (ha : askE l f now size = true) (h : IsRte l f q now size sh es u) : nodeB q = true := by
  unfold nodeB inB
  exact decide_eq_true (runE_in255 (askE_spec.1 ha).1 h.run)
/-- What is answered is the route of its IDs, that goes on from root. -/
theorem spurX_route {p : List Hp × Int} (ho : spurX l root bans f q now size by_ = some p) : routeE l (p.1.map Hp.id) f q now size = some p ∧ p.2 ≤ by_ ∧ goesB root bans (p.1.map Hp.id) = true := by
  obtain ⟨ha, es, h1, h2⟩ := spurX_some ho
  have h3 := h2.rte.route ha (rte_node ha h2.rte)
  have h4 : p.1.map Hp.id = es.map Ed.id := by rw [h1, hopsE_ids]
  refine ⟨by rw [h4, h3, ← h1], h2.le, by rw [h4]; exact h2.goes⟩
theorem spur_cmp {p : List Hp × Int} {es' : List Ed} {u' : Int} (ho : spurX l root bans f q now size by_ = some p) (hr : IsRte l f q now size [] es' u') (hu : u' ≤ by_) (hg : goesB root bans (es'.map Ed.id) = true) :
    cmpR p.2 p.1 u' (hopsE size now es') ≤ 0 ∧ (cmpR p.2 p.1 u' (hopsE size now es') = 0 → p = (hopsE size now es', u')) := by
  obtain ⟨ha, es, h1, h2⟩ := spurX_some ho
  rw [cmpR_key, h1, keyR_hops, keyR_hops]
  refine ⟨h2.min es' u' hr hu hg, fun h0 => ?_⟩
  have h3 : (es, p.2) = (es', u') := key_inj (askE_spec.1 ha).2.2.2 h2.rte.mem hr.mem h0
  injection h3 with h4 h5
  exact Prod.ext (by rw [h1, h4]) h5
theorem goes_more {k : Int} {more ids : List Int} (h : goesB root (bans ++ more) ids = true) : goesB root bans ids = true := by
  obtain ⟨r, h1, h2⟩ := goesB_spec.1 h
  exact goesB_spec.2 ⟨r, h1, fun i hi hc => h2 i hi (List.mem_append.2 (.inl hc))⟩
/-- The best way on goes by its next ID. -/
theorem parts_next {p : List Hp × Int} {k : Int} {r : List Int} (ho : spurX l root bans f q now size by_ = some p) (hi : p.1.map Hp.id = root ++ k :: r) : spurX l (root ++ [k]) [] f q now size by_ = some p := by
  obtain ⟨ha, es, h1, h2⟩ := spurX_some ho
  have h4 : es.map Ed.id = root ++ k :: r := by rw [← hi, h1, hopsE_ids]
  have hk : k ∉ bans := by
    obtain ⟨r', h5, h6⟩ := goesB_spec.1 h2.goes
    rw [h4] at h5
    have h7 := List.append_cancel_left h5
    exact h6 k (by rw [← h7]; simp)
  have hS : Spur1 l (root ++ [k]) [] f q now size by_ es p.2 := by
    refine ⟨h2.rte, h2.le, goesB_spec.2 ⟨r, by rw [h4]; simp, fun _ _ h => by cases h⟩, fun es' u' hr hu hg => h2.min es' u' hr hu ?_⟩
    obtain ⟨r', h5, _⟩ := goesB_spec.1 hg
    refine goesB_spec.2 ⟨k :: r', by rw [h5]; simp, fun i hi => ?_⟩
    have : k = i := by simpa using hi
    subst this
    exact hk
  rw [spurX_of ha hS, ← h1]
/-- .. and any other one is behind it. -/
theorem parts_other {p p' : List Hp × Int} {k : Int} {r : List Int} (ho : spurX l root bans f q now size by_ = some p) (hi : p.1.map Hp.id = root ++ k :: r) (ho' : spurX l root (bans ++ [k]) f q now size by_ = some p') : cmpR p.2 p.1 p'.2 p'.1 < 0 := by
  obtain ⟨ha, es, h1, h2⟩ := spurX_some ho'
  obtain ⟨h3, h4⟩ := spur_cmp ho h2.rte h2.le (goes_more (k := k) h2.goes)
  rw [← h1] at h3 h4
  rcases Int.lt_or_le (cmpR p.2 p.1 p'.2 p'.1) 0 with h5 | h5
  · exact h5
  · exfalso
    have h6 := h4 (by omega)
    obtain ⟨r', h7, h8⟩ := goesB_spec.1 h2.goes
    have h9 : es.map Ed.id = root ++ k :: r := by rw [← hi, h6]; show _ = p'.1.map Hp.id; rw [h1, hopsE_ids]
    rw [h9] at h7
    have h10 := List.append_cancel_left h7
    exact h8 k (by rw [← h10]; simp) (by simp)
/-- Of a route that goes on so none is behind the best way on. -/
theorem spur_beats {ids : List Int} {p : List Hp × Int} (h : routeE l ids f q now size = some p) (hle : p.2 ≤ by_) (hg : goesB root bans ids = true) : ∃ p', spurX l root bans f q now size by_ = some p' ∧ cmpR p'.2 p'.1 p.2 p.1 ≤ 0 := by
  obtain ⟨es, hr, hi, h1, ha, _⟩ := rte_of_route h
  cases ho : spurX l root bans f q now size by_ with
  | none => have := spurX_none ho ha hr (by rw [hi]; exact hg); omega
  | some p' =>
    refine ⟨p', rfl, ?_⟩
    have h2 := (spur_cmp ho hr hle (by rw [hi]; exact hg)).1
    rw [← h1] at h2
    exact h2
/-- With more bans there is no better way on. -/
theorem bans_none {more : List Int} (ho : spurX l root bans f q now size by_ = none) : spurX l root (bans ++ more) f q now size by_ = none :=
  spurX_no fun ha es u hr hg => spurX_none ho ha hr (goes_more (k := 0) hg)
theorem bans_hit {p p' : List Hp × Int} {more : List Int} (ho : spurX l root bans f q now size by_ = some p) (hl : root.length < (p.1.map Hp.id).length) (hm : (p.1.map Hp.id).getD root.length 0 ∈ more) (ho' : spurX l root (bans ++ more) f q now size by_ = some p') : cmpR p.2 p.1 p'.2 p'.1 < 0 := by
  obtain ⟨ha, es, h1, h2⟩ := spurX_some ho'
  obtain ⟨h3, h4⟩ := spur_cmp ho h2.rte h2.le (goes_more (k := 0) h2.goes)
  rw [← h1] at h3 h4
  rcases Int.lt_or_le (cmpR p.2 p.1 p'.2 p'.1) 0 with h5 | h5
  · exact h5
  · exfalso
    have h6 := h4 (by omega)
    obtain ⟨r', h7, h8⟩ := goesB_spec.1 h2.goes
    have h9 : es.map Ed.id = p.1.map Hp.id := by rw [h6]; show _ = p'.1.map Hp.id; rw [h1, hopsE_ids]
    rw [h9] at h7
    rw [h7] at hl hm
    cases r' with
    | nil => simp at hl
    | cons j s =>
      have h10 : (root ++ j :: s).getD root.length 0 = j := by simp [List.getD_eq_getElem?_getD]
      rw [h10] at hm
      exact h8 j (by simp) (List.mem_append.2 (.inr hm))
theorem bans_miss {p : List Hp × Int} {more : List Int} (ho : spurX l root bans f q now size by_ = some p) (hm : root.length < (p.1.map Hp.id).length → (p.1.map Hp.id).getD root.length 0 ∉ more) : spurX l root (bans ++ more) f q now size by_ = some p := by
  obtain ⟨ha, es, h1, h2⟩ := spurX_some ho
  have h3 : p.1.map Hp.id = es.map Ed.id := by rw [h1, hopsE_ids]
  rw [h3] at hm
  have hS : Spur1 l root (bans ++ more) f q now size by_ es p.2 := by
    refine ⟨h2.rte, h2.le, ?_, fun es' u' hr hu hg => h2.min es' u' hr hu (goes_more (k := 0) hg)⟩
    obtain ⟨r, h4, h5⟩ := goesB_spec.1 h2.goes
    refine goesB_spec.2 ⟨r, h4, fun i hi hc => ?_⟩
    rcases List.mem_append.1 hc with h6 | h6
    · exact h5 i hi h6
    · rw [h4] at hm
      cases r with
      | nil => cases hi
      | cons j s =>
        have : j = i := by simpa using hi
        subst this
        exact hm (by simp) (by simpa [List.getD_eq_getElem?_getD] using h6)
  rw [spurX_of ha hS, ← h1]
end
end Go.Proofs.YtmbaklodgpcegaaGreat

/- The document's best route: Route. It makes new memory alone. At most ten edges. -/
namespace Go.Proofs.YtmbaklodgpcegaaGreat
open Go.ChangeShapes Go.WideShapes Go.ChangeAt Go.RowKit Go.Sort Go.Maps
set_option linter.unusedSimpArgs false
set_option linter.unusedVariables false
/-- The first one of all is the best one. -/
theorem docR_head {l : List Ed} {f q now size by_ : Int} {sh : List Int} {R : List Rtp} (hs : SrtT R) (hm : ∀ p, p ∈ R ↔ DocR l f q now size by_ sh p) : R.head? = bestX l f q now size by_ sh := by
  cases ho : bestX l f q now size by_ sh with
  | none =>
    cases R with
    | nil => rfl
    | cons x r =>
      obtain ⟨ha, _, ⟨es, h1, _⟩, hb⟩ := (hm x).1 (List.mem_cons_self ..)
      have := bestX_none ho ha h1
      omega
  | some p =>
    obtain ⟨ha, es, e1, hb⟩ := bestX_some ho
    have hq : nodeB q = true := by
      unfold nodeB inB
      exact decide_eq_true (runE_in255 (askE_spec.1 ha).1 hb.rte.run)
    have hp : p ∈ R := (hm p).2 ⟨ha, hq, ⟨es, hb.rte, e1⟩, hb.le⟩
    cases R with
    | nil => cases hp
    | cons x r =>
      obtain ⟨_, _, ⟨es', h1, h2⟩, hb'⟩ := (hm x).1 (List.mem_cons_self ..)
      have hmin := hb.min es' x.2 h1 hb'
      have hk1 : keyT p = keyE p.2 es := by unfold keyT keyR keyE; rw [e1, hopsE_ids, hopsE_length]
      have hk2 : keyT x = keyE x.2 es' := by unfold keyT keyR keyE; rw [h2, hopsE_ids, hopsE_length]
      rw [← hk1, ← hk2, ← cT_key] at hmin
      rcases List.mem_cons.1 hp with rfl | hr
      · rfl
      · exfalso
        have h3 := (List.pairwise_cons.1 hs).1 p hr
        have := cT_anti x p
        omega
theorem blok2_out {w : World} {b : Nat} {T : TypeId} {u v : Value} (hX : Blok w b T #[u, v]) {k off : Nat} {z : Value} (h : w.cell? ⟨b, off + 2, none⟩ = some z) : False := by
  have h2 : w.cell? ⟨b, off + 2, none⟩ = _ := hX.cell (off + 2)
  rw [h] at h2
  simp at h2
end Go.Proofs.YtmbaklodgpcegaaGreat

/- Who goes on from a root, place by place; the first of all routes that does. Plain facts. -/
namespace Go.Proofs.YtmbaklodgpcegaaGreat
open Go.ChangeShapes Go.WideShapes Go.ChangeAt Go.RowKit Go.Sort Go.Maps Hp
set_option linter.unusedSimpArgs false
set_option linter.unusedVariables false
theorem getD_app_lt {a b : List Int} {i : Nat} (h : i < a.length) : (a ++ b).getD i 0 = a.getD i 0 := by
  rw [List.getD_eq_getElem?_getD, List.getD_eq_getElem?_getD, List.getElem?_append_left h]
theorem goes_short {root bans ids : List Int} (h : ids.length < root.length) : goesB root bans ids = false := by
  cases hc : goesB root bans ids with
  | false => rfl
  | true =>
    obtain ⟨r, rfl, _⟩ := goesB_spec.1 hc
    rw [List.length_append] at h
    omega
theorem goes_ne {root bans ids : List Int} {i : Nat} (hi : i < root.length) (h : ids.getD i 0 ≠ root.getD i 0) : goesB root bans ids = false := by
  cases hc : goesB root bans ids with
  | false => rfl
  | true =>
    obtain ⟨r, rfl, _⟩ := goesB_spec.1 hc
    exact absurd (getD_app_lt hi) h
theorem goes_ban {root bans ids : List Int} {j : Nat} (hl : root.length < ids.length) (hj : j < bans.length) (h : ids.getD root.length 0 = bans.getD j 0) : goesB root bans ids = false := by
  cases hc : goesB root bans ids with
  | false => rfl
  | true =>
    obtain ⟨r, rfl, hr⟩ := goesB_spec.1 hc
    cases r with
    | nil => simp at hl
    | cons x s =>
      exfalso
      have h1 : (root ++ x :: s).getD root.length 0 = x := by simp [List.getD_eq_getElem?_getD]
      rw [h1] at h
      refine hr x (by simp) ?_
      rw [h, List.getD_eq_getElem?_getD, List.getElem?_eq_getElem hj]
      exact List.getElem_mem _
theorem goes_yes {root bans ids : List Int} (hl : root.length ≤ ids.length) (h : ∀ i, i < root.length → ids.getD i 0 = root.getD i 0) (hb : root.length < ids.length → ∀ j, j < bans.length → ids.getD root.length 0 ≠ bans.getD j 0) : goesB root bans ids = true := by
  have h1 : ids.take root.length = root := by
    refine List.ext_getElem (by rw [List.length_take]; omega) fun i h2 h3 => ?_
    have h4 := h i h3
    rw [List.getD_eq_getElem?_getD, List.getD_eq_getElem?_getD, List.getElem?_eq_getElem (by omega), List.getElem?_eq_getElem h3] at h4
    rw [List.getElem_take]
    exact h4
  have h2 : ids = root ++ ids.drop root.length := by
    have h3 := List.take_append_drop root.length ids
    rw [h1] at h3
    exact h3.symm
  refine goesB_spec.2 ⟨ids.drop root.length, h2, fun i hi hc => ?_⟩
  rw [List.head?_drop] at hi
  have hi' : ids[root.length]? = some i := hi
  obtain ⟨hlt, h5⟩ := List.getElem?_eq_some_iff.1 hi'
  obtain ⟨j, hj, h6⟩ := List.mem_iff_getElem.1 hc
  refine hb hlt j hj ?_
  rw [List.getD_eq_getElem?_getD, List.getD_eq_getElem?_getD, List.getElem?_eq_getElem hlt, List.getElem?_eq_getElem hj]
  show ids[root.length] = bans[j]
  rw [h5, h6]
/-- The first of all routes that goes on so is the best way on. -/
theorem docR_goes {l : List Ed} {root bans : List Int} {f q now size by_ : Int} {R : List Rtp} (hs : SrtT R) (hm : ∀ p, p ∈ R ↔ DocR l f q now size by_ [] p) : R.find? (fun p => goesB root bans (idsT p)) = spurX l root bans f q now size by_ := by
  cases ho : spurX l root bans f q now size by_ with
  | none =>
    refine List.find?_eq_none.2 fun x hx hc => ?_
    obtain ⟨ha, _, ⟨es, h1, h2⟩, hb⟩ := (hm x).1 hx
    have h3 : idsT x = es.map Ed.id := by unfold idsT; rw [h2, hopsE_ids]
    rw [h3] at hc
    have := spurX_none ho ha h1 hc
    omega
  | some p =>
    obtain ⟨ha, es, e1, hb⟩ := spurX_some ho
    have hq : nodeB q = true := rte_node ha hb.rte
    have hp : p ∈ R := (hm p).2 ⟨ha, hq, ⟨es, hb.rte, e1⟩, hb.le⟩
    have hg : goesB root bans (idsT p) = true := by unfold idsT; rw [e1, hopsE_ids]; exact hb.goes
    cases hf : R.find? (fun p => goesB root bans (idsT p)) with
    | none => exact absurd hg (List.find?_eq_none.1 hf p hp)
    | some x =>
      obtain ⟨hxg, A, B, hR, hA⟩ := List.find?_eq_some_iff_append.1 hf
      have hx : x ∈ R := by rw [hR]; simp
      obtain ⟨_, _, ⟨es', h1, h2⟩, hb'⟩ := (hm x).1 hx
      have h3 : idsT x = es'.map Ed.id := by unfold idsT; rw [h2, hopsE_ids]
      have hmin := hb.min es' x.2 h1 hb' (by rw [← h3]; exact hxg)
      have hk1 : keyT p = keyE p.2 es := by unfold keyT keyR keyE; rw [e1, hopsE_ids, hopsE_length]
      have hk2 : keyT x = keyE x.2 es' := by unfold keyT keyR keyE; rw [h2, hopsE_ids, hopsE_length]
      rw [← hk1, ← hk2, ← cT_key] at hmin
      have hp2 := hp
      rw [hR] at hp2
      rcases List.mem_append.1 hp2 with h4 | h4
      · have := hA p h4
        rw [hg] at this
        cases this
      · rcases List.mem_cons.1 h4 with rfl | h5
        · rfl
        · exfalso
          have hs2 := hs
          rw [hR] at hs2
          have h6 := (List.pairwise_cons.1 (List.pairwise_append.1 hs2).2.1).1 p h5
          have := cT_anti x p
          omega
end Go.Proofs.YtmbaklodgpcegaaGreat
