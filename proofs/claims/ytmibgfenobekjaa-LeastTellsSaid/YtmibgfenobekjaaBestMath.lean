/- The best route of all: what IsBestR says, said by all rows of edges. Plain facts. -/
import Derived.Test.YtmibgfenobekjaaGQ15
import Derived.Test.YtmibgfenobekjaaGQ22
namespace Go.Proofs.Ytmibgfenobekjaa
open Go.ChangeShapes Go.WideShapes Go.ChangeAt Go.RowKit Go.Sort Go.Maps Hp
set_option linter.unusedSimpArgs false
set_option linter.unusedVariables false
theorem runE_open {size : Int} {no : Int → Bool} : ∀ {es : List Ed} {n t : Int} {x : Int × Int}, runE size freeE n t es = some x → (∀ y ∈ es.map Ed.tn, no y = false) → runE size no n t es = some x
  | [], n, t, x, h, _ => h
  | e :: r, n, t, x, h, hn => by
    obtain ⟨s, a, hf, _, hp, hr⟩ := runE_cons h
    rw [runE_step hf (hn _ (by simp)) hp]
    exact runE_open hr (fun y hy => hn y (by rw [List.map_cons]; exact List.mem_cons_of_mem _ hy))
theorem runE_entered {size : Int} {no : Int → Bool} : ∀ {es : List Ed} {n t : Int} {x : Int × Int}, runE size no n t es = some x → ∀ y ∈ es.map Ed.tn, no y = false
  | [], n, t, x, h, y, hy => by cases hy
  | e :: r, n, t, x, h, y, hy => by
    obtain ⟨s, a, hf, hn, hp, hr⟩ := runE_cons h
    rw [List.map_cons] at hy
    rcases List.mem_cons.1 hy with rfl | hy
    · exact hn
    · exact runE_entered hr y hy
theorem runE_mem {size : Int} {no : Int → Bool} : ∀ {es : List Ed} {n t m u : Int}, runE size no n t es = some (m, u) → (es = [] ∧ m = n ∧ u = t) ∨ m ∈ es.map Ed.tn
  | [], n, t, m, u, h => by
    injection h with h
    injection h with h1 h2
    exact .inl ⟨rfl, h1.symm, h2.symm⟩
  | e :: r, n, t, m, u, h => by
    obtain ⟨s, a, hf, hn, hp, hr⟩ := runE_cons h
    rcases runE_mem hr with ⟨rfl, rfl, _⟩ | h1
    · exact .inr (by simp)
    · exact .inr (by rw [List.map_cons]; exact List.mem_cons_of_mem _ h1)
/-- A route by these edges, there at u: none leads to a node twice, nor to one that is shut. -/
structure IsRte (l : List Ed) (f q now size : Int) (sh : List Int) (es : List Ed) (u : Int) : Prop where
  mem : ∀ e ∈ es, e ∈ l
  nd : (nodesE f es).Nodup
  no : ∀ y ∈ es.map Ed.tn, y ∉ sh
  run : runE size freeE f now es = some (q, u)
def keyE (a : Int) (es : List Ed) : List Int := a :: (es.length : Int) :: es.map Ed.id
theorem hopsE_ids (size : Int) : ∀ (t : Int) (es : List Ed), (hopsE size t es).map Hp.id = es.map Ed.id
  | _, [] => rfl
  | t, e :: r => by rw [hopsE, List.map_cons, List.map_cons, hopsE_ids]
theorem keyR_hops (a size t : Int) (es : List Ed) : keyR a (hopsE size t es) = keyE a es := by
  unfold keyR keyE
  rw [hopsE_length, hopsE_ids]
theorem lexI_cmp : ∀ {a b : List Int}, lexI a b → cmpL a b ≤ 0
  | [], [], _ => by simp [cmpL]
  | [], _ :: _, _ => by simp [cmpL]
  | _ :: _, [], h => absurd h (by simp [lexI])
  | x :: r, y :: s, h => by
    rw [cmpL]
    rcases h with h | ⟨rfl, h⟩
    · rw [if_neg (by have := cmpI_neg.2 h; omega)]
      have := cmpI_neg.2 h; omega
    · rw [if_pos (cmpI_eq x)]
      exact lexI_cmp h
theorem cmp_first {a b : Int} {x y : List Int} (h : a < b) : cmpL (a :: x) (b :: y) < 0 := by
  rw [cmpL, if_neg (by have := cmpI_neg.2 h; omega)]
  exact cmpI_neg.2 h
theorem cmp_same {a : Int} {x y : List Int} : cmpL (a :: x) (a :: y) = cmpL x y := by
  rw [cmpL, if_pos (cmpI_eq a)]
/-- The best one of all that are there by by_. -/
structure Best1 (l : List Ed) (f q now size by_ : Int) (sh : List Int) (es : List Ed) (a : Int) : Prop where
  rte : IsRte l f q now size sh es a
  le : a ≤ by_
  min : ∀ es' u', IsRte l f q now size sh es' u' → u' ≤ by_ → cmpL (keyE a es) (keyE u' es') ≤ 0
section
variable {l : List Ed} {f q now size by_ : Int} {sh : List Int}
theorem IsRte.early {es : List Ed} {u : Int} {r : List (Int × Int)} (hT : IsTimes l f now size sh r) (ha : askE l f now size = true) (h : IsRte l f q now size sh es u) : ∃ a, atR r q = some a ∧ a ≤ u := by
  have hrun : runE size (shutE sh f) f now es = some (q, u) := runE_open h.run (fun y hy => by
    cases hc : shutE sh f y with
    | false => rfl
    | true =>
      exfalso
      have h1 : (sh ++ [f]).contains y = true := hc
      rw [List.contains_iff_mem] at h1
      rcases List.mem_append.1 h1 with h2 | h2
      · exact h.no y hy h2
      · have h3 : y = f := by simpa using h2
        subst h3
        exact (List.nodup_cons.1 h.nd).1 hy)
  exact (hT.yes ha).least _ _ ⟨es, h.mem, hrun⟩
theorem IsRte.late {es : List Ed} {u a : Int} (h : IsRte l f q now size sh es u) (hu : u ≤ a) (h0 : 0 ≤ a) (hb : a ≤ 1099511627776) {k : Nat} (hk : es.length ≤ k) : ∃ v, lateL l size (opn sh q) q a k f = some v ∧ now ≤ v :=
  lateL_complete hb h0 k h.mem hk (runE_open h.run (fun y hy => by
    have h1 : sh.contains y = false := by
      cases hc : sh.contains y with
      | false => rfl
      | true => exact absurd (List.contains_iff_mem.1 hc) (h.no y hy)
    show (!(y == q || !sh.contains y)) = false
    rw [h1]; simp)) hu
/-- THE BEST ROUTE: what least.Route answers is a route, and none is ahead of it; there is none just if there is none at all. -/
theorem best_spec {o : Option (List Hp × Int)} (h : IsBestR l f q now size by_ sh o) : match o with
    | none => askE l f now size = true → ∀ es u, IsRte l f q now size sh es u → by_ < u
    | some p => askE l f now size = true ∧ ∃ es, p.1 = hopsE size now es ∧ Best1 l f q now size by_ sh es p.2 := by
  obtain ⟨r, hT, h⟩ := h
  obtain ⟨v0, hq⟩ : ∃ v0, atR r q = v0 := ⟨_, rfl⟩
  rw [hq] at h
  cases v0 with
  | none =>
    simp only at h
    subst h
    intro ha es u hr
    obtain ⟨a, h1, _⟩ := hr.early hT ha
    rw [hq] at h1
    cases h1
  | some a =>
    simp only at h
    obtain ⟨hask, hqn, hge, ha40⟩ := hT.lim hq
    obtain ⟨hf, ⟨hn0, hn1⟩, hsz, hre⟩ := askE_spec.1 hask
    by_cases hby : by_ < a
    · rw [if_pos hby] at h
      subst h
      intro _ es u hr
      obtain ⟨a', h1, h2⟩ := hr.early hT hask
      rw [hq] at h1
      injection h1 with h1
      omega
    · rw [if_neg hby] at h
      obtain ⟨g, hF, h⟩ := h
      obtain ⟨e0, hm0, hr0⟩ := (hT.yes hask).rch q a hq
      have hop0 : ∀ y ∈ e0.map Ed.tn, (!(opn sh q y)) = false := fun y hy => by
        have h1 := runE_entered hr0 y hy
        have h2 : sh.contains y = false := by
          cases hc : sh.contains y with
          | false => rfl
          | true => rw [shutE_mem (List.contains_iff_mem.1 hc)] at h1; cases h1
        show (!(y == q || !sh.contains y)) = false
        rw [h2]; simp
      have hl0 : ∃ v, lateL l size (opn sh q) q a e0.length f = some v ∧ now ≤ v := lateL_complete ha40 (by omega) e0.length hm0 (Nat.le_refl _) (runE_open (runE_free hr0) hop0) (Int.le_refl _)
      cases g with
      | none =>
        obtain ⟨v, hv, hle⟩ := hl0
        have := hF e0.length v hv
        omega
      | some k =>
        simp only at h
        obtain ⟨es, hes, ho⟩ := h
        subst ho
        have hFA := IsFew.few hn0 hF
        obtain ⟨es', uu, h1, hm, hlen, hrun, huu⟩ := bestE_is (by omega) ha40 k hFA
        rw [hes] at h1
        injection h1 with h1
        subst h1
        obtain ⟨hnd, _⟩ := bestE_apart (by omega) ha40 k hFA hes
        have hqs : q = f ∨ q ∉ sh := by
          rcases runE_shut hr0 with h1 | h1
          · exact .inl h1
          · exact .inr (fun hc => by rw [shutE_mem hc] at h1; cases h1)
        have hno : ∀ y ∈ es.map Ed.tn, y ∉ sh := fun y hy hc => by
          have h1 := runE_entered hrun y hy
          have h2 : opn sh q y = true := by simpa using h1
          have h3 : (y == q || !sh.contains y) = true := h2
          rw [List.contains_iff_mem.2 hc] at h3
          have h4 : y = q := by simpa using h3
          subst h4
          rcases hqs with h5 | h5
          · subst h5
            exact (List.nodup_cons.1 hnd).1 hy
          · exact h5 hc
        have hR : IsRte l f q now size sh es uu := ⟨hm, hnd, hno, runE_free hrun⟩
        obtain ⟨a', h2, h3⟩ := hR.early hT hask
        rw [hq] at h2
        injection h2 with h2
        obtain rfl : uu = a := by omega
        refine ⟨hask, es, rfl, hR, by omega, fun es' u' hR' hu' => ?_⟩
        obtain ⟨a'', h4, h5⟩ := hR'.early hT hask
        rw [hq] at h4
        injection h4 with h4
        subst h4
        show cmpL (uu :: _) (u' :: _) ≤ 0
        rcases Int.lt_or_le uu u' with h6 | h6
        · have := cmp_first (x := (es.length : Int) :: es.map Ed.id) (y := (es'.length : Int) :: es'.map Ed.id) h6; omega
        obtain rfl : uu = u' := by omega
        rw [cmp_same]
        have hk : k ≤ es'.length := by
          obtain ⟨v, hv, hle⟩ := hR'.late (Int.le_refl _) (by omega) ha40 (Nat.le_refl _)
          rcases Nat.lt_or_ge es'.length k with h7 | h7
          · have := hF.2 es'.length h7 v hv; omega
          · exact h7
        rcases Nat.lt_or_ge k es'.length with h7 | h7
        · have := cmp_first (a := (es.length : Int)) (b := (es'.length : Int)) (x := es.map Ed.id) (y := es'.map Ed.id) (by omega); omega
        have h8 : es'.length = es.length := by omega
        rw [h8, cmp_same]
        have hrun' : runE size (fun y => !opn sh q y) f now es' = some (q, uu) := runE_open hR'.run (fun y hy => by
          have h1 : sh.contains y = false := by
            cases hc : sh.contains y with
            | false => rfl
            | true => exact absurd (List.contains_iff_mem.1 hc) (hR'.no y hy)
          show (!(y == q || !sh.contains y)) = false
          rw [h1]; simp)
        exact lexI_cmp (bestE_first hre (by omega) ha40 k hFA hes hR'.mem (by omega) hrun' (Int.le_refl _))
/-- A route, as path.Route tells it. -/
theorem runE_follow {no : Int → Bool} (hre : rightE l = true) : ∀ {es : List Ed} {n t : Int} {x : Int × Int}, (∀ e ∈ es, e ∈ l) → runE size no n t es = some x → followE l (es.map Ed.id) n = some es ∧ passE size es t = some (hopsE size t es) ∧ arrE t (hopsE size t es) = x.2 ∧ (nodesE n es).getD es.length 0 = x.1
  | [], n, t, x, _, h => by
    injection h with h
    subst h
    exact ⟨rfl, rfl, rfl, rfl⟩
  | e :: r, n, t, x, hm, h => by
    obtain ⟨s, a, hf, hn, hp, hr⟩ := runE_cons h
    obtain ⟨h1, h2, h3, h4⟩ := runE_follow hre (fun y hy => hm y (List.mem_cons_of_mem _ hy)) hr
    have hfe : findE l e.id = some e := by
      obtain ⟨i, hi, hie⟩ := mem_gEd (hm e (List.mem_cons_self ..))
      rw [← hie]
      exact findE_right hre hi
    refine ⟨?_, ?_, ?_, ?_⟩
    · rw [List.map_cons, followE_on hfe hf, h1]; rfl
    · rw [passE_yes hp, h2, hopsE_cons hp]; rfl
    · rw [hopsE_cons hp, arrE_cons]; exact h3
    · rw [nodesE_cons, List.length_cons, List.getD_cons_succ]; exact h4
theorem IsRte.route {es : List Ed} {u : Int} (ha : askE l f now size = true) (hq : nodeB q = true) (h : IsRte l f q now size sh es u) : routeE l (es.map Ed.id) f q now size = some (hopsE size now es, u) := by
  have hre := (askE_spec.1 ha).2.2.2
  obtain ⟨h1, h2, h3, h4⟩ := runE_follow hre h.mem h.run
  have := routeE_of ha hq h1 (leadE_spec.2 ⟨h.nd, by rw [nodesE_len]; exact h4⟩) h2
  rw [this, h3]
theorem run_follow {no : Int → Bool} : ∀ {ids : List Int} {es : List Ed} {n t : Int} {hs : List Hp}, followE l ids n = some es → passE size es t = some hs → (∀ y ∈ es.map Ed.tn, no y = false) → runE size no n t es = some ((nodesE n es).getD es.length 0, arrE t hs) ∧ hs = hopsE size t es
  | [], es, n, t, hs, h, hp, _ => by
    injection h with h
    subst h
    injection hp with hp
    subst hp
    exact ⟨rfl, rfl⟩
  | i0 :: r, es, n, t, hs, h, hp, hn => by
    obtain ⟨e, es', h1, h2, h3, rfl⟩ := followE_cons h
    obtain ⟨a, b, hs', g1, g2, rfl⟩ := passE_cons hp
    obtain ⟨i1, i2⟩ := run_follow (no := no) h3 g2 (fun y hy => hn y (by rw [List.map_cons]; exact List.mem_cons_of_mem _ hy))
    refine ⟨?_, by rw [hopsE_cons g1, i2]⟩
    rw [runE_step h2 (hn _ (by simp)) g1, i1, nodesE_cons, List.length_cons, List.getD_cons_succ, arrE_cons]
/-- And the other way round. -/
theorem rte_of_route {ids : List Int} {p : List Hp × Int} (h : routeE l ids f q now size = some p) : ∃ es, IsRte l f q now size [] es p.2 ∧ es.map Ed.id = ids ∧ p.1 = hopsE size now es ∧ askE l f now size = true ∧ nodeB q = true := by
  obtain ⟨es, hs, ha, hq, hf, hl, hp, rfl⟩ := routeE_some h
  obtain ⟨hnd, hlast⟩ := leadE_spec.1 hl
  obtain ⟨h1, h2⟩ := run_follow (no := freeE) hf hp (fun _ _ => rfl)
  rw [nodesE_len] at hlast
  have hlast' : (nodesE f es).getD es.length 0 = q := hlast
  rw [hlast'] at h1
  exact ⟨es, ⟨followE_mem hf, hnd, fun y _ hy => by (cases hy), h1⟩, followE_ids hf, h2, ha, hq⟩
end
end Go.Proofs.Ytmibgfenobekjaa
