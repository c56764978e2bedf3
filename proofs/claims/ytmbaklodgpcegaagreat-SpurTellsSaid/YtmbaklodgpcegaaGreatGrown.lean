/- All rows of IDs that may be grown, as the document grows them; what of them are routes. Plain facts. -/
import Derived.Test.YtmbaklodgpcegaaGreatGQ19
namespace Go.Proofs.YtmbaklodgpcegaaGreat
open Go.ChangeShapes Go.WideShapes Go.ChangeAt Go.RowKit Go.Sort Go.Maps Hp
set_option linter.unusedSimpArgs false
set_option linter.unusedVariables false
/-- A row of IDs, and all that it may be grown to. -/
def rowsF (l : List Ed) (size q : Int) (sh : List Int) (f : Int) : Nat → List Ed → Int → Int → List (List Int)
  | 0, es, _, _ => [es.map Ed.id]
  | k + 1, es, m, t => es.map Ed.id :: (if m = q then [] else l.flatMap fun e => if e.fr = m ∧ e.tn ∉ nodesE f es ∧ e.tn ∉ sh then (match e.pass t size with | none => [] | some p => rowsF l size q sh f k (es ++ [e]) e.tn p.2) else [])
section
variable {l : List Ed} {f q now size : Int} {sh : List Int}
theorem runE_snoc {no : Int → Bool} : ∀ {es : List Ed} {n t m u : Int} {e : Ed}, runE size no n t es = some (m, u) → runE size no n t (es ++ [e]) = if e.fr = m ∧ no e.tn = false then (e.pass u size).bind fun p => some (e.tn, p.2) else none
  | [], n, t, m, u, e, h => by
    injection h with h
    injection h with h1 h2
    subst h1 h2
    rfl
  | x :: r, n, t, m, u, e, h => by
    obtain ⟨s, a, h1, h2, h3, h4⟩ := runE_cons h
    rw [List.cons_append, runE_step h1 h2 h3, runE_snoc h4]
theorem rte_one {es : List Ed} {m t : Int} {e : Ed} {s a : Int} (h : IsRte l f m now size sh es t) (he : e ∈ l) (hf : e.fr = m) (hn : e.tn ∉ nodesE f es) (hs : e.tn ∉ sh) (hp : e.pass t size = some (s, a)) : IsRte l f e.tn now size sh (es ++ [e]) a := by
  refine ⟨fun x hx => ?_, ?_, fun y hy => ?_, ?_⟩
  · rcases List.mem_append.1 hx with hx | hx
    · exact h.mem x hx
    · rw [List.mem_singleton.1 hx]; exact he
  · have e1 : nodesE f (es ++ [e]) = nodesE f es ++ [e.tn] := by unfold nodesE; rw [List.map_append]; rfl
    rw [e1, List.nodup_append]
    refine ⟨h.nd, List.nodup_cons.2 ⟨by simp, List.nodup_nil⟩, fun a ha b hb hab => ?_⟩
    rw [List.mem_singleton.1 hb] at hab
    exact hn (hab ▸ ha)
  · rw [List.map_append] at hy
    rcases List.mem_append.1 hy with hy | hy
    · exact h.no y hy
    · have : y = e.tn := by simpa using hy
      rw [this]; exact hs
  · rw [runE_snoc h.run, if_pos ⟨hf, rfl⟩, hp]; rfl
theorem rowsF_has : ∀ (k : Nat) {r es : List Ed} {m t u : Int}, r.length ≤ k → IsRte l f m now size sh es t → IsRte l f q now size sh (es ++ r) u → (es ++ r).map Ed.id ∈ rowsF l size q sh f k es m t
  | 0, [], es, m, t, u, _, _, _ => by rw [List.append_nil, rowsF]; exact List.mem_singleton.2 rfl
  | 0, e :: r, es, m, t, u, hk, _, _ => by simp at hk
  | k + 1, [], es, m, t, u, _, _, _ => by rw [List.append_nil, rowsF]; exact List.mem_cons_self ..
  | k + 1, e :: r, es, m, t, u, hk, h, hr => by
    have e0 : es ++ e :: r = (es ++ [e]) ++ r := by simp
    have hsplit : ∀ {es : List Ed} {n t m u : Int} {rr : List Ed} {x : Int × Int}, runE size freeE n t es = some (m, u) → runE size freeE n t (es ++ rr) = some x → runE size freeE m u rr = some x := by
      intro es
      induction es with
      | nil => intro n t m u rr x h1 h2; injection h1 with h1; injection h1 with h3 h4; subst h3 h4; exact h2
      | cons y ys ih =>
        intro n t m u rr x h1 h2
        obtain ⟨s, a, g1, g2, g3, g4⟩ := runE_cons h1
        rw [List.cons_append, runE_step g1 g2 g3] at h2
        exact ih g4 h2
    have hrun := hsplit h.run hr.run
    obtain ⟨s, a, g1, _, g3, g4⟩ := runE_cons hrun
    have hnd := hr.nd
    have hno := hr.no e.tn (by rw [List.map_append]; exact List.mem_append.2 (.inr (by simp)))
    have e1 : nodesE f (es ++ e :: r) = nodesE f es ++ (e.tn :: r.map Ed.tn) := by unfold nodesE; rw [List.map_append]; rfl
    rw [e1, List.nodup_append] at hnd
    have hn : e.tn ∉ nodesE f es := fun hc => hnd.2.2 _ hc e.tn (List.mem_cons_self ..) rfl
    have hmq : m ≠ q := fun hc => by
      subst hc
      have hme : m ∈ nodesE f es := by
        rcases runE_mem h.run with ⟨_, h4, _⟩ | h3
        · rw [h4]; exact List.mem_cons_self ..
        · exact List.mem_cons_of_mem _ h3
      have hmr : m ∈ e.tn :: r.map Ed.tn := by
        rcases runE_mem g4 with ⟨_, h4, _⟩ | h3
        · rw [h4]; exact List.mem_cons_self ..
        · exact List.mem_cons_of_mem _ h3
      exact hnd.2.2 _ hme _ hmr rfl
    rw [rowsF, if_neg hmq]
    refine List.mem_cons_of_mem _ (List.mem_flatMap.2 ⟨e, hr.mem e (by simp), ?_⟩)
    rw [if_pos ⟨g1, hn, hno⟩, g3, e0]
    exact rowsF_has k (by simp at hk; omega) (rte_one h (hr.mem e (by simp)) g1 hn hno g3) (by rw [← e0]; exact hr)
theorem rowsF_is : ∀ (k : Nat) {es : List Ed} {m t : Int} {ids : List Int}, IsRte l f m now size sh es t → ids ∈ rowsF l size q sh f k es m t → ∃ es' m' t', ids = es'.map Ed.id ∧ IsRte l f m' now size sh es' t'
  | 0, es, m, t, ids, h, hi => by
    rw [rowsF, List.mem_singleton] at hi
    exact ⟨es, m, t, hi, h⟩
  | k + 1, es, m, t, ids, h, hi => by
    rw [rowsF] at hi
    rcases List.mem_cons.1 hi with hi | hi
    · exact ⟨es, m, t, hi, h⟩
    · split at hi
      · cases hi
      · obtain ⟨e, he, hi⟩ := List.mem_flatMap.1 hi
        split at hi
        · rename_i hc
          obtain ⟨hf, hn, hs⟩ := hc
          cases hp : e.pass t size with
          | none => rw [hp] at hi; cases hi
          | some p =>
            rw [hp] at hi
            exact rowsF_is k (rte_one h he hf hn hs (show e.pass t size = some (p.1, p.2) from hp)) hi
        · cases hi
/-- What of the rows are routes are all routes that enter no node that is shut. -/
theorem doc_mem {p : List Hp × Int} (ha : askE l f now size = true) (hq : nodeB q = true) : (∃ ids ∈ rowsF l size q sh f l.length [] f now, routeE l ids f q now size = some p) ↔ ∃ es, IsRte l f q now size sh es p.2 ∧ p.1 = hopsE size now es := by
  have h0 : IsRte l f f now size sh [] now := ⟨fun x hx => (by cases hx), List.nodup_cons.2 ⟨by simp, List.nodup_nil⟩, fun y hy => (by cases hy), rfl⟩
  have hre := (askE_spec.1 ha).2.2.2
  constructor
  · rintro ⟨ids, hi, hr⟩
    obtain ⟨es, m, t, h1, h2⟩ := rowsF_is _ h0 hi
    obtain ⟨es', g1, g2, g3, _, _⟩ := rte_of_route hr
    obtain rfl := ids_inj hre h2.mem g1.mem (by rw [← h1, g2])
    exact ⟨es, ⟨g1.mem, g1.nd, h2.no, g1.run⟩, g3⟩
  · rintro ⟨es, h1, h2⟩
    refine ⟨es.map Ed.id, rowsF_has l.length (es := []) h1.len h0 h1, ?_⟩
    rw [h1.route ha hq, ← h2]
theorem follow_snoc {x : Ed} {m : Int} (hx : findE l x.id = some x) (hf : x.fr = m) : ∀ {es : List Ed} {n : Int}, followE l (es.map Ed.id) n = some es → (nodesE n es).getD es.length 0 = m → followE l ((es ++ [x]).map Ed.id) n = some (es ++ [x])
  | [], n, _, hl => by
    have e : n = m := hl
    rw [List.nil_append, List.map_cons, followE_on hx (by rw [hf, e])]
    rfl
  | y :: r, n, h, hl => by
    rw [List.map_cons] at h
    obtain ⟨e, es', h1, h2, h3, h4⟩ := followE_cons h
    injection h4 with h5 h6
    subst h5 h6
    rw [List.cons_append, List.map_cons, followE_on h1 h2, follow_snoc hx hf h3 (by rw [nodesE_cons, List.length_cons, List.getD_cons_succ] at hl; exact hl)]
    rfl
theorem pass_snoc {x : Ed} {t : Int} : ∀ {es : List Ed} {n : Int} {hs : List Hp}, passE size es n = some hs → arrE n hs = t → (passE size (es ++ [x]) n).isSome = (x.pass t size).isSome
  | [], n, hs, h, ha => by
    injection h with h
    subst h
    have e : n = t := ha
    rw [List.nil_append, ← e]
    cases hp : x.pass n size with
    | none => rw [passE_no hp]; rfl
    | some p => rw [passE_yes (show x.pass n size = some (p.1, p.2) from hp)]; rfl
  | y :: r, n, hs, h, ha => by
    obtain ⟨a, b, hs', g1, g2, rfl⟩ := passE_cons h
    rw [List.cons_append, passE_yes g1, Option.isSome_map]
    refine pass_snoc g2 ?_
    rw [arrE_cons] at ha
    exact ha
theorem walk_one {es : List Ed} {m t : Int} {x : Ed} (ha : askE l f now size = true) (h : IsRte l f m now size sh es t) (hx : x ∈ l) (hf : x.fr = m) : (walkE l ((es ++ [x]).map Ed.id) f now size).isSome = (x.pass t size).isSome := by
  have hre := (askE_spec.1 ha).2.2.2
  obtain ⟨h1, h2, h3, h4⟩ := runE_follow hre h.mem h.run
  have hfx : findE l x.id = some x := by
    obtain ⟨i, hi, he⟩ := mem_gEd hx
    have := findE_right hre hi
    rw [he] at this; exact this
  unfold walkE
  rw [if_pos ha, follow_snoc hfx hf h1 h4]
  exact pass_snoc h2 h3
/-- How many rows there are at most. -/
def cntF : Nat → Nat
  | 0 => 1
  | k + 1 => 1 + 10 * cntF k
theorem cntF_le {k : Nat} (h : k ≤ 10) : cntF k ≤ 11111111111 := by
  have : k = 0 ∨ k = 1 ∨ k = 2 ∨ k = 3 ∨ k = 4 ∨ k = 5 ∨ k = 6 ∨ k = 7 ∨ k = 8 ∨ k = 9 ∨ k = 10 := by omega
  rcases this with rfl | rfl | rfl | rfl | rfl | rfl | rfl | rfl | rfl | rfl | rfl <;> decide
end
end Go.Proofs.YtmbaklodgpcegaaGreat
