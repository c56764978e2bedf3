/- What the earliest times tell: for the laws. Plain facts. -/
import Derived.Test.YtmibgfenobekjaaGQ8
import Derived.Test.YtmibgfenobekjaaGQ9
namespace Go.Proofs.Ytmibgfenobekjaa
open Go.ChangeShapes Go.WideShapes Go.ChangeAt Go.RowKit Go.Sort Hp
set_option linter.unusedSimpArgs false
set_option linter.unusedVariables false
def freeE : Int → Bool := fun _ => false
theorem shutE_self (sh : List Int) (q : Int) : shutE sh q q = true := by
  show (sh ++ [q]).contains q = true
  rw [List.contains_iff_mem]; simp
theorem shutE_nil {q y : Int} (h : shutE [] q y = true) : y = q := by
  have h1 : ([q] : List Int).contains y = true := h
  rw [List.contains_iff_mem] at h1
  simpa using h1
theorem shutE_mem {sh : List Int} {q y : Int} (h : y ∈ sh) : shutE sh q y = true := by
  show (sh ++ [q]).contains y = true
  rw [List.contains_iff_mem]; exact List.mem_append.2 (.inl h)
theorem Early.ge0 {l : List Ed} {size : Int} {no : Int → Bool} {q now : Int} {T : Int → Option Int} (h0 : 0 ≤ now) (h : Early l size no q now T) : ∀ n t, T n = some t → 0 ≤ t := fun n t ht => by
  have := (h.rch n t ht).ge
  omega
/-- Who may go back to the beginning is nowhere earlier for it. -/
theorem Early.free {l : List Ed} {size : Int} {q now : Int} {T : Int → Option Int} (h0 : 0 ≤ now) (h : Early l size (shutE [] q) q now T) : NoEdge l size freeE T := by
  intro e he t s a ht _ hp
  by_cases hn : shutE [] q e.tn = true
  · have e1 := shutE_nil hn
    have h1 := (h.rch _ _ ht).ge
    have h2 := pass_facts hp
    exact ⟨now, by rw [e1]; exact h.start, by omega⟩
  · exact h.noEdge e he t s a ht (by simpa using hn) hp
theorem runE_free {size : Int} {no : Int → Bool} : ∀ {es : List Ed} {n t : Int} {x : Int × Int}, runE size no n t es = some x → runE size freeE n t es = some x
  | [], n, t, x, h => h
  | e :: r, n, t, x, h => by
    obtain ⟨s, a, hf, _, hp, hr⟩ := runE_cons h
    rw [runE_step hf rfl hp]
    exact runE_free hr
/-- Walks on, whatever they may not enter, are nowhere earlier than told. -/
theorem Early.walk {l : List Ed} {size : Int} {no : Int → Bool} {q now n v t m u : Int} {T : Int → Option Int} {es : List Ed} (h0 : 0 ≤ now) (h : Early l size (shutE [] q) q now T) (hl : ∀ e ∈ es, e ∈ l) (hv : T n = some v) (hle : v ≤ t) (hr : runE size no n t es = some (m, u)) : ∃ u', T m = some u' ∧ u' ≤ u :=
  noEdge_run (h.free h0) (h.ge0 h0) hl hv hle (runE_free hr)
theorem runE_less {size more : Int} {no : Int → Bool} (hs : 0 ≤ size) (hm : size ≤ more) : ∀ {es : List Ed} {n t t' m u : Int}, 0 ≤ t' → t' ≤ t → runE more no n t es = some (m, u) → ∃ u', runE size no n t' es = some (m, u') ∧ u' ≤ u
  | [], n, t, t', m, u, h0, h1, h => by
    injection h with h; injection h with e1 e2
    subst e1 e2
    exact ⟨t', rfl, h1⟩
  | e :: r, n, t, t', m, u, h0, h1, h => by
    obtain ⟨s, a, hf, hn, hp, hr⟩ := runE_cons h
    obtain ⟨b, hp2, hle2, _, _, _, _, _, hb0, _⟩ := pass_less hs hm hp
    obtain ⟨s', a', hp', _, hle, h2, h3, _⟩ := pass_earlier h0 h1 hp2
    obtain ⟨u', hr', hu⟩ := runE_less hs hm (t' := a') (by omega) (by omega) hr
    exact ⟨u', by rw [runE_step hf hn hp']; exact hr', hu⟩
theorem runE_shut {size : Int} {no : Int → Bool} : ∀ {es : List Ed} {n t m u : Int}, runE size no n t es = some (m, u) → m = n ∨ no m = false
  | [], n, t, m, u, h => by injection h with h; injection h with e1 _; exact .inl e1.symm
  | e :: r, n, t, m, u, h => by
    obtain ⟨s, a, hf, hn, hp, hr⟩ := runE_cons h
    rcases runE_shut hr with h1 | h1
    · exact .inr (by rw [h1]; exact hn)
    · exact .inr h1
theorem runE_time {size : Int} {no : Int → Bool} : ∀ {es : List Ed} {n t m u : Int}, t ≤ 1099511627776 → runE size no n t es = some (m, u) → u ≤ 1099511627776
  | [], n, t, m, u, h0, h => by injection h with h; injection h with _ e2; omega
  | e :: r, n, t, m, u, h0, h => by
    obtain ⟨s, a, hf, hn, hp, hr⟩ := runE_cons h
    have h1 := pass_facts hp
    have h2 := (Ed.ok_spec.1 h1.1).2.2.2.2.2.1
    exact runE_time (by omega) hr
theorem srt_nodup {r : List (Int × Int)} (h : Srt r) : (r.map (·.1)).Nodup := by
  rw [List.nodup_iff_pairwise_ne, List.pairwise_map]
  exact h.imp fun h => by omega
theorem nodup_len_int : ∀ {es l : List Int}, es.Nodup → (∀ e ∈ es, e ∈ l) → es.length ≤ l.length
  | [], l, _, _ => Nat.zero_le _
  | e :: r, l, hn, hl => by
    obtain ⟨hm, hr⟩ := List.nodup_cons.1 hn
    obtain ⟨pa, bs, hl2⟩ := List.append_of_mem (hl e (List.mem_cons_self ..))
    have h1 := nodup_len_int (l := pa ++ bs) hr (fun x hx => by
      have h2 := hl x (List.mem_cons_of_mem _ hx)
      rw [hl2] at h2
      rcases List.mem_append.1 h2 with h3 | h3
      · exact List.mem_append.2 (.inl h3)
      · rcases List.mem_cons.1 h3 with h4 | h4
        · exact absurd (h4 ▸ hx) hm
        · exact List.mem_append.2 (.inr h4))
    rw [hl2]
    simp only [List.length_append, List.length_cons] at h1 ⊢
    omega
theorem srt_len {r r' : List (Int × Int)} (h : Srt r) (hs : ∀ x ∈ r, ∃ u, atR r' x.1 = some u) : r.length ≤ r'.length := by
  have h1 := nodup_len_int (l := r'.map (·.1)) (srt_nodup h) (fun e he => by
    obtain ⟨x, hx, rfl⟩ := List.mem_map.1 he
    obtain ⟨u, hu⟩ := hs x hx
    exact List.mem_map.2 ⟨_, atR_mem hu, rfl⟩)
  simpa using h1
/-- Right to ask just if there is a time told. -/
theorem IsTimes.ask {l : List Ed} {q now size : Int} {sh : List Int} {r : List (Int × Int)} (h : IsTimes l q now size sh r) {n t : Int} (ht : atR r n = some t) : askE l q now size = true := by
  cases ha : askE l q now size with
  | true => rfl
  | false => rw [h.no ha] at ht; cases ht
theorem IsTimes.start {l : List Ed} {q now size : Int} {sh : List Int} {r : List (Int × Int)} (h : IsTimes l q now size sh r) (ha : askE l q now size = true) : atR r q = some now := (h.yes ha).start
theorem IsTimes.pos {l : List Ed} {q now size : Int} {sh : List Int} {r : List (Int × Int)} (h : IsTimes l q now size sh r) : 0 < r.length ↔ askE l q now size = true := by
  constructor
  · intro h1
    cases ha : askE l q now size with
    | true => rfl
    | false => rw [h.no ha] at h1; simp at h1
  · intro ha
    exact List.length_pos_of_mem (atR_mem (h.start ha))
theorem gt_memR {r : List (Int × Int)} {k : Nat} (h : k < r.length) : (gt r k) ∈ r := gt_mem h
theorem atR_gt {r : List (Int × Int)} (h : Srt r) {k : Nat} (hk : k < r.length) : atR r (gt r k).1 = some (gt r k).2 := h.at_ (gt_mem hk)
/-- EarlyJoins. -/
theorem joins_math {l : List Ed} {q now size m t : Int} {ra rb : List (Int × Int)} (ha : IsTimes l q now size [] ra) (ht : atR ra m = some t) (hb : IsTimes l m t size [] rb) : askE l m t size = true ∧ ∀ k, k < rb.length → ∃ u, atR ra (gt rb k).1 = some u ∧ u ≤ (gt rb k).2 ∧ t ≤ (gt rb k).2 := by
  have hq := ha.ask ht
  obtain ⟨h1, ⟨h2, h3⟩, h4, h5⟩ := askE_spec.1 hq
  have hE := ha.yes hq
  have hr := hE.rch m t ht
  have hn := hr.node h5 h1
  have hg := hr.ge
  obtain ⟨es, hes, hrun⟩ := hr
  have hm : askE l m t size = true := askE_spec.2 ⟨hn, ⟨by omega, runE_time h3 hrun⟩, h4, h5⟩
  refine ⟨hm, fun k hk => ?_⟩
  have h6 := atR_gt hb.srt hk
  have hr2 := (hb.yes hm).rch _ _ h6
  have hg2 := hr2.ge
  obtain ⟨es2, hes2, hrun2⟩ := hr2
  obtain ⟨u, hu, hle⟩ := hE.walk h2 hes2 ht (Int.le_refl _) hrun2
  exact ⟨u, hu, hle, hg2⟩
/-- EarlyEarlier. -/
theorem earlier_math {l : List Ed} {q now later size more : Int} {ra rb : List (Int × Int)} (h0 : 0 ≤ now) (h1 : now ≤ later) (h2 : 0 ≤ size) (h3 : size ≤ more) (ha : IsTimes l q now size [] ra) (hb : IsTimes l q later more [] rb) : (∀ k, k < rb.length → ∃ u, atR ra (gt rb k).1 = some u ∧ u ≤ (gt rb k).2) ∧ rb.length ≤ ra.length := by
  have key : ∀ x ∈ rb, ∃ u, atR ra x.1 = some u ∧ u ≤ x.2 := fun x hx => by
    have h4 : atR rb x.1 = some x.2 := hb.srt.at_ hx
    have hq := hb.ask h4
    obtain ⟨g1, g2, g3, g4⟩ := askE_spec.1 hq
    have hqa : askE l q now size = true := askE_spec.2 ⟨g1, ⟨h0, by omega⟩, ⟨h2, by omega⟩, g4⟩
    obtain ⟨es, hes, hrun⟩ := (hb.yes hq).rch _ _ h4
    obtain ⟨u, hr, hle⟩ := runE_less h2 h3 h0 h1 hrun
    obtain ⟨v, hv, hle2⟩ := (ha.yes hqa).least _ _ ⟨es, hes, hr⟩
    exact ⟨v, hv, by omega⟩
  exact ⟨fun k hk => key _ (gt_mem hk), srt_len hb.srt fun x hx => by obtain ⟨u, hu, _⟩ := key x hx; exact ⟨u, hu⟩⟩
/-- EarlyShuts. -/
theorem shuts_math {l : List Ed} {q now size : Int} {sh : List Int} {ra rb : List (Int × Int)} (ha : IsTimes l q now size [] ra) (hb : IsTimes l q now size sh rb) : (∀ k, k < rb.length → ∃ u, atR ra (gt rb k).1 = some u ∧ u ≤ (gt rb k).2) ∧ (∀ y ∈ sh, (atR rb y).isSome = true → y = q) ∧ (0 < ra.length ↔ 0 < rb.length) := by
  refine ⟨fun k hk => ?_, fun y hy hs => ?_, by rw [ha.pos, hb.pos]⟩
  · have h4 := atR_gt hb.srt hk
    have hq := hb.ask h4
    have h0 := (askE_spec.1 hq).2.1.1
    obtain ⟨es, hes, hrun⟩ := (hb.yes hq).rch _ _ h4
    exact (ha.yes hq).walk h0 hes ((ha.yes hq).start) (Int.le_refl _) hrun
  · obtain ⟨u, hu⟩ := Option.isSome_iff_exists.1 hs
    obtain ⟨es, hes, hrun⟩ := (hb.yes (hb.ask hu)).rch _ _ hu
    rcases runE_shut hrun with h1 | h1
    · exact h1
    · rw [shutE_mem hy] at h1; cases h1
theorem srt_lt {r : List (Int × Int)} (h : Srt r) {k : Nat} (hk : k + 1 < r.length) : (gt r k).1 < (gt r (k + 1)).1 := by
  have h1 := (List.pairwise_iff_getElem.1 h) k (k + 1) (by omega) hk (by omega)
  have e1 : gt r k = r[k]'(by omega) := by unfold gt; rw [List.getD_eq_getElem?_getD, List.getElem?_eq_getElem (by omega)]; rfl
  have e2 : gt r (k + 1) = r[k + 1]'hk := by unfold gt; rw [List.getD_eq_getElem?_getD, List.getElem?_eq_getElem hk]; rfl
  rw [e1, e2]; exact h1
theorem findE_memL {l : List Ed} {id : Int} {e : Ed} (h : findE l id = some e) : e ∈ l := List.mem_of_find?_eq_some h
/-- EarlyLeast: the walk. -/
theorem least_walk {l : List Ed} {ids : List Int} {q now size : Int} {es : List Ed} {hs : List Hp} {r : List (Int × Int)} (ha : IsTimes l q now size [] r) (hq : askE l q now size = true) (hf : followE l ids q = some es) (hp : passE size es now = some hs) : ∀ i, i < es.length → ∃ u, atR r ((nodesE q es).getD (i + 1) 0) = some u ∧ u ≤ (gHp hs i).ar := by
  have h0 := (askE_spec.1 hq).2.1.1
  have hE := ha.yes hq
  have hN := hE.free h0
  have hz := hE.ge0 h0
  have step : ∀ i, i < es.length → (∃ v, atR r ((nodesE q es).getD i 0) = some v ∧ v ≤ readyE now hs i) → ∃ u, atR r ((nodesE q es).getD (i + 1) 0) = some u ∧ u ≤ (gHp hs i).ar := fun i hi ⟨v, hv, hle⟩ => by
    obtain ⟨f1, f2, f3⟩ := followE_at hf i hi
    obtain ⟨p1, _⟩ := passE_at hp i hi
    obtain ⟨s', a', hp', _, hle', _, _, _⟩ := pass_earlier (hz _ _ hv) hle p1
    obtain ⟨u, hu, hua⟩ := hN (gEd es i) (findE_memL f3) v s' a' (by rw [f1]; exact hv) rfl hp'
    exact ⟨u, by rw [f2]; exact hu, by omega⟩
  intro i
  induction i with
  | zero =>
    intro hi
    refine step 0 hi ⟨now, ?_, by unfold readyE; simp⟩
    have : (nodesE q es).getD 0 0 = q := by simp [nodesE]
    rw [this]; exact hE.start
  | succ i ih =>
    intro hi
    obtain ⟨u, hu, hle⟩ := ih (by omega)
    exact step (i + 1) hi ⟨u, hu, by unfold readyE; simpa using hle⟩
/-- .. and the edges. -/
theorem least_edge {l : List Ed} {q now size : Int} {r : List (Int × Int)} (ha : IsTimes l q now size [] r) (hq : askE l q now size = true) {e : Ed} (he : e ∈ l) {t s a : Int} (ht : atR r e.fr = some t) (hp : e.pass t size = some (s, a)) : ∃ u, atR r e.tn = some u ∧ u ≤ a :=
  (ha.yes hq).free (askE_spec.1 hq).2.1.1 e he t s a ht rfl hp
end Go.Proofs.Ytmibgfenobekjaa
