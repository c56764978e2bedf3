/- Walks of edges and when they are there: earliest times as the least of all walks; tables that no edge makes earlier hold them; as many rounds as there are edges are enough. Plain facts. -/
import Derived.Test.YtmbaklodgpcegaaGreatPathMath
namespace Go.Proofs.YtmbaklodgpcegaaGreat
open Go.ChangeShapes Go.WideShapes Go.ChangeAt Go.RowKit Go.Sort
set_option linter.unusedSimpArgs false
set_option linter.unusedVariables false
/-- Where, and when, one is behind a walk by these edges, without an edge to a node that is shut. -/
def runE (size : Int) (no : Int → Bool) : Int → Int → List Ed → Option (Int × Int)
  | n, t, [] => some (n, t)
  | n, t, e :: r => if e.fr = n ∧ no e.tn = false then (e.pass t size).bind fun p => runE size no e.tn p.2 r else none
theorem runE_cons {size : Int} {no : Int → Bool} {n t : Int} {e : Ed} {r : List Ed} {x : Int × Int} (h : runE size no n t (e :: r) = some x) :
    ∃ s a, e.fr = n ∧ no e.tn = false ∧ e.pass t size = some (s, a) ∧ runE size no e.tn a r = some x := by
  unfold runE at h
  by_cases hc : e.fr = n ∧ no e.tn = false
  · rw [if_pos hc] at h
    cases hp : e.pass t size with
    | none => rw [hp] at h; cases h
    | some p => rw [hp] at h; exact ⟨p.1, p.2, hc.1, hc.2, rfl, h⟩
  · rw [if_neg hc] at h; cases h
theorem runE_step {size : Int} {no : Int → Bool} {n t s a : Int} {e : Ed} {r : List Ed} (hf : e.fr = n) (hn : no e.tn = false) (hp : e.pass t size = some (s, a)) :
    runE size no n t (e :: r) = runE size no e.tn a r := by
  rw [runE, if_pos ⟨hf, hn⟩, hp]; rfl
theorem runE_ge {size : Int} {no : Int → Bool} : ∀ {es : List Ed} {n t m u : Int}, runE size no n t es = some (m, u) → t ≤ u
  | [], n, t, m, u, h => by
    injection h with h; injection h with _ h; omega
  | e :: r, n, t, m, u, h => by
    obtain ⟨s, a, _, _, hp, hr⟩ := runE_cons h
    have h1 := runE_ge hr
    have h2 := pass_facts hp
    omega
/-- Who is ready earlier is there no later, by the same edges. -/
theorem runE_mono {size : Int} {no : Int → Bool} : ∀ {es : List Ed} {n t t' m u : Int}, 0 ≤ t' → t' ≤ t → runE size no n t es = some (m, u) → ∃ u', runE size no n t' es = some (m, u') ∧ u' ≤ u
  | [], n, t, t', m, u, h0, h1, h => by
    injection h with h; injection h with e1 e2
    subst e1 e2
    exact ⟨t', rfl, h1⟩
  | e :: r, n, t, t', m, u, h0, h1, h => by
    obtain ⟨s, a, hf, hn, hp, hr⟩ := runE_cons h
    obtain ⟨s', a', hp', _, hle, h2, h3, _⟩ := pass_earlier h0 h1 hp
    obtain ⟨u', hr', hu⟩ := runE_mono (t' := a') (by omega) hle hr
    exact ⟨u', by rw [runE_step hf hn hp']; exact hr', hu⟩
theorem runE_app {size : Int} {no : Int → Bool} : ∀ {pa bs : List Ed} {n t : Int} {x : Int × Int}, runE size no n t (pa ++ bs) = some x → ∃ m u, runE size no n t pa = some (m, u) ∧ runE size no m u bs = some x
  | [], bs, n, t, x, h => ⟨n, t, rfl, h⟩
  | e :: r, bs, n, t, x, h => by
    obtain ⟨s, a, hf, hn, hp, hr⟩ := runE_cons h
    obtain ⟨m, u, h1, h2⟩ := runE_app hr
    exact ⟨m, u, by rw [runE_step hf hn hp]; exact h1, h2⟩
theorem runE_join {size : Int} {no : Int → Bool} : ∀ {pa bs : List Ed} {n t m u : Int}, runE size no n t pa = some (m, u) → runE size no n t (pa ++ bs) = runE size no m u bs
  | [], bs, n, t, m, u, h => by
    injection h with h; injection h with e1 e2
    subst e1 e2; rfl
  | e :: r, bs, n, t, m, u, h => by
    obtain ⟨s, a, hf, hn, hp, hr⟩ := runE_cons h
    rw [List.cons_append, runE_step hf hn hp]
    exact runE_join hr
/-- A walk that takes an edge twice may leave out what is between. -/
theorem runE_cut {size : Int} {no : Int → Bool} {pa bs cs : List Ed} {e : Ed} {n t m u : Int} (h0 : 0 ≤ t) (h : runE size no n t (pa ++ e :: (bs ++ e :: cs)) = some (m, u)) :
    ∃ u', runE size no n t (pa ++ e :: cs) = some (m, u') ∧ u' ≤ u := by
  obtain ⟨m1, u1, ha, h1⟩ := runE_app h
  obtain ⟨s, a, hf, hn, hp, h2⟩ := runE_cons h1
  obtain ⟨m2, u2, hb, h3⟩ := runE_app h2
  obtain ⟨s', a', hf', _, hp', h4⟩ := runE_cons h3
  have g1 := runE_ge ha
  have g2 := pass_facts hp
  have g3 := runE_ge hb
  obtain ⟨s2, a2, hp2, _, hle, _, _, _⟩ := pass_earlier (t := u1) (l := u2) (by omega) (by omega) hp'
  rw [hp] at hp2
  injection hp2 with hp2
  injection hp2 with _ e2
  subst e2
  obtain ⟨u', h5, h6⟩ := runE_mono (t' := a) (by omega) hle h4
  exact ⟨u', by rw [runE_join ha, runE_step hf hn hp]; exact h5, h6⟩
theorem two_of {l : List Ed} : ∀ {es : List Ed}, ¬ es.Nodup → ∃ pa bs cs e, es = pa ++ e :: (bs ++ e :: cs)
  | [], h => absurd List.nodup_nil h
  | e :: r, h => by
    by_cases hm : e ∈ r
    · obtain ⟨bs, cs, hr⟩ := List.append_of_mem hm
      exact ⟨[], bs, cs, e, by rw [hr]; rfl⟩
    · have hr : ¬ r.Nodup := fun hn => h (List.nodup_cons.2 ⟨hm, hn⟩)
      obtain ⟨pa, bs, cs, x, hx⟩ := two_of (l := l) hr
      exact ⟨e :: pa, bs, cs, x, by rw [hx]; rfl⟩
theorem nodup_len : ∀ {es l : List Ed}, es.Nodup → (∀ e ∈ es, e ∈ l) → es.length ≤ l.length
  | [], l, _, _ => Nat.zero_le _
  | e :: r, l, hn, hl => by
    obtain ⟨hm, hr⟩ := List.nodup_cons.1 hn
    obtain ⟨pa, bs, hl2⟩ := List.append_of_mem (hl e (List.mem_cons_self ..))
    have h1 := nodup_len (l := pa ++ bs) hr (fun x hx => by
      have h2 := hl x (List.mem_cons_of_mem _ hx)
      rw [hl2] at h2
      rcases List.mem_append.1 h2 with h3 | h3
      · exact List.mem_append.2 (.inl h3)
      · rcases List.mem_cons.1 h3 with h4 | h4
        · exact absurd (h4 ▸ hx) hm
        · exact List.mem_append.2 (.inr h4))
    rw [hl2]
    simp only [List.length_append, List.length_cons] at h1 ⊢
    omega
/-- Each walk is no earlier than one of no more edges than there are. -/
theorem runE_few {size : Int} {no : Int → Bool} {l : List Ed} {n t : Int} (h0 : 0 ≤ t) : ∀ (k : Nat) {es : List Ed} {m u : Int}, es.length ≤ k → (∀ e ∈ es, e ∈ l) → runE size no n t es = some (m, u) →
    ∃ es' u', (∀ e ∈ es', e ∈ l) ∧ es'.length ≤ l.length ∧ runE size no n t es' = some (m, u') ∧ u' ≤ u
  | 0, es, m, u, hk, hl, h => ⟨es, u, hl, by omega, h, Int.le_refl _⟩
  | k + 1, es, m, u, hk, hl, h => by
    by_cases hn : es.Nodup
    · exact ⟨es, u, hl, nodup_len hn hl, h, Int.le_refl _⟩
    · obtain ⟨pa, bs, cs, e, hes⟩ := two_of (l := l) hn
      subst hes
      obtain ⟨u1, h1, h2⟩ := runE_cut h0 h
      obtain ⟨es', u', h3, h4, h5, h6⟩ := runE_few h0 k (es := pa ++ e :: cs) (by simp only [List.length_append, List.length_cons] at hk ⊢; omega) (fun x hx => hl x (by
        rcases List.mem_append.1 hx with h3 | h3
        · exact List.mem_append.2 (.inl h3)
        · rcases List.mem_cons.1 h3 with h4 | h4
          · subst h4; simp
          · simp [h4])) h1
      exact ⟨es', u', h3, h4, h5, by omega⟩
/-- Such a walk there is. -/
def Rch (l : List Ed) (size : Int) (no : Int → Bool) (q now n t : Int) : Prop := ∃ es, (∀ e ∈ es, e ∈ l) ∧ runE size no q now es = some (n, t)
theorem Rch.start {l : List Ed} {size : Int} {no : Int → Bool} {q now : Int} : Rch l size no q now q now := ⟨[], by simp, rfl⟩
theorem Rch.step {l : List Ed} {size : Int} {no : Int → Bool} {q now n t s a : Int} {e : Ed} (h : Rch l size no q now n t) (he : e ∈ l) (hf : e.fr = n) (hn : no e.tn = false) (hp : e.pass t size = some (s, a)) : Rch l size no q now e.tn a := by
  obtain ⟨es, hl, hr⟩ := h
  refine ⟨es ++ [e], fun x hx => ?_, ?_⟩
  · rcases List.mem_append.1 hx with h | h
    · exact hl x h
    · rw [List.mem_singleton.1 h]; exact he
  · rw [runE_join hr, runE_step hf hn hp]; rfl
theorem Rch.ge {l : List Ed} {size : Int} {no : Int → Bool} {q now n t : Int} (h : Rch l size no q now n t) : now ≤ t := by
  obtain ⟨es, _, hr⟩ := h
  exact runE_ge hr
/-- The earliest times. -/
structure Early (l : List Ed) (size : Int) (no : Int → Bool) (q now : Int) (T : Int → Option Int) : Prop where
  rch : ∀ n t, T n = some t → Rch l size no q now n t
  least : ∀ n t, Rch l size no q now n t → ∃ u, T n = some u ∧ u ≤ t
theorem Early.one {l : List Ed} {size : Int} {no : Int → Bool} {q now : Int} {T T' : Int → Option Int} (h : Early l size no q now T) (h' : Early l size no q now T') : T = T' := by
  funext n
  cases hT : T n with
  | none =>
    cases hT' : T' n with
    | none => rfl
    | some t => obtain ⟨u, hu, _⟩ := h.least n t (h'.rch n t hT'); rw [hT] at hu; cases hu
  | some t =>
    obtain ⟨u, hu, h1⟩ := h'.least n t (h.rch n t hT)
    obtain ⟨v, hv, h2⟩ := h.least n u (h'.rch n u hu)
    rw [hT] at hv
    injection hv with hv
    rw [hu]
    congr 1
    omega
/-- No edge makes the table earlier. -/
def NoEdge (l : List Ed) (size : Int) (no : Int → Bool) (T : Int → Option Int) : Prop :=
  ∀ e ∈ l, ∀ t s a, T e.fr = some t → no e.tn = false → e.pass t size = some (s, a) → ∃ u, T e.tn = some u ∧ u ≤ a
theorem noEdge_run {l : List Ed} {size : Int} {no : Int → Bool} {T : Int → Option Int} (hT : NoEdge l size no T) (h0 : ∀ n t, T n = some t → 0 ≤ t) :
    ∀ {es : List Ed} {n t v m u : Int}, (∀ e ∈ es, e ∈ l) → T n = some v → v ≤ t → runE size no n t es = some (m, u) → ∃ u', T m = some u' ∧ u' ≤ u
  | [], n, t, v, m, u, _, hv, hle, h => by
    injection h with h; injection h with e1 e2
    subst e1 e2
    exact ⟨v, hv, hle⟩
  | e :: r, n, t, v, m, u, hl, hv, hle, h => by
    obtain ⟨s, a, hf, hn, hp, hr⟩ := runE_cons h
    obtain ⟨s', a', hp', _, hle', _, _, _⟩ := pass_earlier (h0 n v hv) hle hp
    obtain ⟨w, hw, hwa⟩ := hT e (hl e (List.mem_cons_self ..)) v s' a' (by rw [hf]; exact hv) hn hp'
    exact noEdge_run hT h0 (fun x hx => hl x (List.mem_cons_of_mem _ hx)) hw (by omega) hr
/-- A table of walks that no edge makes earlier is that of the earliest times. -/
theorem early_of {l : List Ed} {size : Int} {no : Int → Bool} {q now : Int} {T : Int → Option Int} (h0 : 0 ≤ now) (hq : T q = some now) (hr : ∀ n t, T n = some t → Rch l size no q now n t) (hT : NoEdge l size no T) : Early l size no q now T := by
  refine ⟨hr, fun n t h => ?_⟩
  obtain ⟨es, hl, hrun⟩ := h
  exact noEdge_run hT (fun n t h => by have := (hr n t h).ge; omega) hl hq (Int.le_refl _) hrun
theorem Early.noEdge {l : List Ed} {size : Int} {no : Int → Bool} {q now : Int} {T : Int → Option Int} (h : Early l size no q now T) : NoEdge l size no T := fun e he t s a hT hn hp => h.least _ _ ((h.rch _ _ hT).step he rfl hn hp)
theorem Early.start {l : List Ed} {size : Int} {no : Int → Bool} {q now : Int} {T : Int → Option Int} (h : Early l size no q now T) : T q = some now := by
  obtain ⟨u, hu, hle⟩ := h.least q now Rch.start
  have := (h.rch q u hu).ge
  rw [hu]; congr 1; omega
/-- A table in which that of a node is so. -/
def setT (T : Int → Option Int) (n a : Int) : Int → Option Int := fun m => if m = n then some a else T m
theorem setT_same (T : Int → Option Int) (n a : Int) : setT T n a n = some a := by simp [setT]
theorem setT_ne (T : Int → Option Int) {n m : Int} (a : Int) (h : m ≠ n) : setT T n a m = T m := by simp [setT, h]
/-- Is a at that node earlier than told, or is none told? -/
def lessT (T : Int → Option Int) (n a : Int) : Bool := match T n with | none => true | some u => decide (a < u)
/-- Times behind one edge more. -/
def relE (size : Int) (no : Int → Bool) (T : Int → Option Int) (e : Ed) : Int → Option Int :=
  match T e.fr with
  | none => T
  | some t => if no e.tn = true then T else match e.pass t size with
    | none => T
    | some (_, a) => if lessT T e.tn a = true then setT T e.tn a else T
theorem relE_none {size : Int} {no : Int → Bool} {T : Int → Option Int} {e : Ed} (h : T e.fr = none) : relE size no T e = T := by unfold relE; rw [h]
theorem relE_shut {size : Int} {no : Int → Bool} {T : Int → Option Int} {e : Ed} {t : Int} (h : T e.fr = some t) (hn : no e.tn = true) : relE size no T e = T := by unfold relE; rw [h]; simp [hn]
theorem relE_fail {size : Int} {no : Int → Bool} {T : Int → Option Int} {e : Ed} {t : Int} (h : T e.fr = some t) (hp : e.pass t size = none) : relE size no T e = T := by unfold relE; rw [h]; simp [hp]
theorem relE_pass {size : Int} {no : Int → Bool} {T : Int → Option Int} {e : Ed} {t s a : Int} (h : T e.fr = some t) (hn : no e.tn = false) (hp : e.pass t size = some (s, a)) : relE size no T e = if lessT T e.tn a = true then setT T e.tn a else T := by unfold relE; rw [h]; simp [hn, hp]
theorem relE_cases (size : Int) (no : Int → Bool) (T : Int → Option Int) (e : Ed) : relE size no T e = T ∨ ∃ t s a, T e.fr = some t ∧ no e.tn = false ∧ e.pass t size = some (s, a) ∧ lessT T e.tn a = true ∧ relE size no T e = setT T e.tn a := by
  cases h : T e.fr with
  | none => exact .inl (relE_none h)
  | some t =>
    cases hn : no e.tn with
    | true => exact .inl (relE_shut h hn)
    | false =>
      cases hp : e.pass t size with
      | none => exact .inl (relE_fail h hp)
      | some p =>
        obtain ⟨s, a⟩ := p
        by_cases hl : lessT T e.tn a = true
        · exact .inr ⟨t, s, a, rfl, rfl, hp, hl, by rw [relE_pass h hn hp, if_pos hl]⟩
        · exact .inl (by rw [relE_pass h hn hp, if_neg hl])
theorem setT_le {T : Int → Option Int} {m a n u : Int} (hl : lessT T m a = true) (h : T n = some u) : ∃ u', setT T m a n = some u' ∧ u' ≤ u := by
  by_cases e : n = m
  · subst e
    unfold lessT at hl
    rw [h] at hl
    have := of_decide_eq_true hl
    exact ⟨a, setT_same _ _ _, by omega⟩
  · exact ⟨u, by rw [setT_ne _ _ e]; exact h, Int.le_refl _⟩
theorem relE_le {size : Int} {no : Int → Bool} {T : Int → Option Int} {n u : Int} (e : Ed) (h : T n = some u) : ∃ u', relE size no T e n = some u' ∧ u' ≤ u := by
  rcases relE_cases size no T e with h1 | ⟨t, s, a, _, _, _, hl, h1⟩
  · exact ⟨u, by rw [h1]; exact h, Int.le_refl _⟩
  · rw [h1]; exact setT_le hl h
theorem relE_rch {l : List Ed} {size : Int} {no : Int → Bool} {q now : Int} {T : Int → Option Int} {e : Ed} (he : e ∈ l) (h : ∀ n t, T n = some t → Rch l size no q now n t) : ∀ n t, relE size no T e n = some t → Rch l size no q now n t := by
  intro n t ht
  rcases relE_cases size no T e with h1 | ⟨t0, s, a, h2, h3, h4, _, h1⟩
  · rw [h1] at ht; exact h n t ht
  · rw [h1] at ht
    by_cases hn : n = e.tn
    · subst hn
      rw [setT_same] at ht
      injection ht with ht
      subst ht
      exact (h _ _ h2).step he rfl h3 h4
    · rw [setT_ne _ _ hn] at ht; exact h n t ht
theorem relE_edge {size : Int} {no : Int → Bool} {T : Int → Option Int} {e : Ed} {t s a : Int} (h : T e.fr = some t) (hn : no e.tn = false) (hp : e.pass t size = some (s, a)) : ∃ u, relE size no T e e.tn = some u ∧ u ≤ a := by
  rw [relE_pass h hn hp]
  by_cases hl : lessT T e.tn a = true
  · rw [if_pos hl]; exact ⟨a, setT_same _ _ _, Int.le_refl _⟩
  · rw [if_neg hl]
    unfold lessT at hl
    cases hu : T e.tn with
    | none => rw [hu] at hl; simp at hl
    | some u => rw [hu] at hl; exact ⟨u, rfl, by simpa using hl⟩
/-- .. behind all edges, in order. -/
def rndE (size : Int) (no : Int → Bool) (l : List Ed) (T : Int → Option Int) : Int → Option Int := l.foldl (relE size no) T
theorem rndE_le {size : Int} {no : Int → Bool} : ∀ (l : List Ed) {T : Int → Option Int} {n u : Int}, T n = some u → ∃ u', rndE size no l T n = some u' ∧ u' ≤ u
  | [], T, n, u, h => ⟨u, h, Int.le_refl _⟩
  | e :: r, T, n, u, h => by
    obtain ⟨u1, h1, h2⟩ := relE_le (size := size) (no := no) e h
    obtain ⟨u2, h3, h4⟩ := rndE_le r h1
    exact ⟨u2, h3, by omega⟩
theorem rndE_rch {L : List Ed} {size : Int} {no : Int → Bool} {q now : Int} : ∀ (l : List Ed) {T : Int → Option Int}, (∀ e ∈ l, e ∈ L) → (∀ n t, T n = some t → Rch L size no q now n t) → ∀ n t, rndE size no l T n = some t → Rch L size no q now n t
  | [], T, _, h => h
  | e :: r, T, hl, h => rndE_rch r (fun x hx => hl x (List.mem_cons_of_mem _ hx)) (relE_rch (hl e (List.mem_cons_self ..)) h)
theorem rndE_edge {size : Int} {no : Int → Bool} : ∀ (l : List Ed) {T : Int → Option Int} {e : Ed} {t s a : Int}, e ∈ l → (∀ n u, T n = some u → 0 ≤ u) → T e.fr = some t → no e.tn = false → e.pass t size = some (s, a) → ∃ u, rndE size no l T e.tn = some u ∧ u ≤ a
  | x :: r, T, e, t, s, a, he, h0, h, hn, hp => by
    have h00 : ∀ n u, relE size no T x n = some u → 0 ≤ u := fun n u hu => by
      rcases relE_cases size no T x with h1 | ⟨t1, s1, a1, h2, h3, h4, _, h1⟩
      · rw [h1] at hu; exact h0 n u hu
      · rw [h1] at hu
        by_cases hm : n = x.tn
        · subst hm
          rw [setT_same] at hu
          injection hu with hu
          have := pass_facts h4
          have := h0 _ _ h2
          omega
        · rw [setT_ne _ _ hm] at hu; exact h0 n u hu
    rcases List.mem_cons.1 he with rfl | hr
    · obtain ⟨u, h1, h2⟩ := relE_edge h hn hp
      obtain ⟨u', h3, h4⟩ := rndE_le r h1
      exact ⟨u', h3, by omega⟩
    · obtain ⟨t', h1, h2⟩ := relE_le (size := size) (no := no) x h
      obtain ⟨s', a', hp', _, hle, _, _, _⟩ := pass_earlier (h00 _ _ h1) h2 hp
      obtain ⟨u, h3, h4⟩ := rndE_edge r hr h00 h1 hn hp'
      exact ⟨u, h3, by omega⟩
/-- .. so often. -/
def rndsE (size : Int) (no : Int → Bool) (l : List Ed) : Nat → (Int → Option Int) → Int → Option Int
  | 0, T => T
  | k + 1, T => rndE size no l (rndsE size no l k T)
def oneT (q now : Int) : Int → Option Int := fun n => if n = q then some now else none
theorem rndsE_rch {l : List Ed} {size : Int} {no : Int → Bool} {q now : Int} : ∀ k n t, rndsE size no l k (oneT q now) n = some t → Rch l size no q now n t
  | 0, n, t, h => by
    unfold rndsE oneT at h
    by_cases e : n = q
    · rw [if_pos e] at h; injection h with h; subst e h; exact Rch.start
    · rw [if_neg e] at h; cases h
  | k + 1, n, t, h => rndE_rch l (fun _ hx => hx) (rndsE_rch k) n t h
theorem rndsE_run {l : List Ed} {size : Int} {no : Int → Bool} {q now : Int} (h0 : 0 ≤ now) : ∀ (k : Nat) {es : List Ed} {m u : Int}, es.length ≤ k → (∀ e ∈ es, e ∈ l) → runE size no q now es = some (m, u) → ∃ u', rndsE size no l k (oneT q now) m = some u' ∧ u' ≤ u
  | 0, es, m, u, hk, _, h => by
    have : es = [] := List.eq_nil_of_length_eq_zero (by omega)
    subst this
    injection h with h; injection h with e1 e2
    subst e1 e2
    exact ⟨_, by simp [rndsE, oneT], Int.le_refl _⟩
  | k + 1, es, m, u, hk, hl, h => by
    rcases List.eq_nil_or_concat es with rfl | ⟨pa, e, rfl⟩
    · obtain ⟨u1, h1, h2⟩ := rndsE_run h0 k (es := []) (by simp) (by simp) h
      obtain ⟨u2, h3, h4⟩ := rndE_le (size := size) (no := no) l h1
      exact ⟨u2, h3, by omega⟩
    · simp only [List.concat_eq_append] at hl h hk
      obtain ⟨n, t, ha, hb⟩ := runE_app h
      obtain ⟨s, a, hf, hn, hp, hr⟩ := runE_cons hb
      injection hr with hr; injection hr with e1 e2
      subst e1 e2 hf
      obtain ⟨t', h1, h2⟩ := rndsE_run h0 k (es := pa) (by simp at hk; omega) (fun x hx => hl x (List.mem_append.2 (.inl hx))) ha
      have hz : ∀ n u, rndsE size no l k (oneT q now) n = some u → 0 ≤ u := fun n u hu => by have := (rndsE_rch k n u hu).ge; omega
      obtain ⟨s', a', hp', _, hle, _, _, _⟩ := pass_earlier (hz _ _ h1) h2 hp
      obtain ⟨u', h3, h4⟩ := rndE_edge l (hl e (by simp)) hz h1 hn hp'
      exact ⟨u', h3, by omega⟩
/-- As many rounds as there are edges, or more, tell the earliest times. -/
theorem rndsE_early {l : List Ed} {size : Int} {no : Int → Bool} {q now : Int} (h0 : 0 ≤ now) {k : Nat} (hk : l.length ≤ k) : Early l size no q now (rndsE size no l k (oneT q now)) := by
  refine ⟨fun n t h => rndsE_rch k n t h, fun n t h => ?_⟩
  obtain ⟨es, hl, hr⟩ := h
  obtain ⟨es', u', h1, h2, h3, h4⟩ := runE_few h0 es.length (Nat.le_refl _) hl hr
  obtain ⟨u2, h5, h6⟩ := rndsE_run h0 k (by omega) h1 h3
  exact ⟨u2, h5, by omega⟩
/-- What the search keeps: each time told is one of a walk; each is waiting, or no edge from there makes another one earlier. -/
structure Spread (l : List Ed) (size : Int) (no : Int → Bool) (q now : Int) (T : Int → Option Int) (H : List (Int × Int)) : Prop where
  start : T q = some now
  rch : ∀ n t, T n = some t → Rch l size no q now n t
  wait : ∀ n t, (n, t) ∈ H → ∃ u, T n = some u ∧ u ≤ t
  pend : ∀ n t, T n = some t → (n, t) ∈ H ∨ ∀ e ∈ l, e.fr = n → ∀ s a, no e.tn = false → e.pass t size = some (s, a) → ∃ u, T e.tn = some u ∧ u ≤ a
theorem Spread.done {l : List Ed} {size : Int} {no : Int → Bool} {q now : Int} {T : Int → Option Int} (h0 : 0 ≤ now) (h : Spread l size no q now T []) : Early l size no q now T :=
  early_of h0 h.start h.rch fun e he t s a hT hn hp => by
    rcases h.pend e.fr t hT with h1 | h1
    · simp at h1
    · exact h1 e he rfl s a hn hp
theorem Spread.first {l : List Ed} {size : Int} {no : Int → Bool} {q now : Int} : Spread l size no q now (oneT q now) [(q, now)] := by
  refine ⟨by simp [oneT], fun n t h => ?_, fun n t h => ?_, fun n t h => ?_⟩
  · unfold oneT at h
    by_cases e : n = q
    · rw [if_pos e] at h; injection h with h; subst e h; exact Rch.start
    · rw [if_neg e] at h; cases h
  · simp at h; obtain ⟨rfl, rfl⟩ := h; exact ⟨_, by simp [oneT], Int.le_refl _⟩
  · unfold oneT at h
    by_cases e : n = q
    · rw [if_pos e] at h; injection h with h; subst e h; exact .inl (by simp)
    · rw [if_neg e] at h; cases h
/-- One that is later than told is laid aside. -/
theorem Spread.stale {l : List Ed} {size : Int} {no : Int → Bool} {q now n t u : Int} {T : Int → Option Int} {H H' : List (Int × Int)} (h : Spread l size no q now T H) (hH : H.Perm ((n, t) :: H')) (hu : T n = some u) (hlt : u < t) : Spread l size no q now T H' := by
  refine ⟨h.start, h.rch, fun m v hm => h.wait m v (hH.mem_iff.2 (List.mem_cons_of_mem _ hm)), fun m v hm => ?_⟩
  rcases h.pend m v hm with h1 | h1
  · rcases List.mem_cons.1 (hH.mem_iff.1 h1) with h2 | h2
    · injection h2 with e1 e2
      subst e1 e2
      rw [hu] at hm
      injection hm with hm
      omega
    · exact .inl h2
  · exact .inr h1
/-- Behind the edges ps from n, ready at t there; rs are left. -/
structure SpreadAt (l : List Ed) (size : Int) (no : Int → Bool) (q now n t : Int) (ps : List Ed) (T : Int → Option Int) (H : List (Int × Int)) : Prop where
  start : T q = some now
  rch : ∀ n t, T n = some t → Rch l size no q now n t
  wait : ∀ n t, (n, t) ∈ H → ∃ u, T n = some u ∧ u ≤ t
  here : T n = some t
  pend : ∀ m v, T m = some v → m ≠ n → (m, v) ∈ H ∨ ∀ e ∈ l, e.fr = m → ∀ s a, no e.tn = false → e.pass v size = some (s, a) → ∃ u, T e.tn = some u ∧ u ≤ a
  past : ∀ e ∈ ps, ∀ s a, no e.tn = false → e.pass t size = some (s, a) → ∃ u, T e.tn = some u ∧ u ≤ a
theorem Spread.pop {l : List Ed} {size : Int} {no : Int → Bool} {q now n t : Int} {T : Int → Option Int} {H H' : List (Int × Int)} (h : Spread l size no q now T H) (hH : H.Perm ((n, t) :: H')) (hu : T n = some t) : SpreadAt l size no q now n t [] T H' := by
  refine ⟨h.start, h.rch, fun m v hm => h.wait m v (hH.mem_iff.2 (List.mem_cons_of_mem _ hm)), hu, fun m v hm hne => ?_, fun e he => by simp at he⟩
  rcases h.pend m v hm with h1 | h1
  · rcases List.mem_cons.1 (hH.mem_iff.1 h1) with h2 | h2
    · injection h2 with e1 _
      exact absurd e1 hne
    · exact .inl h2
  · exact .inr h1
theorem SpreadAt.end_ {l : List Ed} {size : Int} {no : Int → Bool} {q now n t : Int} {ps : List Ed} {T : Int → Option Int} {H : List (Int × Int)} (h : SpreadAt l size no q now n t ps T H) (hp : ∀ e ∈ l, e.fr = n → e ∈ ps) : Spread l size no q now T H := by
  refine ⟨h.start, h.rch, h.wait, fun m v hm => ?_⟩
  by_cases e : m = n
  · subst e
    have := h.here
    rw [hm] at this
    injection this with this
    subst this
    exact .inr fun e he hf s a hn hpp => h.past e (hp e he hf) s a hn hpp
  · exact h.pend m v hm e
/-- An edge that does not lead there earlier. -/
theorem SpreadAt.skip {l : List Ed} {size : Int} {no : Int → Bool} {q now n t : Int} {ps : List Ed} {T : Int → Option Int} {H : List (Int × Int)} {e : Ed} (h : SpreadAt l size no q now n t ps T H) (hs : ∀ s a, no e.tn = false → e.pass t size = some (s, a) → lessT T e.tn a = false) : SpreadAt l size no q now n t (ps ++ [e]) T H := by
  refine ⟨h.start, h.rch, h.wait, h.here, h.pend, fun x hx s a hn hp => ?_⟩
  rcases List.mem_append.1 hx with h1 | h1
  · exact h.past x h1 s a hn hp
  · rw [List.mem_singleton.1 h1] at hn hp ⊢
    have hl := hs s a hn hp
    unfold lessT at hl
    cases hu : T e.tn with
    | none => rw [hu] at hl; simp at hl
    | some u => rw [hu] at hl; exact ⟨u, rfl, by simpa using hl⟩
/-- One that does. -/
theorem SpreadAt.push {l : List Ed} {size : Int} {no : Int → Bool} {q now n t s a : Int} {ps : List Ed} {T : Int → Option Int} {H H' : List (Int × Int)} {e : Ed} (h : SpreadAt l size no q now n t ps T H) (he : e ∈ l) (hf : e.fr = n) (hne : e.tn ≠ n) (hn : no e.tn = false) (hq : no q = true) (hp : e.pass t size = some (s, a)) (hl : lessT T e.tn a = true) (hH : H'.Perm ((e.tn, a) :: H)) :
    SpreadAt l size no q now n t (ps ++ [e]) (setT T e.tn a) H' := by
  have hq2 : q ≠ e.tn := fun e2 => by rw [e2, hn] at hq; cases hq
  refine ⟨by rw [setT_ne _ _ hq2]; exact h.start, fun m v hm => ?_, fun m v hm => ?_, by rw [setT_ne _ _ (fun e2 => hne e2.symm)]; exact h.here, fun m v hm hmn => ?_, fun x hx s' a' hn' hp' => ?_⟩
  · by_cases e2 : m = e.tn
    · subst e2
      rw [setT_same] at hm
      injection hm with hm
      subst hm
      exact (h.rch n t h.here).step he hf hn hp
    · rw [setT_ne _ _ e2] at hm; exact h.rch m v hm
  · rcases List.mem_cons.1 (hH.mem_iff.1 hm) with h1 | h1
    · injection h1 with e1 e2
      subst e1 e2
      exact ⟨_, setT_same _ _ _, Int.le_refl _⟩
    · obtain ⟨u, hu, hle⟩ := h.wait m v h1
      obtain ⟨u', h2, h3⟩ := setT_le hl hu
      exact ⟨u', h2, by omega⟩
  · by_cases e2 : m = e.tn
    · subst e2
      rw [setT_same] at hm
      injection hm with hm
      subst hm
      exact .inl (hH.mem_iff.2 (List.mem_cons_self ..))
    · rw [setT_ne _ _ e2] at hm
      rcases h.pend m v hm hmn with h1 | h1
      · exact .inl (hH.mem_iff.2 (List.mem_cons_of_mem _ h1))
      · exact .inr fun x hx hxf s' a' hn' hp' => by
          obtain ⟨u, hu, hle⟩ := h1 x hx hxf s' a' hn' hp'
          obtain ⟨u', h2, h3⟩ := setT_le hl hu
          exact ⟨u', h2, by omega⟩
  · rcases List.mem_append.1 hx with h1 | h1
    · obtain ⟨u, hu, hle⟩ := h.past x h1 s' a' hn' hp'
      obtain ⟨u', h2, h3⟩ := setT_le hl hu
      exact ⟨u', h2, by omega⟩
    · rw [List.mem_singleton.1 h1] at hp' ⊢
      rw [hp] at hp'
      injection hp' with hp'
      injection hp' with _ e2
      subst e2
      exact ⟨_, setT_same _ _ _, Int.le_refl _⟩
/-- How much earlier all may become: it falls with each time that is laid. -/
def phiAt (T : Int → Option Int) (n : Int) : Nat := match T n with | none => 2199023255553 | some u => u.toNat
def phi (T : Int → Option Int) : Nat → Nat
  | 0 => 0
  | k + 1 => phi T k + phiAt T ((k : Int) + 1)
theorem phi_off {T : Int → Option Int} {n a : Int} : ∀ {k : Nat}, (k : Int) < n → phi (setT T n a) k = phi T k
  | 0, _ => rfl
  | k + 1, h => by
    have h1 : phi (setT T n a) k = phi T k := phi_off (by omega)
    have h2 : phiAt (setT T n a) ((k : Int) + 1) = phiAt T ((k : Int) + 1) := by
      unfold phiAt
      rw [setT_ne _ _ (by omega)]
    rw [phi, phi, h1, h2]
theorem phi_set {T : Int → Option Int} {n a : Int} (h0 : 0 ≤ a) (h2 : a ≤ 2199023255552) (hl : lessT T n a = true) : ∀ {k : Nat}, 1 ≤ n → n ≤ (k : Int) → phi (setT T n a) k + 1 ≤ phi T k
  | 0, h3, h4 => by omega
  | k + 1, h3, h4 => by
    by_cases e : n = (k : Int) + 1
    · have h5 : phi (setT T n a) k = phi T k := phi_off (by omega)
      have h6 : phiAt (setT T n a) ((k : Int) + 1) + 1 ≤ phiAt T ((k : Int) + 1) := by
        rw [← e]
        unfold phiAt
        rw [setT_same]
        unfold lessT at hl
        cases hu : T n with
        | none => simp only; omega
        | some u =>
          rw [hu] at hl
          have := of_decide_eq_true hl
          simp only
          omega
      rw [phi, phi, h5]
      omega
    · have h5 := phi_set h0 h2 hl (k := k) h3 (by omega)
      have h6 : phiAt (setT T n a) ((k : Int) + 1) = phiAt T ((k : Int) + 1) := by
        unfold phiAt
        rw [setT_ne _ _ (by omega)]
      rw [phi, phi, h6]
      omega
end Go.Proofs.YtmbaklodgpcegaaGreat
