/- What the latest times tell: for the laws. Plain facts. -/
import Derived.Test.YtmibgfenobekjaaGQ21
import Derived.Test.YtmibgfenobekjaaGQ15
namespace Go.Proofs.Ytmibgfenobekjaa
open Go.ChangeShapes Go.WideShapes Go.ChangeAt Go.RowKit Go.Sort Hp
set_option linter.unusedSimpArgs false
set_option linter.unusedVariables false
theorem few_pick (c : Bool) (l : List Ed) (size : Int) (op : Int → Bool) (q by_ x now : Int) : ∃ o, (c = true → IsFew l size op q by_ x now o) ∧ (c = false → o = none) := by
  cases c with
  | false => exact ⟨none, (fun h => by cases h), fun _ => rfl⟩
  | true =>
    obtain ⟨o, ho⟩ := few_ex l size op q by_ x now
    exact ⟨o, (fun _ => ho), (fun h => by cases h)⟩
theorem opn_nil (q : Int) : (fun y => !opn [] q y) = freeE := by
  funext y
  unfold opn freeE
  simp
theorem opn_all (q y : Int) : opn [] q y = true := by unfold opn; simp
theorem meets_iff {l : List Ed} {x q now by_ size : Int} {T : Int → Option Int} (hx : askE l x now size = true) (h0 : 0 ≤ by_) (hb : by_ ≤ 1099511627776) (hE : Early l size (shutE [] x) x now T) : (∃ u, T q = some u ∧ u ≤ by_) ↔ ∃ v, lateL l size (opn [] q) q by_ l.length x = some v ∧ now ≤ v := by
  have hn := (askE_spec.1 hx).2.1.1
  constructor
  · rintro ⟨u, hu, hle⟩
    obtain ⟨es, hes, hr⟩ := hE.rch q u hu
    obtain ⟨es', u', h1, h2, h3, h4⟩ := runE_few hn es.length (Nat.le_refl _) hes hr
    exact lateL_complete hb h0 l.length h1 h2 (by rw [opn_nil]; exact runE_free h3) (by omega)
  · rintro ⟨v, hv, hle⟩
    obtain ⟨es, u, h1, h2, h3, h4⟩ := lateL_sound l.length hv hn hle
    obtain ⟨u', h5, h6⟩ := hE.walk hn h1 hE.start (Int.le_refl _) h3
    exact ⟨u', h5, by omega⟩
/-- LateMeets. -/
theorem meets_math {l : List Ed} {x q now by_ size : Int} {ra rb : List (Int × Int)} (hn : 0 ≤ now ∧ now ≤ 1099511627776) (hb : 0 ≤ by_ ∧ by_ ≤ 1099511627776) (ha : IsTimes l x now size [] ra) (hl : IsLateT l q by_ size l.length [] rb) : reachB ra q by_ = ((atR rb x).isSome && decide (now ≤ (atR rb x).getD 0)) := by
  by_cases hq : askE l q by_ size = true
  · have hL := hl.yes hq (by omega)
    rw [Int.toNat_natCast] at hL
    obtain ⟨q1, q2, q3, q4⟩ := askE_spec.1 hq
    by_cases hx : 1 ≤ x ∧ x ≤ 255
    · have hax : askE l x now size = true := askE_spec.2 ⟨hx, hn, q3, q4⟩
      have hm := meets_iff (q := q) hax hb.1 hb.2 (ha.yes hax)
      rw [← hL] at hm
      unfold reachB
      rw [Bool.eq_iff_iff]
      constructor
      · intro h
        cases hT : atR ra q with
        | none => rw [hT] at h; cases h
        | some u =>
          rw [hT] at h
          obtain ⟨v, hv, hle⟩ := hm.1 ⟨u, hT, of_decide_eq_true h⟩
          rw [hv]; simpa using hle
      · intro h
        cases hv : atR rb x with
        | none => rw [hv] at h; cases h
        | some v =>
          rw [hv] at h
          obtain ⟨u, hu, hle⟩ := hm.2 ⟨v, hv, by simpa using h⟩
          rw [hu]; exact decide_eq_true hle
    · have hax : askE l x now size = false := by
        cases hc : askE l x now size with
        | false => rfl
        | true => exact absurd (askE_spec.1 hc).1 hx
      have h1 : atR rb x = none := by
        cases hv : atR rb x with
        | none => rfl
        | some v => rw [hL] at hv; exact absurd (lateL_node q4 q1 _ x v hv) hx
      rw [h1, ha.no hax]; rfl
  · have hq' : askE l q by_ size = false := by simpa using hq
    rw [hl.no (.inl hq')]
    unfold reachB
    cases hT : atR ra q with
    | none => rfl
    | some u =>
      have hax := ha.ask hT
      obtain ⟨x1, x2, x3, x4⟩ := askE_spec.1 hax
      have := ((ha.yes hax).rch q u hT).node x4 x1
      exact absurd (askE_spec.2 ⟨this, hb, x3, x4⟩) hq
/-- LateMore. -/
theorem more_math {l : List Ed} {q by_ later size hops : Int} {sh : List Int} {ra rx ry rz : List (Int × Int)} (h0 : 0 ≤ by_) (h1 : by_ ≤ later) (h2 : later ≤ 1099511627776) (h3 : 0 ≤ hops) (ha : IsLateT l q by_ size hops sh ra) (hx : IsLateT l q by_ size (hops + 1) sh rx) (hy : IsLateT l q later size hops sh ry) (hz : IsLateT l q by_ size hops [] rz) :
    (∀ k, k < ra.length → (∃ u, atR rx (gt ra k).1 = some u ∧ (gt ra k).2 ≤ u) ∧ (∃ u, atR ry (gt ra k).1 = some u ∧ (gt ra k).2 ≤ u) ∧ ∃ u, atR rz (gt ra k).1 = some u ∧ (gt ra k).2 ≤ u) ∧ (0 < ra.length → atR ra q = some by_) := by
  cases hq : askE l q by_ size with
  | false =>
    rw [ha.no (.inl hq)]
    exact ⟨fun k hk => by simp at hk, fun h => by simp at h⟩
  | true =>
    obtain ⟨q1, q2, q3, q4⟩ := askE_spec.1 hq
    have hql : askE l q later size = true := askE_spec.2 ⟨q1, ⟨by omega, h2⟩, q3, q4⟩
    have eA := ha.yes hq h3
    have eX := hx.yes hq (by omega)
    have eY := hy.yes hql h3
    have eZ := hz.yes hq h3
    have eX' : (hops + 1).toNat = hops.toNat + 1 := by omega
    rw [eX'] at eX
    refine ⟨fun k hk => ?_, fun _ => by rw [eA]; exact lateL_end _⟩
    have h := atR_gt ha.srt hk
    rw [eA] at h
    refine ⟨?_, ?_, ?_⟩
    · rw [eX]; exact lateL_up (Nat.le_succ _) _ _ h
    · rw [eY]; exact lateL_mono (fun _ h => h) h0 h1 h2 _ _ _ h
    · rw [eZ]; exact lateL_mono (fun y _ => opn_all q y) h0 (Int.le_refl _) (by omega) _ _ _ h
/-- LateFewest. -/
theorem fewest_math {l : List Ed} {x q now by_ size : Int} {o : Option Nat} {ra : List (Int × Int)} (hn : 0 ≤ now ∧ now ≤ 1099511627776) (hb : 0 ≤ by_ ∧ by_ ≤ 1099511627776) (ha : IsTimes l x now size [] ra) (ho : (askE l x now size && nodeB q && inB by_ 0 1099511627776) = true → IsFew l size (opn [] q) q by_ x now o) (hno : (askE l x now size && nodeB q && inB by_ 0 1099511627776) = false → o = none) : o.isSome = reachB ra q by_ := by
  have hib : inB by_ 0 1099511627776 = true := by unfold inB; exact decide_eq_true hb
  rw [hib, Bool.and_true] at ho hno
  cases hc : (askE l x now size && nodeB q) with
  | false =>
    rw [hno hc]
    unfold reachB
    cases hT : atR ra q with
    | none => rfl
    | some u =>
      have hax := ha.ask hT
      obtain ⟨x1, x2, x3, x4⟩ := askE_spec.1 hax
      have h1 := ((ha.yes hax).rch q u hT).node x4 x1
      have h2 : nodeB q = true := by unfold nodeB inB; exact decide_eq_true h1
      rw [hax, h2] at hc
      cases hc
  | true =>
    have hf := ho hc
    rw [Bool.and_eq_true] at hc
    have hax := hc.1
    have hm := meets_iff (q := q) hax hb.1 hb.2 (ha.yes hax)
    unfold reachB
    rw [Bool.eq_iff_iff]
    constructor
    · intro h
      obtain ⟨k, rfl⟩ := Option.isSome_iff_exists.1 h
      obtain ⟨⟨t, ht, hnt⟩, _⟩ := hf
      have h3 : ∃ v, lateL l size (opn [] q) q by_ l.length x = some v ∧ now ≤ v := by
        rcases Nat.le_total k l.length with e | e
        · obtain ⟨v, hv, hle⟩ := lateL_up e x t ht
          exact ⟨v, hv, by omega⟩
        · rw [lateL_all hb.2 hb.1 e] at ht
          exact ⟨t, ht, hnt⟩
      obtain ⟨u, hu, hle⟩ := hm.2 h3
      rw [hu]; exact decide_eq_true hle
    · intro h
      cases hT : atR ra q with
      | none => rw [hT] at h; cases h
      | some u =>
        rw [hT] at h
        obtain ⟨v, hv, hle⟩ := hm.1 ⟨u, hT, of_decide_eq_true h⟩
        cases o with
        | some k => rfl
        | none => have := hf l.length v hv; omega
theorem fewest_math2 {l : List Ed} {x q now by_ size : Int} {h : Nat} (hb : 0 ≤ by_ ∧ by_ ≤ 1099511627776) (ho : IsFew l size (opn [] q) q by_ x now (some h)) : h ≤ l.length ∧ (∃ t, lateL l size (opn [] q) q by_ h x = some t ∧ now ≤ t) ∧ (∀ k u, k + 1 = h → lateL l size (opn [] q) q by_ k x = some u → u < now) ∧ (h = 0 ↔ x = q) := by
  obtain ⟨⟨t, ht, hnt⟩, hmin⟩ := ho
  refine ⟨?_, ⟨t, ht, hnt⟩, fun k u hk hu => hmin k (by omega) u hu, ?_⟩
  · rcases Nat.le_total h l.length with e | e
    · exact e
    · rcases Nat.eq_or_lt_of_le e with e2 | e2
      · omega
      · rw [lateL_all hb.2 hb.1 e] at ht
        have := hmin l.length e2 t ht
        omega
  · constructor
    · rintro rfl
      unfold lateL oneT at ht
      split at ht
      · assumption
      · cases ht
    · rintro rfl
      rw [lateL_end] at ht
      injection ht with ht
      rcases Nat.eq_zero_or_pos h with e | e
      · exact e
      · have := hmin 0 e by_ (lateL_end 0)
        omega
/-- LateEdges. -/
theorem late_why {l : List Ed} {size : Int} {op : Int → Bool} {q by_ : Int} (h0 : 0 ≤ by_) (hb : by_ ≤ 1099511627776) : ∀ h n u, lateL l size op q by_ (h + 1) n = some u → n = q ∨ ∃ e ∈ l, e.fr = n ∧ op e.tn = true ∧ ∃ t, lateL l size op q by_ h e.tn = some t ∧ e.latest t size = some u
  | 0, n, u, hu => by
    rcases (lateL_step 0).why n u hu with h1 | ⟨_, e, he, hf, ho, t, ht, hx⟩
    · unfold lateL oneT at h1
      split at h1
      · exact .inl (by assumption)
      · cases h1
    · exact .inr ⟨e, he, hf, ho, t, ht, hx⟩
  | h + 1, n, u, hu => by
    rcases (lateL_step (h + 1)).why n u hu with h1 | ⟨_, e, he, hf, ho, t, ht, hx⟩
    · rcases late_why h0 hb h n u h1 with h2 | ⟨e, he, hf, ho, t0, ht0, hx0⟩
      · exact .inl h2
      · by_cases hn : n = q
        · exact .inl hn
        · obtain ⟨t1, ht1, hle⟩ := (lateL_step h).low e.tn t0 ht0
          obtain ⟨x, hx, hux⟩ := lat_mono hx0 hle (by have := lateL_bounds h0 (h + 1) e.tn t1 ht1; omega)
          obtain ⟨v, hv, hxv⟩ := (lateL_step (by_ := by_) (h + 1)).edge e he (by rw [hf]; exact hn) ho t1 x ht1 hx
          rw [hf, hu] at hv
          injection hv with hv
          have : x = u := by omega
          exact .inr ⟨e, he, hf, ho, t1, ht1, by rw [← this]; exact hx⟩
    · exact .inr ⟨e, he, hf, ho, t, ht, hx⟩
theorem edges_math {l : List Ed} {q by_ size hops : Int} {ra rb : List (Int × Int)} (h1 : 1 ≤ hops) (ha : IsLateT l q by_ size hops [] ra) (hb : IsLateT l q by_ size (hops - 1) [] rb) :
    (∀ e ∈ l, e.fr ≠ q → ∀ t x, atR rb e.tn = some t → e.latest t size = some x → ∃ u, atR ra e.fr = some u ∧ x ≤ u) ∧
    (∀ k, k < ra.length → (gt ra k).1 = q ∨ ∃ e ∈ l, e.fr = (gt ra k).1 ∧ ∃ t, atR rb e.tn = some t ∧ e.latest t size = some (gt ra k).2) ∧ rb.length ≤ ra.length := by
  cases hq : askE l q by_ size with
  | false =>
    rw [ha.no (.inl hq), hb.no (.inl hq)]
    exact ⟨(fun e _ _ t x ht => by cases ht), (fun k hk => by simp at hk), by simp⟩
  | true =>
    obtain ⟨q1, q2, q3, q4⟩ := askE_spec.1 hq
    have eA := ha.yes hq (by omega)
    have eB := hb.yes hq (by omega)
    have e1 : hops.toNat = (hops - 1).toNat + 1 := by omega
    rw [e1] at eA
    refine ⟨fun e he hf t x ht hx => ?_, fun k hk => ?_, srt_len hb.srt fun y hy => ?_⟩
    · rw [eB] at ht
      rw [eA]
      exact (lateL_step (hops - 1).toNat).edge e he hf (opn_all q _) t x ht hx
    · have h := atR_gt ha.srt hk
      rw [eA] at h
      rcases late_why q2.1 q2.2 _ _ _ h with h2 | ⟨e, he, hf, _, t, ht, hx⟩
      · exact .inl h2
      · exact .inr ⟨e, he, hf, t, by rw [eB]; exact ht, hx⟩
    · have h := hb.srt.at_ (show (y.1, y.2) ∈ rb from hy)
      rw [eB] at h
      obtain ⟨u, hu, _⟩ := lateL_up (Nat.le_succ (hops - 1).toNat) _ _ h
      exact ⟨u, by rw [eA]; exact hu⟩
end Go.Proofs.Ytmibgfenobekjaa
