/- Plain mathematics of walks: edges in order, who is found, followed, passed; nodes on the way; routes. Nothing of any program. -/
import Derived.Test.YtmbaklodgpcegaaGreatTyEd
import Derived.Test.YtmbaklodgpcegaaGreatGQ16
import Derived.Test.YtmbaklodgpcegaaGreatGQ5
namespace Go.Proofs.YtmbaklodgpcegaaGreat
open Go.ChangeShapes Go.WideShapes Go.ChangeAt Go.RowKit Go.Sort
set_option linter.unusedSimpArgs false
set_option linter.unusedVariables false
def stepE (l : List Ed) (i : Nat) : Bool := (gEd l i).ok && (i == 0 || decide ((gEd l (i - 1)).id < (gEd l i).id))
/-- All edges are right, their IDs rise. -/
def rightE (l : List Ed) : Bool := (List.range l.length).all (stepE l)
theorem rightE_true {l : List Ed} : rightE l = true ↔ ∀ i, i < l.length → stepE l i = true := by simp [rightE, List.all_eq_true]
theorem rightE_false {l : List Ed} {i : Nat} (hi : i < l.length) (h : stepE l i = false) : rightE l = false := by
  rw [Bool.eq_false_iff]; intro e
  have := rightE_true.1 e i hi
  rw [h] at this; cases this
theorem rightE_at {l : List Ed} (h : rightE l = true) {i : Nat} (hi : i < l.length) : (gEd l i).ok = true ∧ (i ≠ 0 → (gEd l (i - 1)).id < (gEd l i).id) := by
  have := rightE_true.1 h i hi
  unfold stepE at this
  simp only [Bool.and_eq_true, Bool.or_eq_true, beq_iff_eq, decide_eq_true_eq] at this
  exact ⟨this.1, fun h0 => this.2.resolve_left h0⟩
theorem rightE_lt {l : List Ed} (h : rightE l = true) : ∀ (j i : Nat), i < j → j < l.length → (gEd l i).id < (gEd l j).id
  | 0, i, h1, _ => by omega
  | j + 1, i, h1, h2 => by
    have hs := (rightE_at h h2).2 (by omega)
    rw [Nat.add_sub_cancel] at hs
    by_cases e : i = j
    · rw [e]; exact hs
    · have := rightE_lt h j i (by omega) (by omega); omega
theorem mem_gEd {l : List Ed} {e : Ed} (h : e ∈ l) : ∃ i, i < l.length ∧ gEd l i = e := by
  obtain ⟨i, hi, rfl⟩ := List.getElem_of_mem h
  exact ⟨i, hi, gEd_eq hi⟩
theorem rightE_ok {l : List Ed} (h : rightE l = true) {e : Ed} (he : e ∈ l) : e.ok = true := by
  obtain ⟨i, hi, rfl⟩ := mem_gEd he
  exact (rightE_at h hi).1
def findE (l : List Ed) (id : Int) : Option Ed := l.find? (fun e => e.id == id)
theorem findE_some {l : List Ed} {id : Int} {e : Ed} (h : findE l id = some e) : e ∈ l ∧ e.id = id :=
  ⟨List.mem_of_find?_eq_some h, by simpa using List.find?_some h⟩
theorem findE_at {l : List Ed} {id : Int} {i : Nat} (hi : i < l.length) (he : (gEd l i).id = id) (hn : ∀ j, j < i → (gEd l j).id ≠ id) : findE l id = some (gEd l i) := by
  unfold findE
  rw [List.find?_eq_some_iff_getElem]
  refine ⟨by simpa using he, i, hi, (gEd_eq hi).symm, fun j hj => ?_⟩
  have := hn j hj
  rw [gEd_eq (by omega : j < l.length)] at this
  simpa using this
theorem findE_right {l : List Ed} (h : rightE l = true) {i : Nat} (hi : i < l.length) : findE l (gEd l i).id = some (gEd l i) :=
  findE_at hi rfl fun j hj => by have := rightE_lt h i j hj hi; omega
theorem findE_none {l : List Ed} {id : Int} (hn : ∀ j, j < l.length → (gEd l j).id ≠ id) : findE l id = none := by
  unfold findE
  rw [List.find?_eq_none]
  intro x hx
  obtain ⟨j, hj, rfl⟩ := mem_gEd hx
  simpa using hn j hj
theorem findE_no {l : List Ed} {id : Int} (h : findE l id = none) {j : Nat} (hj : j < l.length) : (gEd l j).id ≠ id := by
  unfold findE at h
  rw [List.find?_eq_none] at h
  simpa using h _ (gEd_mem hj)
/-- The edges of ids, if each is from where the one ahead leads. -/
def followE (l : List Ed) : List Int → Int → Option (List Ed)
  | [], _ => some []
  | id :: r, q => match findE l id with
    | none => none
    | some e => if e.fr = q then (followE l r e.tn).map (e :: ·) else none
theorem followE_nil (l : List Ed) (q : Int) : followE l [] q = some [] := rfl
theorem followE_none {l : List Ed} {id : Int} {r : List Int} {q : Int} (h : findE l id = none) : followE l (id :: r) q = none := by simp [followE, h]
theorem followE_off {l : List Ed} {id : Int} {r : List Int} {q : Int} {e : Ed} (h : findE l id = some e) (hq : e.fr ≠ q) : followE l (id :: r) q = none := by simp [followE, h, hq]
theorem followE_on {l : List Ed} {id : Int} {r : List Int} {q : Int} {e : Ed} (h : findE l id = some e) (hq : e.fr = q) : followE l (id :: r) q = (followE l r e.tn).map (e :: ·) := by simp [followE, h, hq]
theorem followE_cons {l : List Ed} {id : Int} {r : List Int} {q : Int} {es : List Ed} (h : followE l (id :: r) q = some es) : ∃ e es', findE l id = some e ∧ e.fr = q ∧ followE l r e.tn = some es' ∧ es = e :: es' := by
  cases hf : findE l id with
  | none => rw [followE_none hf] at h; cases h
  | some e =>
    by_cases hq : e.fr = q
    · rw [followE_on hf hq] at h
      cases hr : followE l r e.tn with
      | none => rw [hr] at h; cases h
      | some es' => rw [hr] at h; simp at h; exact ⟨e, es', rfl, hq, hr, h.symm⟩
    · rw [followE_off hf hq] at h; cases h
theorem followE_mem {l : List Ed} : ∀ {ids : List Int} {q : Int} {es : List Ed}, followE l ids q = some es → ∀ e ∈ es, e ∈ l
  | [], q, es, h, e, he => by rw [followE_nil] at h; cases h; cases he
  | id :: r, q, es, h, e, he => by
    obtain ⟨e0, es', h1, h2, h3, rfl⟩ := followE_cons h
    rcases List.mem_cons.1 he with rfl | he
    · exact (findE_some h1).1
    · exact followE_mem h3 e he
theorem followE_len {l : List Ed} : ∀ {ids : List Int} {q : Int} {es : List Ed}, followE l ids q = some es → es.length = ids.length
  | [], q, es, h => by rw [followE_nil] at h; cases h; rfl
  | id :: r, q, es, h => by
    obtain ⟨e0, es', h1, h2, h3, rfl⟩ := followE_cons h
    simp [followE_len h3]
theorem followE_ids {l : List Ed} : ∀ {ids : List Int} {q : Int} {es : List Ed}, followE l ids q = some es → es.map Ed.id = ids
  | [], q, es, h => by rw [followE_nil] at h; cases h; rfl
  | id :: r, q, es, h => by
    obtain ⟨e0, es', h1, h2, h3, rfl⟩ := followE_cons h
    simp [followE_ids h3, (findE_some h1).2]
/-- The nodes on the way. -/
def nodesE (q : Int) (es : List Ed) : List Int := q :: es.map Ed.tn
theorem nodesE_cons (q : Int) (e : Ed) (es : List Ed) : nodesE q (e :: es) = q :: nodesE e.tn es := rfl
theorem gEd_succ (e : Ed) (es : List Ed) (i : Nat) : gEd (e :: es) (i + 1) = gEd es i := by unfold gEd; rw [List.getD_cons_succ]
theorem gEd_zero (e : Ed) (es : List Ed) : gEd (e :: es) 0 = e := by unfold gEd; rw [List.getD_cons_zero]
theorem gHp_succ (e : Hp) (es : List Hp) (i : Nat) : gHp (e :: es) (i + 1) = gHp es i := by unfold gHp; rw [List.getD_cons_succ]
theorem gHp_zero (e : Hp) (es : List Hp) : gHp (e :: es) 0 = e := by unfold gHp; rw [List.getD_cons_zero]
theorem followE_at {l : List Ed} : ∀ {ids : List Int} {q : Int} {es : List Ed}, followE l ids q = some es → ∀ i, i < es.length → (gEd es i).fr = (nodesE q es).getD i 0 ∧ (nodesE q es).getD (i + 1) 0 = (gEd es i).tn ∧ findE l (ids.getD i 0) = some (gEd es i)
  | [], q, es, h, i, hi => by rw [followE_nil] at h; cases h; simp at hi
  | id :: r, q, es, h, i, hi => by
    obtain ⟨e0, es', h1, h2, h3, rfl⟩ := followE_cons h
    cases i with
    | zero => rw [gEd_zero, nodesE_cons, List.getD_cons_zero, List.getD_cons_succ, List.getD_cons_zero]; exact ⟨h2, rfl, h1⟩
    | succ i =>
      rw [gEd_succ, nodesE_cons, List.getD_cons_succ, List.getD_cons_succ, List.getD_cons_succ]
      exact followE_at h3 i (by simpa using hi)
theorem followE_app {l : List Ed} : ∀ (a b : List Int) (q : Int), followE l (a ++ b) q = (followE l a q).bind fun es => (followE l b ((nodesE q es).getD a.length 0)).map (es ++ ·)
  | [], b, q => by
    simp only [followE_nil, List.nil_append, List.length_nil, Option.bind_some]
    show followE l b q = (followE l b q).map ([] ++ ·)
    cases followE l b q <;> rfl
  | id :: r, b, q => by
    rw [List.cons_append]
    cases hf : findE l id with
    | none => rw [followE_none hf, followE_none hf]; rfl
    | some e =>
      by_cases hq : e.fr = q
      · rw [followE_on hf hq, followE_on hf hq, followE_app r b e.tn]
        cases hr : followE l r e.tn with
        | none => rfl
        | some es =>
          simp only [Option.bind_some, Option.map_some, List.length_cons]
          have : (nodesE q (e :: es)).getD (r.length + 1) 0 = (nodesE e.tn es).getD r.length 0 := by rw [nodesE_cons, List.getD_cons_succ]
          rw [this]
          cases followE l b ((nodesE e.tn es).getD r.length 0) <;> rfl
      · rw [followE_off hf hq, followE_off hf hq]; rfl
/-- The hops by these edges, if all pass. -/
def passE (size : Int) : List Ed → Int → Option (List Hp)
  | [], _ => some []
  | e :: r, t => (e.pass t size).bind fun p => (passE size r p.2).map (⟨e.id, p.1, p.2⟩ :: ·)
theorem passE_nil (size t : Int) : passE size [] t = some [] := rfl
theorem passE_step (size t : Int) (e : Ed) (r : List Ed) : passE size (e :: r) t = (e.pass t size).bind fun p => (passE size r p.2).map (⟨e.id, p.1, p.2⟩ :: ·) := rfl
theorem passE_no {size t : Int} {e : Ed} {r : List Ed} (h : e.pass t size = none) : passE size (e :: r) t = none := by rw [passE_step, h]; rfl
theorem passE_yes {size t a b : Int} {e : Ed} {r : List Ed} (h : e.pass t size = some (a, b)) : passE size (e :: r) t = (passE size r b).map (⟨e.id, a, b⟩ :: ·) := by rw [passE_step, h]; rfl
theorem passE_cons {size t : Int} {e : Ed} {r : List Ed} {hs : List Hp} (h : passE size (e :: r) t = some hs) : ∃ a b hs', e.pass t size = some (a, b) ∧ passE size r b = some hs' ∧ hs = ⟨e.id, a, b⟩ :: hs' := by
  cases hp : e.pass t size with
  | none => rw [passE_no hp] at h; cases h
  | some p =>
    obtain ⟨a, b⟩ := p
    rw [passE_yes hp] at h
    cases hr : passE size r b with
    | none => rw [hr] at h; cases h
    | some hs' => rw [hr] at h; simp at h; exact ⟨a, b, hs', rfl, hr, h.symm⟩
/-- When what was ready at t is there, behind these hops. -/
def arrE (t : Int) (hs : List Hp) : Int := match hs.getLast? with
  | none => t
  | some h => h.ar
theorem arrE_cons (t : Int) (h : Hp) (r : List Hp) : arrE t (h :: r) = arrE h.ar r := by
  unfold arrE
  cases r with
  | nil => rfl
  | cons x r => rw [List.getLast?_cons_cons]; cases hr : (x :: r).getLast? with
    | none => simp at hr
    | some y => rfl
theorem arrE_nil (t : Int) : arrE t [] = t := rfl
theorem arrE_at {t : Int} {hs : List Hp} (h : hs ≠ []) : arrE t hs = (gHp hs (hs.length - 1)).ar := by
  unfold arrE
  rw [List.getLast?_eq_getElem?]
  have : hs.length - 1 < hs.length := by have := List.length_pos_iff.2 h; omega
  rw [List.getElem?_eq_getElem this, gHp_eq this]
theorem passE_len {size : Int} : ∀ {es : List Ed} {t : Int} {hs : List Hp}, passE size es t = some hs → hs.length = es.length
  | [], t, hs, h => by rw [passE_nil] at h; cases h; rfl
  | e :: r, t, hs, h => by
    obtain ⟨a, b, hs', h1, h2, rfl⟩ := passE_cons h
    simp [passE_len h2]
theorem passE_ids {size : Int} : ∀ {es : List Ed} {t : Int} {hs : List Hp}, passE size es t = some hs → hs.map Hp.id = es.map Ed.id
  | [], t, hs, h => by rw [passE_nil] at h; cases h; rfl
  | e :: r, t, hs, h => by
    obtain ⟨a, b, hs', h1, h2, rfl⟩ := passE_cons h
    simp [passE_ids h2]
/-- When what is asked to be sent by hop i is ready. -/
def readyE (t : Int) (hs : List Hp) (i : Nat) : Int := if i = 0 then t else (gHp hs (i - 1)).ar
theorem passE_at {size : Int} : ∀ {es : List Ed} {t : Int} {hs : List Hp}, passE size es t = some hs → ∀ i, i < es.length → (gEd es i).pass (readyE t hs i) size = some ((gHp hs i).se, (gHp hs i).ar) ∧ (gHp hs i).id = (gEd es i).id
  | [], t, hs, h, i, hi => by simp at hi
  | e :: r, t, hs, h, i, hi => by
    obtain ⟨a, b, hs', h1, h2, rfl⟩ := passE_cons h
    cases i with
    | zero => rw [gEd_zero, gHp_zero]; exact ⟨h1, rfl⟩
    | succ i =>
      have := passE_at h2 i (by simpa using hi)
      rw [gEd_succ, gHp_succ]
      refine ⟨?_, this.2⟩
      have e1 : readyE t (⟨e.id, a, b⟩ :: hs') (i + 1) = readyE b hs' i := by
        unfold readyE
        rw [if_neg (by omega), Nat.add_sub_cancel]
        cases i with
        | zero => rw [if_pos rfl, gHp_zero]
        | succ i => rw [if_neg (by omega), gHp_succ, Nat.add_sub_cancel]
      rw [e1]; exact this.1
theorem passE_app {size : Int} : ∀ (a b : List Ed) (t : Int), passE size (a ++ b) t = (passE size a t).bind fun hs => (passE size b (arrE t hs)).map (hs ++ ·)
  | [], b, t => by
    simp only [passE_nil, List.nil_append, Option.bind_some, arrE_nil]
    cases passE size b t <;> rfl
  | e :: r, b, t => by
    rw [List.cons_append]
    cases hp : e.pass t size with
    | none => rw [passE_no hp, passE_no hp]; rfl
    | some p =>
      obtain ⟨x, y⟩ := p
      rw [passE_yes hp, passE_yes hp, passE_app r b y]
      cases hr : passE size r y with
      | none => rfl
      | some hs =>
        simp only [Option.bind_some, Option.map_some, arrE_cons]
        cases passE size b (arrE y hs) <;> rfl
/-- Less, or earlier, passes as well, and is there no later. -/
theorem passE_mono {size more : Int} (h0 : 0 ≤ size) (h1 : size ≤ more) : ∀ {es : List Ed} {t u : Int} {bs : List Hp}, 0 ≤ t → t ≤ u → passE more es u = some bs → ∃ cs, passE size es t = some cs ∧ cs.length = bs.length ∧ ∀ i, i < cs.length → (gHp cs i).id = (gHp bs i).id ∧ (gHp cs i).se ≤ (gHp bs i).se ∧ (gHp cs i).ar ≤ (gHp bs i).ar
  | [], t, u, bs, _, _, h => by rw [passE_nil] at h; cases h; exact ⟨[], rfl, rfl, fun i hi => by simp at hi⟩
  | e :: r, t, u, bs, ht, htu, h => by
    obtain ⟨a, b, bs', h2, h3, rfl⟩ := passE_cons h
    obtain ⟨b1, p1, q1, _, _, _, _, _, q2, q3⟩ := pass_less h0 h1 h2
    obtain ⟨a2, b2, p2, q4, q5, q6, q7, _⟩ := pass_earlier ht htu p1
    obtain ⟨cs, r1, r2, r3⟩ := passE_mono h0 h1 (t := b2) (u := b) (by omega) (by omega) h3
    refine ⟨⟨e.id, a2, b2⟩ :: cs, by rw [passE_yes p2, r1]; rfl, by simp [r2], fun i hi => ?_⟩
    cases i with
    | zero => rw [gHp_zero, gHp_zero]; exact ⟨rfl, q4, by show b2 ≤ b; omega⟩
    | succ i => rw [gHp_succ, gHp_succ]; exact r3 i (by simpa using hi)
def askE (l : List Ed) (q now size : Int) : Bool := nodeB q && inB now 0 1099511627776 && inB size 0 1099511627775 && rightE l
def walkE (l : List Ed) (ids : List Int) (q now size : Int) : Option (List Hp) := if askE l q now size = true then (followE l ids q).bind fun es => passE size es now else none
def endsE (l : List Ed) (ids : List Int) (q : Int) : Option (List Int) := if askE l q 0 0 = true then (followE l ids q).map (nodesE q) else none
def leadE (ns : List Int) (tt : Int) : Bool := decide ns.Nodup && decide (ns.getD (ns.length - 1) 0 = tt)
def routeE (l : List Ed) (ids : List Int) (q tt now size : Int) : Option (List Hp × Int) :=
  if askE l q now size = true ∧ nodeB tt = true then (followE l ids q).bind fun es => if leadE (nodesE q es) tt = true then (passE size es now).map fun h => (h, arrE now h) else none else none
theorem askE_ends {l : List Ed} {q now size : Int} (h : askE l q now size = true) : askE l q 0 0 = true := by
  unfold askE at h ⊢
  simp only [Bool.and_eq_true] at h ⊢
  exact ⟨⟨⟨h.1.1.1, by decide⟩, by decide⟩, h.2⟩
theorem askE_spec {l : List Ed} {q now size : Int} : askE l q now size = true ↔ (1 ≤ q ∧ q ≤ 255) ∧ (0 ≤ now ∧ now ≤ 1099511627776) ∧ (0 ≤ size ∧ size ≤ 1099511627775) ∧ rightE l = true := by
  unfold askE
  simp only [Bool.and_eq_true, nodeB_spec, inB_spec, and_assoc]
theorem walkE_some {l : List Ed} {ids : List Int} {q now size : Int} {hs : List Hp} (h : walkE l ids q now size = some hs) : ∃ es, askE l q now size = true ∧ followE l ids q = some es ∧ passE size es now = some hs := by
  unfold walkE at h
  split at h
  · rename_i ha
    cases hf : followE l ids q with
    | none => rw [hf] at h; cases h
    | some es => rw [hf] at h; exact ⟨es, ha, rfl, h⟩
  · cases h
theorem walkE_of {l : List Ed} {ids : List Int} {q now size : Int} {es : List Ed} (ha : askE l q now size = true) (hf : followE l ids q = some es) : walkE l ids q now size = passE size es now := by
  unfold walkE; rw [if_pos ha, hf]; rfl
theorem endsE_of {l : List Ed} {ids : List Int} {q : Int} {es : List Ed} (ha : askE l q 0 0 = true) (hf : followE l ids q = some es) : endsE l ids q = some (nodesE q es) := by
  unfold endsE; rw [if_pos ha, hf]; rfl
theorem routeE_some {l : List Ed} {ids : List Int} {q tt now size : Int} {p : List Hp × Int} (h : routeE l ids q tt now size = some p) : ∃ es hs, askE l q now size = true ∧ nodeB tt = true ∧ followE l ids q = some es ∧ leadE (nodesE q es) tt = true ∧ passE size es now = some hs ∧ p = (hs, arrE now hs) := by
  unfold routeE at h
  split at h
  · rename_i ha
    cases hf : followE l ids q with
    | none => rw [hf] at h; cases h
    | some es =>
      rw [hf] at h
      simp only [Option.bind_some] at h
      split at h
      · rename_i hl
        cases hp : passE size es now with
        | none => rw [hp] at h; cases h
        | some hs => rw [hp] at h; simp at h; exact ⟨es, hs, ha.1, ha.2, rfl, hl, hp, h.symm⟩
      · cases h
  · cases h
theorem routeE_of {l : List Ed} {ids : List Int} {q tt now size : Int} {es : List Ed} {hs : List Hp} (ha : askE l q now size = true) (ht : nodeB tt = true) (hf : followE l ids q = some es) (hl : leadE (nodesE q es) tt = true) (hp : passE size es now = some hs) : routeE l ids q tt now size = some (hs, arrE now hs) := by
  unfold routeE; rw [if_pos ⟨ha, ht⟩, hf]; simp [hl, hp]
theorem nodesE_len (q : Int) (es : List Ed) : (nodesE q es).length = es.length + 1 := by simp [nodesE]
theorem leadE_spec {ns : List Int} {tt : Int} : leadE ns tt = true ↔ ns.Nodup ∧ ns.getD (ns.length - 1) 0 = tt := by
  unfold leadE; simp only [Bool.and_eq_true, decide_eq_true_eq]
theorem nodup_ne {ns : List Int} (h : ns.Nodup) {i j : Nat} (hij : i < j) (hj : j < ns.length) : ns.getD i 0 ≠ ns.getD j 0 := by
  rw [List.getD_eq_getElem?_getD, List.getD_eq_getElem?_getD, List.getElem?_eq_getElem hj, List.getElem?_eq_getElem (by omega)]
  exact List.pairwise_iff_getElem.1 h i j _ _ hij
end Go.Proofs.YtmbaklodgpcegaaGreat
