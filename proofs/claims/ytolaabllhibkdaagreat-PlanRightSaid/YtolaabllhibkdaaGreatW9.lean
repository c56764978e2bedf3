/- Contracts and plain facts, several texts of mine in one: PlanMath3, TyAp, PlanSet. No condition. -/
import Derived.Test.YtolaabllhibkdaaGreatW8
import Derived.Test.YtolaabllhibkdaaGreatChecked

/- Plain facts on plans: what is listed makes the same tables again; step by step, all directives. No condition. -/
namespace Go.Proofs.YtolaabllhibkdaaGreat
open Go.ChangeShapes Go.WideShapes Go.ChangeAt Go.RowKit Go.Sort
set_option linter.unusedSimpArgs false
set_option linter.unusedVariables false
theorem while_all {α : Type} {p : α → Bool} {d : List α} (h : ∀ x ∈ d, p x = true) : d.takeWhile p = d ∧ d.dropWhile p = [] := by
  have := while_at p d d.length (Nat.le_refl _) (fun j hj _ => h _ (List.getElem_mem hj)) (fun h0 => absurd h0 (Nat.lt_irrefl _))
  simpa using this
theorem addT_next {d : List Co} (h : Kc.rightC d = true) {k : Nat} (hk : k < d.length) : Kc.mayC (d.take k) (gCo d k) = 0 ∧ addT (d.take k) (gCo d k) = d.take (k + 1) := by
  have hok : Kc.okC (gCo d k) = true := Kc.right_ok h _ (gCo_mem hk)
  have hlen : d.length ≤ 4096 := (Kc.rightC_true.1 h).1
  have hbef : ∀ y ∈ d.take k, Kc.befC y (gCo d k) := by
    intro y hy
    obtain ⟨j, hj, rfl⟩ := List.mem_take_iff_getElem.1 hy
    have := Kc.right_bef h k j (by omega) hk
    rwa [gCo_eq (by omega)] at this
  have hm : Kc.mayC (d.take k) (gCo d k) = 0 := by
    unfold Kc.mayC
    have h2 : ¬ (4096 ≤ (d.take k).length) := by
      have := List.length_take_le k d
      omega
    have h3 : (d.take k).any (fun o => o.id == (gCo d k).id) = false := by
      rw [List.any_eq_false]
      intro y hy e
      exact (hbef y hy).2.1 (by simpa using e)
    have h4 : (d.take k).any (fun o => Kc.overC o (gCo d k)) = false := by
      rw [List.any_eq_false]
      intro y hy e
      unfold Kc.overC at e
      rw [decide_eq_true_eq] at e
      have := (hbef y hy).2.2 e.1 e.2.1
      omega
    rw [if_neg (by rw [hok]; simp), if_neg h2, if_neg (by rw [h3]; simp), if_neg (by rw [h4]; simp)]
  refine ⟨hm, ?_⟩
  unfold addT
  rw [if_pos hm]
  obtain ⟨e1, e2⟩ := while_all (p := fun x => decide (Kc.cmpC x (gCo d k) < 0)) (d := d.take k) (fun x hx => by simpa using Kc.cmpC_lt.2 (hbef x hx).1)
  rw [e1, e2, List.append_nil, take_snocCo hk]
theorem addU_next {d : List Rg} (h : Kr.rightB d = true) {k : Nat} (hk : k < d.length) : Kr.mayF (d.take k) (gRg d k) = 0 ∧ addU (d.take k) (gRg d k) = d.take (k + 1) := by
  have hok : Kr.okR (gRg d k) = true := Kr.right_ok h _ (gRg_mem hk)
  have hlen : d.length ≤ 4096 := (Kr.rightB_true.1 h).1
  have hbef : ∀ y ∈ d.take k, Kr.befR y (gRg d k) := by
    intro y hy
    obtain ⟨j, hj, rfl⟩ := List.mem_take_iff_getElem.1 hy
    have := List.pairwise_iff_getElem.1 (Kr.sort_of_right h).ord j k (by omega) hk (by omega)
    rwa [show gRg d k = d[k] by unfold gRg; simp [hk]]
  have hm : Kr.mayF (d.take k) (gRg d k) = 0 := by
    unfold Kr.mayF
    have h2 : ¬ (4096 ≤ (d.take k).length) := by
      have := List.length_take_le k d
      omega
    have h4 : (d.take k).any (fun o => Kr.overR o (gRg d k)) = false := by
      rw [List.any_eq_false]
      intro y hy e
      unfold Kr.overR at e
      rw [decide_eq_true_eq] at e
      have := (hbef y hy).2 e.1 e.2.1
      omega
    rw [if_neg (by rw [hok]; simp), if_neg h2, if_neg (by rw [h4]; simp)]
  refine ⟨hm, ?_⟩
  unfold addU
  rw [if_pos hm]
  obtain ⟨e1, e2⟩ := while_all (p := fun x => decide (Kr.cmpR x (gRg d k) < 0)) (d := d.take k) (fun x hx => by simpa using cmpR_lt.2 (hbef x hx).1)
  rw [e1, e2, List.append_nil, take_snocRg hk]
theorem rightD_mkC {x : Co} (h : Kc.okC x = true) : rightD (mkC x) = true := by
  unfold rightD
  have k1 : knownD (mkC x) = true := rfl
  have k2 : mayD (mkC x) = true := h
  have k3 : mkC x = keepD (mkC x) := rfl
  rw [k1, k2, ← k3]
  simp
theorem rightD_mkR {x : Rg} (h : Kr.okR x = true) : rightD (mkR x) = true := by
  unfold rightD
  have k1 : knownD (mkR x) = true := rfl
  have k2 : mayD (mkR x) = true := h
  have k3 : mkR x = keepD (mkR x) := rfl
  rw [k1, k2, ← k3]
  simp
theorem step_mkC {cs : List Co} {rs : List Rg} {clk v : Int} {x : Co} (ho : Kc.okC x = true) (he : clk < x.en) (hm : Kc.mayC cs x = 0) : stepQ ⟨cs, rs, clk, v⟩ (mkC x) = 0 ∧ stepP ⟨cs, rs, clk, v⟩ (mkC x) = ⟨addT cs x, rs, clk, min (v + 1) 1099511627776⟩ := by
  have hq : stepQ ⟨cs, rs, clk, v⟩ (mkC x) = 0 := by
    unfold stepQ
    rw [if_neg (by rw [rightD_mkC ho]; simp), if_neg (by
      intro hc
      have : x.en ≤ clk := hc.2
      omega), if_pos (show (mkC x).kd = 1 from rfl)]
    exact hm
  refine ⟨hq, ?_⟩
  unfold stepP
  rw [if_pos hq, if_pos (show (mkC x).kd = 1 from rfl)]
  rfl
theorem step_mkR {cs : List Co} {rs : List Rg} {clk v : Int} {x : Rg} (ho : Kr.okR x = true) (he : clk < x.en) (hm : Kr.mayF rs x = 0) : stepQ ⟨cs, rs, clk, v⟩ (mkR x) = 0 ∧ stepP ⟨cs, rs, clk, v⟩ (mkR x) = ⟨cs, addU rs x, clk, min (v + 1) 1099511627776⟩ := by
  have hq : stepQ ⟨cs, rs, clk, v⟩ (mkR x) = 0 := by
    unfold stepQ
    rw [if_neg (by rw [rightD_mkR ho]; simp), if_neg (by
      intro hc
      have : x.en ≤ clk := hc.2
      omega), if_neg (by intro hc; exact absurd (show (2 : Int) = 1 from hc) (by decide))]
    exact hm
  refine ⟨hq, ?_⟩
  unfold stepP
  rw [if_pos hq, if_neg (by intro hc; exact absurd (show (2 : Int) = 1 from hc) (by decide))]
  rfl
theorem listP_len (p : Pl) : (listP p).length = p.rs.length + p.cs.length := by unfold listP; simp
theorem listP_atR {p : Pl} {j : Nat} (h : j < p.rs.length) : gDr (listP p) j = mkR (gRg p.rs j) := by
  rw [gDr_eq (by rw [listP_len]; omega)]
  have e : gRg p.rs j = p.rs[j] := by unfold gRg; simp [h]
  rw [e]
  unfold listP
  rw [List.getElem_append_left (by simpa using h)]
  simp
theorem listP_atC {p : Pl} {j : Nat} (h : p.rs.length ≤ j) (h2 : j < p.rs.length + p.cs.length) : gDr (listP p) j = mkC (gCo p.cs (j - p.rs.length)) := by
  rw [gDr_eq (by rw [listP_len]; omega)]
  have e : gCo p.cs (j - p.rs.length) = p.cs[j - p.rs.length] := gCo_eq (by omega)
  rw [e]
  unfold listP
  rw [List.getElem_append_right (by simpa using h)]
  simp
theorem list_step {p : Pl} (h : RightP p.cs p.rs p.clk p.ver) {j : Nat} (hj : j < (listP p).length) (v : Int) : stepQ ⟨p.cs.take (j - p.rs.length), p.rs.take j, p.clk, v⟩ (gDr (listP p) j) = 0 ∧
    ∃ v', stepP ⟨p.cs.take (j - p.rs.length), p.rs.take j, p.clk, v⟩ (gDr (listP p) j) = ⟨p.cs.take (j + 1 - p.rs.length), p.rs.take (j + 1), p.clk, v'⟩ := by
  rw [listP_len] at hj
  rcases Nat.lt_or_ge j p.rs.length with hlt | hge
  · rw [listP_atR hlt]
    obtain ⟨hm, ha⟩ := addU_next h.rg hlt
    have := step_mkR (cs := p.cs.take (j - p.rs.length)) (clk := p.clk) (v := v) (Kr.right_ok h.rg _ (gRg_mem hlt)) (h.er _ (gRg_mem hlt)) hm
    refine ⟨this.1, min (v + 1) 1099511627776, this.2.trans ?_⟩
    rw [ha, show j - p.rs.length = j + 1 - p.rs.length by omega]
  · rw [listP_atC hge hj]
    have hlt : j - p.rs.length < p.cs.length := by omega
    obtain ⟨hm, ha⟩ := addT_next h.co hlt
    have := step_mkC (rs := p.rs.take j) (clk := p.clk) (v := v) (Kc.right_ok h.co _ (gCo_mem hlt)) (h.ec _ (gCo_mem hlt)) hm
    refine ⟨this.1, min (v + 1) 1099511627776, this.2.trans ?_⟩
    rw [ha, show j - p.rs.length + 1 = j + 1 - p.rs.length by omega, List.take_of_length_le hge, List.take_of_length_le (show p.rs.length ≤ j + 1 by omega)]
theorem list_run {p : Pl} (h : RightP p.cs p.rs p.clk p.ver) (v0 : Int) : ∀ j, j ≤ (listP p).length → ∃ v, runP ⟨[], [], p.clk, v0⟩ ((listP p).take j) = ⟨p.cs.take (j - p.rs.length), p.rs.take j, p.clk, v⟩
  | 0, _ => ⟨v0, by simp [runP]⟩
  | j + 1, hj => by
    obtain ⟨v, hv⟩ := list_run h v0 j (by omega)
    obtain ⟨_, v', hv'⟩ := list_step h (by omega : j < (listP p).length) v
    exact ⟨v', by rw [runP_next (by omega), hv, hv']⟩
/-- All that is listed, over nothing at the same time. -/
theorem list_all {p q0 : Pl} (h : RightP p.cs p.rs p.clk p.ver) (h0 : q0.cs = []) (h1 : q0.rs = []) (h2 : q0.clk = p.clk) :
    allQ q0 (listP p) = (0, (listP p).length) ∧ (allP q0 (listP p)).cs = p.cs ∧ (allP q0 (listP p)).rs = p.rs ∧ (allP q0 (listP p)).clk = p.clk := by
  obtain ⟨c0, r0, k0, v0⟩ := q0
  subst h0 h1 h2
  have hq : allQ ⟨[], [], p.clk, v0⟩ (listP p) = (0, (listP p).length) := allQ_all fun j hj => by
    obtain ⟨v, hv⟩ := list_run h v0 j (by omega)
    rw [hv]
    exact (list_step h hj v).1
  obtain ⟨v, hv⟩ := list_run h v0 (listP p).length (Nat.le_refl _)
  rw [List.take_length] at hv
  have hp : allP ⟨[], [], p.clk, v0⟩ (listP p) = ⟨p.cs, p.rs, p.clk, v⟩ := by
    unfold allP
    rw [hq, if_pos rfl, hv, listP_len, show p.rs.length + p.cs.length - p.rs.length = p.cs.length by omega, List.take_length, List.take_of_length_le (by omega)]
  rw [hp]
  exact ⟨hq, rfl, rfl, rfl⟩
theorem listP_wf {p : Pl} {j : Nat} (h : j < (listP p).length) : (Lit.int .i64 (gDr (listP p) j).op).wf = true ∧ (Lit.int .i64 (gDr (listP p) j).kd).wf = true := by
  rw [listP_len] at h
  rcases Nat.lt_or_ge j p.rs.length with hlt | hge
  · rw [listP_atR hlt]; exact ⟨show (Lit.int .i64 1).wf = true by decide, show (Lit.int .i64 2).wf = true by decide⟩
  · rw [listP_atC hge h]; exact ⟨show (Lit.int .i64 1).wf = true by decide, show (Lit.int .i64 1).wf = true by decide⟩
def newP : Pl := ⟨[], [], 0, 0⟩
theorem newP_right : RightP newP.cs newP.rs newP.clk newP.ver := rightP_spec.1 (by decide +kernel)
structure NewAt (p a : Pl) : Prop where
  q0 : advQ newP p.clk = 0
  g : advG newP p.clk = []
  cs : a.cs = []
  rs : a.rs = []
  clk : a.clk = p.clk
  right : a.right = true
theorem new_at {p a : Pl} (h : RightP p.cs p.rs p.clk p.ver) (ha : advP newP p.clk = a) : NewAt p a := by
  have hc0 := h.c0
  have hA := adv_at (p := newP) (now := p.clk) h.c0 h.c1 (by decide) (by decide)
  have hr := advP_right (now := p.clk) newP_right
  rw [ha] at hA hr
  exact ⟨hA.q0, by rw [hA.g]; show sortI [] = []; simp [sortI], by rw [hA.cs]; rfl, by rw [hA.rs]; rfl, hA.clk, Pl.right_spec.2 hr⟩
end Go.Proofs.YtolaabllhibkdaaGreat

/- feluccalaw08.Act: its cells, lists of it. No condition. -/
namespace Go.Proofs.YtolaabllhibkdaaGreat
open Go.ChangeShapes Go.WideShapes Go.ChangeAt Go.RowKit Go.Sort
set_option linter.unusedSimpArgs false
set_option linter.unusedVariables false
structure Ap where
  dq : Int
  op : Int
  kd : Int
  id : Int
  fr : Int
  tn : Int
  st : Int
  en : Int
  rt : Int
  rf : Int
  rn : Int
  rs : Int
  re : Int
  ro : Int
  nn : Int
theorem Ap.ext_ {a b : Ap} (h0 : a.dq = b.dq) (h1 : a.op = b.op) (h2 : a.kd = b.kd) (h3 : a.id = b.id) (h4 : a.fr = b.fr) (h5 : a.tn = b.tn) (h6 : a.st = b.st) (h7 : a.en = b.en) (h8 : a.rt = b.rt) (h9 : a.rf = b.rf) (h10 : a.rn = b.rn) (h11 : a.rs = b.rs) (h12 : a.re = b.re) (h13 : a.ro = b.ro) (h14 : a.nn = b.nn) : a = b := by cases a; cases b; simp_all
instance : DecidableEq Ap := fun a b => if h : a.dq = b.dq ∧ a.op = b.op ∧ a.kd = b.kd ∧ a.id = b.id ∧ a.fr = b.fr ∧ a.tn = b.tn ∧ a.st = b.st ∧ a.en = b.en ∧ a.rt = b.rt ∧ a.rf = b.rf ∧ a.rn = b.rn ∧ a.rs = b.rs ∧ a.re = b.re ∧ a.ro = b.ro ∧ a.nn = b.nn then isTrue (Ap.ext_ h.1 h.2.1 h.2.2.1 h.2.2.2.1 h.2.2.2.2.1 h.2.2.2.2.2.1 h.2.2.2.2.2.2.1 h.2.2.2.2.2.2.2.1 h.2.2.2.2.2.2.2.2.1 h.2.2.2.2.2.2.2.2.2.1 h.2.2.2.2.2.2.2.2.2.2.1 h.2.2.2.2.2.2.2.2.2.2.2.1 h.2.2.2.2.2.2.2.2.2.2.2.2.1 h.2.2.2.2.2.2.2.2.2.2.2.2.2.1 h.2.2.2.2.2.2.2.2.2.2.2.2.2.2) else isFalse (by rintro rfl; simp at h)
def Ap.cs (r : Ap) : List Value := [.int .i64 r.dq, .int .i64 r.op, .int .i64 r.kd, .int .i64 r.id, .int .i64 r.fr, .int .i64 r.tn, .int .i64 r.st, .int .i64 r.en, .int .i64 r.rt, .int .i64 r.rf, .int .i64 r.rn, .int .i64 r.rs, .int .i64 r.re, .int .i64 r.ro, .int .i64 r.nn]
def flatAp (d : List Ap) : List Value := d.flatMap Ap.cs
def gAp (d : List Ap) (i : Nat) : Ap := d.getD i ⟨0, 0, 0, 0, 0, 0, 0, 0, 0, 0, 0, 0, 0, 0, 0⟩
theorem flatAp_cons (p : Ap) (d : List Ap) : flatAp (p :: d) = .int .i64 p.dq :: .int .i64 p.op :: .int .i64 p.kd :: .int .i64 p.id :: .int .i64 p.fr :: .int .i64 p.tn :: .int .i64 p.st :: .int .i64 p.en :: .int .i64 p.rt :: .int .i64 p.rf :: .int .i64 p.rn :: .int .i64 p.rs :: .int .i64 p.re :: .int .i64 p.ro :: .int .i64 p.nn :: flatAp d := rfl
theorem flatAp_length (d : List Ap) : (flatAp d).length = d.length * 15 := by
  induction d with
  | nil => rfl
  | cons p d ih => rw [flatAp_cons]; simp only [List.length_cons, ih]; omega
theorem flatAp_append (d e : List Ap) : flatAp (d ++ e) = flatAp d ++ flatAp e := by simp [flatAp]
theorem flatAp_at0 : ∀ (d : List Ap) (i : Nat), i < d.length → (flatAp d)[i * 15]? = some (.int .i64 (gAp d i).dq)
  | p :: d, 0, _ => rfl
  | p :: d, i + 1, h => by
    rw [flatAp_cons, show (i + 1) * 15 = i * 15 + 1 + 1 + 1 + 1 + 1 + 1 + 1 + 1 + 1 + 1 + 1 + 1 + 1 + 1 + 1 from by omega]
    simp only [List.getElem?_cons_succ]
    exact flatAp_at0 d i (by simpa using h)
theorem flatAp_at1 : ∀ (d : List Ap) (i : Nat), i < d.length → (flatAp d)[i * 15 + 1]? = some (.int .i64 (gAp d i).op)
  | p :: d, 0, _ => rfl
  | p :: d, i + 1, h => by
    rw [flatAp_cons, show (i + 1) * 15 + 1 = i * 15 + 1 + 1 + 1 + 1 + 1 + 1 + 1 + 1 + 1 + 1 + 1 + 1 + 1 + 1 + 1 + 1 from by omega]
    simp only [List.getElem?_cons_succ]
    exact flatAp_at1 d i (by simpa using h)
theorem flatAp_at2 : ∀ (d : List Ap) (i : Nat), i < d.length → (flatAp d)[i * 15 + 2]? = some (.int .i64 (gAp d i).kd)
  | p :: d, 0, _ => rfl
  | p :: d, i + 1, h => by
    rw [flatAp_cons, show (i + 1) * 15 + 2 = i * 15 + 2 + 1 + 1 + 1 + 1 + 1 + 1 + 1 + 1 + 1 + 1 + 1 + 1 + 1 + 1 + 1 from by omega]
    simp only [List.getElem?_cons_succ]
    exact flatAp_at2 d i (by simpa using h)
theorem flatAp_at3 : ∀ (d : List Ap) (i : Nat), i < d.length → (flatAp d)[i * 15 + 3]? = some (.int .i64 (gAp d i).id)
  | p :: d, 0, _ => rfl
  | p :: d, i + 1, h => by
    rw [flatAp_cons, show (i + 1) * 15 + 3 = i * 15 + 3 + 1 + 1 + 1 + 1 + 1 + 1 + 1 + 1 + 1 + 1 + 1 + 1 + 1 + 1 + 1 from by omega]
    simp only [List.getElem?_cons_succ]
    exact flatAp_at3 d i (by simpa using h)
theorem flatAp_at4 : ∀ (d : List Ap) (i : Nat), i < d.length → (flatAp d)[i * 15 + 4]? = some (.int .i64 (gAp d i).fr)
  | p :: d, 0, _ => rfl
  | p :: d, i + 1, h => by
    rw [flatAp_cons, show (i + 1) * 15 + 4 = i * 15 + 4 + 1 + 1 + 1 + 1 + 1 + 1 + 1 + 1 + 1 + 1 + 1 + 1 + 1 + 1 + 1 from by omega]
    simp only [List.getElem?_cons_succ]
    exact flatAp_at4 d i (by simpa using h)
theorem flatAp_at5 : ∀ (d : List Ap) (i : Nat), i < d.length → (flatAp d)[i * 15 + 5]? = some (.int .i64 (gAp d i).tn)
  | p :: d, 0, _ => rfl
  | p :: d, i + 1, h => by
    rw [flatAp_cons, show (i + 1) * 15 + 5 = i * 15 + 5 + 1 + 1 + 1 + 1 + 1 + 1 + 1 + 1 + 1 + 1 + 1 + 1 + 1 + 1 + 1 from by omega]
    simp only [List.getElem?_cons_succ]
    exact flatAp_at5 d i (by simpa using h)
theorem flatAp_at6 : ∀ (d : List Ap) (i : Nat), i < d.length → (flatAp d)[i * 15 + 6]? = some (.int .i64 (gAp d i).st)
  | p :: d, 0, _ => rfl
  | p :: d, i + 1, h => by
    rw [flatAp_cons, show (i + 1) * 15 + 6 = i * 15 + 6 + 1 + 1 + 1 + 1 + 1 + 1 + 1 + 1 + 1 + 1 + 1 + 1 + 1 + 1 + 1 from by omega]
    simp only [List.getElem?_cons_succ]
    exact flatAp_at6 d i (by simpa using h)
theorem flatAp_at7 : ∀ (d : List Ap) (i : Nat), i < d.length → (flatAp d)[i * 15 + 7]? = some (.int .i64 (gAp d i).en)
  | p :: d, 0, _ => rfl
  | p :: d, i + 1, h => by
    rw [flatAp_cons, show (i + 1) * 15 + 7 = i * 15 + 7 + 1 + 1 + 1 + 1 + 1 + 1 + 1 + 1 + 1 + 1 + 1 + 1 + 1 + 1 + 1 from by omega]
    simp only [List.getElem?_cons_succ]
    exact flatAp_at7 d i (by simpa using h)
theorem flatAp_at8 : ∀ (d : List Ap) (i : Nat), i < d.length → (flatAp d)[i * 15 + 8]? = some (.int .i64 (gAp d i).rt)
  | p :: d, 0, _ => rfl
  | p :: d, i + 1, h => by
    rw [flatAp_cons, show (i + 1) * 15 + 8 = i * 15 + 8 + 1 + 1 + 1 + 1 + 1 + 1 + 1 + 1 + 1 + 1 + 1 + 1 + 1 + 1 + 1 from by omega]
    simp only [List.getElem?_cons_succ]
    exact flatAp_at8 d i (by simpa using h)
theorem flatAp_at9 : ∀ (d : List Ap) (i : Nat), i < d.length → (flatAp d)[i * 15 + 9]? = some (.int .i64 (gAp d i).rf)
  | p :: d, 0, _ => rfl
  | p :: d, i + 1, h => by
    rw [flatAp_cons, show (i + 1) * 15 + 9 = i * 15 + 9 + 1 + 1 + 1 + 1 + 1 + 1 + 1 + 1 + 1 + 1 + 1 + 1 + 1 + 1 + 1 from by omega]
    simp only [List.getElem?_cons_succ]
    exact flatAp_at9 d i (by simpa using h)
theorem flatAp_at10 : ∀ (d : List Ap) (i : Nat), i < d.length → (flatAp d)[i * 15 + 10]? = some (.int .i64 (gAp d i).rn)
  | p :: d, 0, _ => rfl
  | p :: d, i + 1, h => by
    rw [flatAp_cons, show (i + 1) * 15 + 10 = i * 15 + 10 + 1 + 1 + 1 + 1 + 1 + 1 + 1 + 1 + 1 + 1 + 1 + 1 + 1 + 1 + 1 from by omega]
    simp only [List.getElem?_cons_succ]
    exact flatAp_at10 d i (by simpa using h)
theorem flatAp_at11 : ∀ (d : List Ap) (i : Nat), i < d.length → (flatAp d)[i * 15 + 11]? = some (.int .i64 (gAp d i).rs)
  | p :: d, 0, _ => rfl
  | p :: d, i + 1, h => by
    rw [flatAp_cons, show (i + 1) * 15 + 11 = i * 15 + 11 + 1 + 1 + 1 + 1 + 1 + 1 + 1 + 1 + 1 + 1 + 1 + 1 + 1 + 1 + 1 from by omega]
    simp only [List.getElem?_cons_succ]
    exact flatAp_at11 d i (by simpa using h)
theorem flatAp_at12 : ∀ (d : List Ap) (i : Nat), i < d.length → (flatAp d)[i * 15 + 12]? = some (.int .i64 (gAp d i).re)
  | p :: d, 0, _ => rfl
  | p :: d, i + 1, h => by
    rw [flatAp_cons, show (i + 1) * 15 + 12 = i * 15 + 12 + 1 + 1 + 1 + 1 + 1 + 1 + 1 + 1 + 1 + 1 + 1 + 1 + 1 + 1 + 1 from by omega]
    simp only [List.getElem?_cons_succ]
    exact flatAp_at12 d i (by simpa using h)
theorem flatAp_at13 : ∀ (d : List Ap) (i : Nat), i < d.length → (flatAp d)[i * 15 + 13]? = some (.int .i64 (gAp d i).ro)
  | p :: d, 0, _ => rfl
  | p :: d, i + 1, h => by
    rw [flatAp_cons, show (i + 1) * 15 + 13 = i * 15 + 13 + 1 + 1 + 1 + 1 + 1 + 1 + 1 + 1 + 1 + 1 + 1 + 1 + 1 + 1 + 1 from by omega]
    simp only [List.getElem?_cons_succ]
    exact flatAp_at13 d i (by simpa using h)
theorem flatAp_at14 : ∀ (d : List Ap) (i : Nat), i < d.length → (flatAp d)[i * 15 + 14]? = some (.int .i64 (gAp d i).nn)
  | p :: d, 0, _ => rfl
  | p :: d, i + 1, h => by
    rw [flatAp_cons, show (i + 1) * 15 + 14 = i * 15 + 14 + 1 + 1 + 1 + 1 + 1 + 1 + 1 + 1 + 1 + 1 + 1 + 1 + 1 + 1 + 1 from by omega]
    simp only [List.getElem?_cons_succ]
    exact flatAp_at14 d i (by simpa using h)
theorem flatAp_set : ∀ (d : List Ap) (i : Nat) (p : Ap), ((((((((((((((((flatAp d).set (i * 15) (.int .i64 p.dq)).set (i * 15 + 1) (.int .i64 p.op)).set (i * 15 + 2) (.int .i64 p.kd)).set (i * 15 + 3) (.int .i64 p.id)).set (i * 15 + 4) (.int .i64 p.fr)).set (i * 15 + 5) (.int .i64 p.tn)).set (i * 15 + 6) (.int .i64 p.st)).set (i * 15 + 7) (.int .i64 p.en)).set (i * 15 + 8) (.int .i64 p.rt)).set (i * 15 + 9) (.int .i64 p.rf)).set (i * 15 + 10) (.int .i64 p.rn)).set (i * 15 + 11) (.int .i64 p.rs)).set (i * 15 + 12) (.int .i64 p.re)).set (i * 15 + 13) (.int .i64 p.ro)).set (i * 15 + 14) (.int .i64 p.nn)) = flatAp (d.set i p)
  | [], i, p => by simp [flatAp]
  | q :: d, 0, p => rfl
  | q :: d, i + 1, p => by
    rw [flatAp_cons]
    rw [show (i + 1) * 15 = i * 15 + 1 + 1 + 1 + 1 + 1 + 1 + 1 + 1 + 1 + 1 + 1 + 1 + 1 + 1 + 1 from by omega]
    rw [show i * 15 + 1 + 1 + 1 + 1 + 1 + 1 + 1 + 1 + 1 + 1 + 1 + 1 + 1 + 1 + 1 + 1 = i * 15 + 1 + 1 + 1 + 1 + 1 + 1 + 1 + 1 + 1 + 1 + 1 + 1 + 1 + 1 + 1 + 1 from by omega]
    rw [show i * 15 + 1 + 1 + 1 + 1 + 1 + 1 + 1 + 1 + 1 + 1 + 1 + 1 + 1 + 1 + 1 + 2 = i * 15 + 2 + 1 + 1 + 1 + 1 + 1 + 1 + 1 + 1 + 1 + 1 + 1 + 1 + 1 + 1 + 1 from by omega]
    rw [show i * 15 + 1 + 1 + 1 + 1 + 1 + 1 + 1 + 1 + 1 + 1 + 1 + 1 + 1 + 1 + 1 + 3 = i * 15 + 3 + 1 + 1 + 1 + 1 + 1 + 1 + 1 + 1 + 1 + 1 + 1 + 1 + 1 + 1 + 1 from by omega]
    rw [show i * 15 + 1 + 1 + 1 + 1 + 1 + 1 + 1 + 1 + 1 + 1 + 1 + 1 + 1 + 1 + 1 + 4 = i * 15 + 4 + 1 + 1 + 1 + 1 + 1 + 1 + 1 + 1 + 1 + 1 + 1 + 1 + 1 + 1 + 1 from by omega]
    rw [show i * 15 + 1 + 1 + 1 + 1 + 1 + 1 + 1 + 1 + 1 + 1 + 1 + 1 + 1 + 1 + 1 + 5 = i * 15 + 5 + 1 + 1 + 1 + 1 + 1 + 1 + 1 + 1 + 1 + 1 + 1 + 1 + 1 + 1 + 1 from by omega]
    rw [show i * 15 + 1 + 1 + 1 + 1 + 1 + 1 + 1 + 1 + 1 + 1 + 1 + 1 + 1 + 1 + 1 + 6 = i * 15 + 6 + 1 + 1 + 1 + 1 + 1 + 1 + 1 + 1 + 1 + 1 + 1 + 1 + 1 + 1 + 1 from by omega]
    rw [show i * 15 + 1 + 1 + 1 + 1 + 1 + 1 + 1 + 1 + 1 + 1 + 1 + 1 + 1 + 1 + 1 + 7 = i * 15 + 7 + 1 + 1 + 1 + 1 + 1 + 1 + 1 + 1 + 1 + 1 + 1 + 1 + 1 + 1 + 1 from by omega]
    rw [show i * 15 + 1 + 1 + 1 + 1 + 1 + 1 + 1 + 1 + 1 + 1 + 1 + 1 + 1 + 1 + 1 + 8 = i * 15 + 8 + 1 + 1 + 1 + 1 + 1 + 1 + 1 + 1 + 1 + 1 + 1 + 1 + 1 + 1 + 1 from by omega]
    rw [show i * 15 + 1 + 1 + 1 + 1 + 1 + 1 + 1 + 1 + 1 + 1 + 1 + 1 + 1 + 1 + 1 + 9 = i * 15 + 9 + 1 + 1 + 1 + 1 + 1 + 1 + 1 + 1 + 1 + 1 + 1 + 1 + 1 + 1 + 1 from by omega]
    rw [show i * 15 + 1 + 1 + 1 + 1 + 1 + 1 + 1 + 1 + 1 + 1 + 1 + 1 + 1 + 1 + 1 + 10 = i * 15 + 10 + 1 + 1 + 1 + 1 + 1 + 1 + 1 + 1 + 1 + 1 + 1 + 1 + 1 + 1 + 1 from by omega]
    rw [show i * 15 + 1 + 1 + 1 + 1 + 1 + 1 + 1 + 1 + 1 + 1 + 1 + 1 + 1 + 1 + 1 + 11 = i * 15 + 11 + 1 + 1 + 1 + 1 + 1 + 1 + 1 + 1 + 1 + 1 + 1 + 1 + 1 + 1 + 1 from by omega]
    rw [show i * 15 + 1 + 1 + 1 + 1 + 1 + 1 + 1 + 1 + 1 + 1 + 1 + 1 + 1 + 1 + 1 + 12 = i * 15 + 12 + 1 + 1 + 1 + 1 + 1 + 1 + 1 + 1 + 1 + 1 + 1 + 1 + 1 + 1 + 1 from by omega]
    rw [show i * 15 + 1 + 1 + 1 + 1 + 1 + 1 + 1 + 1 + 1 + 1 + 1 + 1 + 1 + 1 + 1 + 13 = i * 15 + 13 + 1 + 1 + 1 + 1 + 1 + 1 + 1 + 1 + 1 + 1 + 1 + 1 + 1 + 1 + 1 from by omega]
    rw [show i * 15 + 1 + 1 + 1 + 1 + 1 + 1 + 1 + 1 + 1 + 1 + 1 + 1 + 1 + 1 + 1 + 14 = i * 15 + 14 + 1 + 1 + 1 + 1 + 1 + 1 + 1 + 1 + 1 + 1 + 1 + 1 + 1 + 1 + 1 from by omega]
    simp only [List.set_cons_succ]
    rw [flatAp_set d i p]
    rfl
theorem flatAp_take : ∀ (d : List Ap) (n : Nat), (flatAp d).take (n * 15) = flatAp (d.take n)
  | _, 0 => by simp [flatAp]
  | [], n + 1 => by simp [flatAp]
  | p :: d, n + 1 => by
    rw [flatAp_cons, show (n + 1) * 15 = n * 15 + 1 + 1 + 1 + 1 + 1 + 1 + 1 + 1 + 1 + 1 + 1 + 1 + 1 + 1 + 1 from by omega]
    simp only [List.take_succ_cons]
    rw [flatAp_take d n]
    rfl
theorem flatAp_drop : ∀ (d : List Ap) (n : Nat), (flatAp d).drop (n * 15) = flatAp (d.drop n)
  | _, 0 => by simp
  | [], n + 1 => by simp [flatAp]
  | p :: d, n + 1 => by
    rw [flatAp_cons, show (n + 1) * 15 = n * 15 + 1 + 1 + 1 + 1 + 1 + 1 + 1 + 1 + 1 + 1 + 1 + 1 + 1 + 1 + 1 from by omega]
    simp only [List.drop_succ_cons]
    rw [flatAp_drop d n]
theorem flatAp_one : ∀ (l : List Ap), ∀ u ∈ flatAp l, u.oneCell' = true
  | [], u, h => by simp [flatAp] at h
  | p :: l, u, h => by
    rw [flatAp_cons] at h
    simp only [List.mem_cons] at h
    rcases h with rfl | rfl | rfl | rfl | rfl | rfl | rfl | rfl | rfl | rfl | rfl | rfl | rfl | rfl | rfl | h
    all_goals first | rfl | exact flatAp_one l u h
theorem rowsAp_of : ∀ (n : Nat) (ns : List Int), ns.length = n * 15 → ∃ d : List Ap, d.length = n ∧ ns.map (Value.int .i64) = flatAp d
  | 0, [], _ => ⟨[], rfl, rfl⟩
  | 0, _ :: _, h => by simp at h
  | n + 1, a0 :: a1 :: a2 :: a3 :: a4 :: a5 :: a6 :: a7 :: a8 :: a9 :: a10 :: a11 :: a12 :: a13 :: a14 :: ns, h => by
    obtain ⟨d, h1, h2⟩ := rowsAp_of n ns (by simp at h; omega)
    exact ⟨⟨a0, a1, a2, a3, a4, a5, a6, a7, a8, a9, a10, a11, a12, a13, a14⟩ :: d, by simp [h1], by simp [flatAp_cons, h2]⟩
  | n + 1, [], h => by simp at h <;> omega
  | n + 1, [_], h => by simp at h <;> omega
  | n + 1, [_, _], h => by simp at h <;> omega
  | n + 1, [_, _, _], h => by simp at h <;> omega
  | n + 1, [_, _, _, _], h => by simp at h <;> omega
  | n + 1, [_, _, _, _, _], h => by simp at h <;> omega
  | n + 1, [_, _, _, _, _, _], h => by simp at h <;> omega
  | n + 1, [_, _, _, _, _, _, _], h => by simp at h <;> omega
  | n + 1, [_, _, _, _, _, _, _, _], h => by simp at h <;> omega
  | n + 1, [_, _, _, _, _, _, _, _, _], h => by simp at h <;> omega
  | n + 1, [_, _, _, _, _, _, _, _, _, _], h => by simp at h <;> omega
  | n + 1, [_, _, _, _, _, _, _, _, _, _, _], h => by simp at h <;> omega
  | n + 1, [_, _, _, _, _, _, _, _, _, _, _, _], h => by simp at h <;> omega
  | n + 1, [_, _, _, _, _, _, _, _, _, _, _, _, _], h => by simp at h <;> omega
  | n + 1, [_, _, _, _, _, _, _, _, _, _, _, _, _, _], h => by simp at h <;> omega

theorem Lst.atAp {w : World} {B : Nat} {A : Option Addr} {n : Nat} {l : List Ap} (h : Lst w B 15 A n (flatAp l)) (hl : l.length = n) {k : Nat} (hk : k < n) : ∃ ad, A = some ad ∧ ad.block < B ∧ w.cell? (ad.add (k * 15)) = some (.int .i64 (gAp l k).dq) ∧ w.cell? ⟨(ad.add (k * 15)).block, (ad.add (k * 15)).off + 1, none⟩ = some (.int .i64 (gAp l k).op) ∧ w.cell? ⟨(ad.add (k * 15)).block, (ad.add (k * 15)).off + 2, none⟩ = some (.int .i64 (gAp l k).kd) ∧ w.cell? ⟨(ad.add (k * 15)).block, (ad.add (k * 15)).off + 3, none⟩ = some (.int .i64 (gAp l k).id) ∧ w.cell? ⟨(ad.add (k * 15)).block, (ad.add (k * 15)).off + 4, none⟩ = some (.int .i64 (gAp l k).fr) ∧ w.cell? ⟨(ad.add (k * 15)).block, (ad.add (k * 15)).off + 5, none⟩ = some (.int .i64 (gAp l k).tn) ∧ w.cell? ⟨(ad.add (k * 15)).block, (ad.add (k * 15)).off + 6, none⟩ = some (.int .i64 (gAp l k).st) ∧ w.cell? ⟨(ad.add (k * 15)).block, (ad.add (k * 15)).off + 7, none⟩ = some (.int .i64 (gAp l k).en) ∧ w.cell? ⟨(ad.add (k * 15)).block, (ad.add (k * 15)).off + 8, none⟩ = some (.int .i64 (gAp l k).rt) ∧ w.cell? ⟨(ad.add (k * 15)).block, (ad.add (k * 15)).off + 9, none⟩ = some (.int .i64 (gAp l k).rf) ∧ w.cell? ⟨(ad.add (k * 15)).block, (ad.add (k * 15)).off + 10, none⟩ = some (.int .i64 (gAp l k).rn) ∧ w.cell? ⟨(ad.add (k * 15)).block, (ad.add (k * 15)).off + 11, none⟩ = some (.int .i64 (gAp l k).rs) ∧ w.cell? ⟨(ad.add (k * 15)).block, (ad.add (k * 15)).off + 12, none⟩ = some (.int .i64 (gAp l k).re) ∧ w.cell? ⟨(ad.add (k * 15)).block, (ad.add (k * 15)).off + 13, none⟩ = some (.int .i64 (gAp l k).ro) ∧ w.cell? ⟨(ad.add (k * 15)).block, (ad.add (k * 15)).off + 14, none⟩ = some (.int .i64 (gAp l k).nn) := by
  obtain ⟨ad, e, hb, hc⟩ := h.at_ (by omega)
  exact ⟨ad, e, hb, hc _ _ (flatAp_at0 l k (by omega)), by rw [addr_next _ _ _ (by omega)]; exact hc _ _ (flatAp_at1 l k (by omega)), by rw [addr_next _ _ _ (by omega)]; exact hc _ _ (flatAp_at2 l k (by omega)), by rw [addr_next _ _ _ (by omega)]; exact hc _ _ (flatAp_at3 l k (by omega)), by rw [addr_next _ _ _ (by omega)]; exact hc _ _ (flatAp_at4 l k (by omega)), by rw [addr_next _ _ _ (by omega)]; exact hc _ _ (flatAp_at5 l k (by omega)), by rw [addr_next _ _ _ (by omega)]; exact hc _ _ (flatAp_at6 l k (by omega)), by rw [addr_next _ _ _ (by omega)]; exact hc _ _ (flatAp_at7 l k (by omega)), by rw [addr_next _ _ _ (by omega)]; exact hc _ _ (flatAp_at8 l k (by omega)), by rw [addr_next _ _ _ (by omega)]; exact hc _ _ (flatAp_at9 l k (by omega)), by rw [addr_next _ _ _ (by omega)]; exact hc _ _ (flatAp_at10 l k (by omega)), by rw [addr_next _ _ _ (by omega)]; exact hc _ _ (flatAp_at11 l k (by omega)), by rw [addr_next _ _ _ (by omega)]; exact hc _ _ (flatAp_at12 l k (by omega)), by rw [addr_next _ _ _ (by omega)]; exact hc _ _ (flatAp_at13 l k (by omega)), by rw [addr_next _ _ _ (by omega)]; exact hc _ _ (flatAp_at14 l k (by omega))⟩
theorem ownAp_at {w : World} {base : Nat} {t : TypeId} {g n c : Nat} {d : List Ap} (h : w.ownsRow base t 15 (.slice (some ⟨g, 0, none⟩) n c) n (flatAp d)) (hd : d.length = n) {k : Nat} (hk : k < n) : w.cell? ⟨g, k * 15, none⟩ = some (.int .i64 (gAp d k).dq) ∧ w.cell? ⟨g, k * 15 + 1, none⟩ = some (.int .i64 (gAp d k).op) ∧ w.cell? ⟨g, k * 15 + 2, none⟩ = some (.int .i64 (gAp d k).kd) ∧ w.cell? ⟨g, k * 15 + 3, none⟩ = some (.int .i64 (gAp d k).id) ∧ w.cell? ⟨g, k * 15 + 4, none⟩ = some (.int .i64 (gAp d k).fr) ∧ w.cell? ⟨g, k * 15 + 5, none⟩ = some (.int .i64 (gAp d k).tn) ∧ w.cell? ⟨g, k * 15 + 6, none⟩ = some (.int .i64 (gAp d k).st) ∧ w.cell? ⟨g, k * 15 + 7, none⟩ = some (.int .i64 (gAp d k).en) ∧ w.cell? ⟨g, k * 15 + 8, none⟩ = some (.int .i64 (gAp d k).rt) ∧ w.cell? ⟨g, k * 15 + 9, none⟩ = some (.int .i64 (gAp d k).rf) ∧ w.cell? ⟨g, k * 15 + 10, none⟩ = some (.int .i64 (gAp d k).rn) ∧ w.cell? ⟨g, k * 15 + 11, none⟩ = some (.int .i64 (gAp d k).rs) ∧ w.cell? ⟨g, k * 15 + 12, none⟩ = some (.int .i64 (gAp d k).re) ∧ w.cell? ⟨g, k * 15 + 13, none⟩ = some (.int .i64 (gAp d k).ro) ∧ w.cell? ⟨g, k * 15 + 14, none⟩ = some (.int .i64 (gAp d k).nn) :=
  ⟨(h.cellAt (k * 15) (by omega)).trans (flatAp_at0 d k (by omega)), (h.cellAt (k * 15 + 1) (by omega)).trans (flatAp_at1 d k (by omega)), (h.cellAt (k * 15 + 2) (by omega)).trans (flatAp_at2 d k (by omega)), (h.cellAt (k * 15 + 3) (by omega)).trans (flatAp_at3 d k (by omega)), (h.cellAt (k * 15 + 4) (by omega)).trans (flatAp_at4 d k (by omega)), (h.cellAt (k * 15 + 5) (by omega)).trans (flatAp_at5 d k (by omega)), (h.cellAt (k * 15 + 6) (by omega)).trans (flatAp_at6 d k (by omega)), (h.cellAt (k * 15 + 7) (by omega)).trans (flatAp_at7 d k (by omega)), (h.cellAt (k * 15 + 8) (by omega)).trans (flatAp_at8 d k (by omega)), (h.cellAt (k * 15 + 9) (by omega)).trans (flatAp_at9 d k (by omega)), (h.cellAt (k * 15 + 10) (by omega)).trans (flatAp_at10 d k (by omega)), (h.cellAt (k * 15 + 11) (by omega)).trans (flatAp_at11 d k (by omega)), (h.cellAt (k * 15 + 12) (by omega)).trans (flatAp_at12 d k (by omega)), (h.cellAt (k * 15 + 13) (by omega)).trans (flatAp_at13 d k (by omega)), (h.cellAt (k * 15 + 14) (by omega)).trans (flatAp_at14 d k (by omega))⟩
theorem gAp_mem {d : List Ap} {i : Nat} (h : i < d.length) : gAp d i ∈ d := by
  unfold gAp; rw [List.getD_eq_getElem?_getD, List.getElem?_eq_getElem h]; simp
theorem gAp_eq {d : List Ap} {i : Nat} (h : i < d.length) : gAp d i = d[i] := by
  unfold gAp; rw [List.getD_eq_getElem?_getD, List.getElem?_eq_getElem h]; rfl
theorem take_nextAp {l : List Ap} {k : Nat} (h : k < l.length) : l.take (k + 1) = l.take k ++ [gAp l k] := by
  rw [List.take_succ_eq_append_getElem h, gAp_eq h]
theorem extAp {a b : List Ap} (hl : a.length = b.length) (h : ∀ i, i < a.length → gAp a i = gAp b i) : a = b := by
  refine List.ext_getElem hl fun i h1 h2 => ?_
  have := h i h1
  rw [gAp_eq h1, gAp_eq h2] at this
  exact this
theorem infoAp : (Tryz.prog.info? 39).map (fun i => (i.zero, i.size, i.bytes)) = some (some (.agg #[.int .i64 0, .int .i64 0, .int .i64 0, .int .i64 0, .int .i64 0, .int .i64 0, .int .i64 0, .int .i64 0, .int .i64 0, .int .i64 0, .int .i64 0, .int .i64 0, .int .i64 0, .int .i64 0, .int .i64 0]), 15, 120) := by kernel_rfl
end Go.Proofs.YtolaabllhibkdaaGreat

/- A plan's variable is overwritten whole; numbers of acts. No condition. -/
namespace Go.Proofs.YtolaabllhibkdaaGreat
open Go.ChangeShapes Go.WideShapes Go.ChangeAt Go.RowKit Go.Sort
set_option linter.unusedSimpArgs false
set_option linter.unusedVariables false
theorem pl_set4 {W : World} {b : Nat} {T : TypeId} {u0 u1 u2 u3 : Value} (h : Blok W b T #[u0, u1, u2, u3]) (v0 v1 v2 v3 : Value) : Blok ((((W.setCell ⟨b, 0, none⟩ v0).setCell ⟨b, 1, none⟩ v1).setCell ⟨b, 2, none⟩ v2).setCell ⟨b, 3, none⟩ v3) b T #[v0, v1, v2, v3] := by
  have h2 := (((h.set_ 0 v0).set_ 1 v1).set_ 2 v2).set_ 3 v3
  simpa using h2
theorem pl_grown4 (W : World) (b : Nat) (v0 v1 v2 v3 : Value) : W.grownBy ((((W.setCell ⟨b, 0, none⟩ v0).setCell ⟨b, 1, none⟩ v1).setCell ⟨b, 2, none⟩ v2).setCell ⟨b, 3, none⟩ v3) (some b) := grown_sets [v0, v1, v2, v3] 0 W
theorem pl_below4 {B : Nat} {W0 W : World} (hB : Below B W0 W) (b : Nat) (hb : B ≤ b) (v0 v1 v2 v3 : Value) : Below B W0 ((((W.setCell ⟨b, 0, none⟩ v0).setCell ⟨b, 1, none⟩ v1).setCell ⟨b, 2, none⟩ v2).setCell ⟨b, 3, none⟩ v3) :=
  (((hB.setCell (p := ⟨b, 0, none⟩) hb v0).setCell (p := ⟨b, 1, none⟩) hb v1).setCell (p := ⟨b, 2, none⟩) hb v2).setCell (p := ⟨b, 3, none⟩) hb v3
theorem pl_far4 {W : World} {b c : Nat} {T : TypeId} {us : Array Value} (h : Blok W c T us) (hne : c ≠ b) (v0 v1 v2 v3 : Value) : Blok ((((W.setCell ⟨b, 0, none⟩ v0).setCell ⟨b, 1, none⟩ v1).setCell ⟨b, 2, none⟩ v2).setCell ⟨b, 3, none⟩ v3) c T us :=
  (((h.far (p := ⟨b, 0, none⟩) hne v0).far (p := ⟨b, 1, none⟩) hne v1).far (p := ⟨b, 2, none⟩) hne v2).far (p := ⟨b, 3, none⟩) hne v3
structure StepOk (x y : Pl) : Prop where
  clk : y.clk = x.clk
  ver : y.ver = min (x.ver + 1) 1099511627776
theorem stepP_ok {p : Pl} {d : Dr} (h : stepQ p d = 0) : StepOk p (stepP p d) := by
  unfold stepP
  rw [if_pos h]
  split
  · exact ⟨rfl, rfl⟩
  · exact ⟨rfl, rfl⟩
structure AdvLen (x y : Pl) (g : List Int) : Prop where
  len : y.cs.length + g.length = x.cs.length
theorem adv_len (p : Pl) (now : Int) : AdvLen p (advP p now) (advG p now) := by
  constructor
  unfold advP advG
  split
  · show (Kc.leftC p.cs now).length + _ = _
    rw [sortI_len]
    exact leftC_gone p.cs now
  · simp
theorem adv_right {p : Pl} {now : Int} (h : p.right = true) : (advP p now).right = true := Pl.right_spec.2 (advP_right (Pl.right_spec.1 h))
structure AdvOk (x y : Pl) (now : Int) : Prop where
  clk : y.clk = now
  ge : x.clk ≤ now
  ver : y.ver = if now = x.clk then x.ver else min (x.ver + 1) 1099511627776
theorem adv_ok {p : Pl} {now : Int} (h : p.right = true) (hq : advQ p now = 0) : AdvOk p (advP p now) now := by
  have hR := Pl.right_spec.1 h
  have hin : inB now p.clk 2147483647 = true := by
    cases hi : inB now p.clk 2147483647 with
    | true => rfl
    | false => unfold advQ at hq; rw [hi] at hq; simp at hq
  have hin2 := hin
  unfold inB at hin2
  rw [decide_eq_true_eq] at hin2
  have a := adv_at hin2.1 hin2.2 hR.v0 hR.v1
  exact ⟨a.clk, hin2.1, a.ver⟩
theorem adv_same {p : Pl} {now : Int} (hq : advQ p now ≠ 0) : advP p now = p := by
  have hin : ¬ inB now p.clk 2147483647 = true := fun hi => hq (by unfold advQ; rw [if_pos hi])
  unfold advP
  rw [if_neg hin]
end Go.Proofs.YtolaabllhibkdaaGreat
