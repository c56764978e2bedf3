/- Contracts and plain facts, several texts of mine in one: ViewMath. No condition. -/
import Derived.Test.YtfdphpmcgidmiaaW5

/- Plain facts on the edges of a plan. No condition. -/
namespace Go.Proofs.Ytfdphpmcgidmiaa
open Go.ChangeShapes Go.WideShapes Go.ChangeAt Go.RowKit Go.Sort
set_option linter.unusedSimpArgs false
set_option linter.unusedVariables false
theorem edgeF_some {rs : List Rg} {bk : List Bk} {c : Co} {cl : Int} {e : Ed} (h : edgeF rs bk c cl = some e) : Kc.okC c = true ∧ ∃ o, owltF rs c.fr c.tn c.st c.en = some o ∧ e = ⟨c.id, c.fr, c.tn, min (c.st + cdiv (Kb.backF (Kb.rowB bk c.id) cl) c.rt) 1099511627776, c.en, c.rt, o, Kb.roomF (ctOf c) (Kb.rowB bk c.id) cl⟩ := by
  unfold edgeF at h
  split at h
  · rename_i hok
    rw [Option.map_eq_some_iff] at h
    obtain ⟨o, ho, rfl⟩ := h
    exact ⟨hok, o, ho, rfl⟩
  · cases h
theorem edgeF_id {rs : List Rg} {bk : List Bk} {c : Co} {cl : Int} {e : Ed} (h : edgeF rs bk c cl = some e) : e.id = c.id := by
  obtain ⟨_, o, _, rfl⟩ := edgeF_some h
  rfl
theorem mem_allL {rs : List Rg} {bk : List Bk} {cl : Int} {cs : List Co} {e : Ed} : e ∈ allL rs bk cl cs ↔ ∃ c ∈ cs, edgeF rs bk c cl = some e := by
  unfold allL
  rw [List.mem_filterMap]
theorem ids_apart {cs : List Co} (h : Kc.rightC cs = true) : cs.Pairwise (fun a b => a.id ≠ b.id) := by
  rw [List.pairwise_iff_getElem]
  intro i j hi hj hij
  have := Kc.right_ids h hij hj
  rw [gCo_eq hi, gCo_eq hj] at this
  exact this
theorem allL_apart {rs : List Rg} {bk : List Bk} {cl : Int} {cs : List Co} (h : Kc.rightC cs = true) : (allL rs bk cl cs).Pairwise (fun a b => a.id ≠ b.id) := by
  unfold allL
  rw [List.pairwise_filterMap]
  refine (ids_apart h).imp fun {a b} hab x hx y hy => ?_
  rw [edgeF_id hx, edgeF_id hy]
  exact hab
theorem sorted_of {m : List Ed} (h : ∀ i j, i < j → j < m.length → (gEd m i).id ≤ (gEd m j).id) (hd : m.Pairwise (fun a b => a.id ≠ b.id)) : m.Pairwise (fun a b => a.id < b.id) := by
  rw [List.pairwise_iff_getElem] at hd ⊢
  intro i j hi hj hij
  have h1 := h i j hij hj
  rw [gEd_eq hi, gEd_eq hj] at h1
  have h2 := hd i j hi hj hij
  omega
theorem sorted_ext : ∀ {d e : List Ed}, d.Pairwise (fun a b => a.id < b.id) → e.Pairwise (fun a b => a.id < b.id) → (∀ x, x ∈ d ↔ x ∈ e) → d = e
  | [], [], _, _, _ => rfl
  | [], y :: e, _, _, h => absurd ((h y).2 (by simp)) (by simp)
  | x :: d, [], _, _, h => absurd ((h x).1 (by simp)) (by simp)
  | x :: d, y :: e, hd, he, h => by
    rw [List.pairwise_cons] at hd he
    have hxy : x = y := by
      have h1 := (h x).1 (by simp)
      have h2 := (h y).2 (by simp)
      simp only [List.mem_cons] at h1 h2
      rcases h1 with h1 | h1
      · exact h1
      · rcases h2 with h2 | h2
        · exact h2.symm
        · have := hd.1 y h2
          have := he.1 x h1
          omega
    subst hxy
    congr 1
    refine sorted_ext hd.2 he.2 fun z => ?_
    have := h z
    simp only [List.mem_cons] at this
    constructor
    · intro hz
      rcases this.1 (.inr hz) with rfl | h1
      · exact absurd (hd.1 z hz) (by omega)
      · exact h1
    · intro hz
      rcases this.2 (.inr hz) with rfl | h1
      · exact absurd (he.1 z hz) (by omega)
      · exact h1
/-- What view.All hands back: the edges, by rising IDs. -/
structure AllE (rs : List Rg) (bk : List Bk) (cl : Int) (cs : List Co) (m : List Ed) : Prop where
  mem : ∀ e, e ∈ m ↔ ∃ c ∈ cs, edgeF rs bk c cl = some e
  sorted : m.Pairwise (fun a b => a.id < b.id)
  size : m.length = (allL rs bk cl cs).length
theorem allE_of {rs : List Rg} {bk : List Bk} {cl : Int} {cs : List Co} {m : List Ed} (hr : Kc.rightC cs = true) (hp : m.Perm (allL rs bk cl cs)) (hs : ∀ i j, i < j → j < m.length → (gEd m i).id ≤ (gEd m j).id) : AllE rs bk cl cs m :=
  ⟨fun e => by rw [hp.mem_iff, mem_allL], sorted_of hs ((hp.pairwise_iff (fun h => Ne.symm h)).2 (allL_apart hr)), hp.length_eq⟩
theorem AllE.len {rs : List Rg} {bk : List Bk} {cl : Int} {cs : List Co} {m : List Ed} (h : AllE rs bk cl cs m) : m.length ≤ cs.length := by rw [h.size]; exact List.length_filterMap_le _ _
theorem AllE.one {rs : List Rg} {bk : List Bk} {cl : Int} {cs : List Co} {m m' : List Ed} (h : AllE rs bk cl cs m) (h' : AllE rs bk cl cs m') : m = m' :=
  sorted_ext h.sorted h'.sorted fun x => by rw [h.mem, h'.mem]
theorem AllE.at_ {rs : List Rg} {bk : List Bk} {cl : Int} {cs : List Co} {m : List Ed} (hr : Kc.rightC cs = true) (h : AllE rs bk cl cs m) {i : Nat} (hi : i < m.length) : ∃ c, c ∈ cs ∧ edgeF rs bk c cl = some (gEd m i) ∧ (gEd m i).id = c.id ∧ Kc.idIn cs (gEd m i).id = true ∧ Kc.foundC cs (gEd m i).id = c := by
  obtain ⟨c, hc, he⟩ := (h.mem _).1 (gEd_mem hi)
  have hid := edgeF_id he
  refine ⟨c, hc, he, hid, ?_, ?_⟩
  · rw [hid]; exact Kc.idIn_mem hc
  · rw [hid]; exact Kc.found_of hr hc
theorem backF_none (id cl : Int) : Kb.backF ⟨id, 0, 0, 0⟩ cl = 0 := by
  unfold Kb.backF Kb.capAdd
  dsimp only
  split
  · omega
  · split
    · omega
    · split <;> omega
theorem edgeF_bare {rs : List Rg} {c : Co} {cl : Int} (hcl : inB cl 0 2 = true) (hc : Kc.okC c = true) : edgeF rs [] c cl = (owltF rs c.fr c.tn c.st c.en).map fun o => ⟨c.id, c.fr, c.tn, c.st, c.en, c.rt, o, Kb.volC (ctOf c)⟩ := by
  unfold edgeF
  rw [if_pos hc]
  congr 1
  funext o
  have h1 : Kb.rowB [] c.id = ⟨c.id, 0, 0, 0⟩ := rfl
  have hcb : contactB c.id c.fr c.tn c.st c.en c.rt = true := hc
  obtain ⟨_, _, _, _, j1, j2, j3, k1, k2⟩ := contactB_spec.1 hcb
  rw [h1, backF_none]
  have h2 : cdiv 0 c.rt = 0 := by unfold cdiv; simp
  rw [h2]
  have h3 : Kb.roomF (ctOf c) ⟨c.id, 0, 0, 0⟩ cl = Kb.volC (ctOf c) := by
    unfold Kb.roomF
    rw [if_pos hcl, backF_none]
    have := Kb.volC_ok (ctOf c)
    omega
  rw [h3]
  have h4 : min (c.st + 0) 1099511627776 = c.st := by omega
  rw [h4]
theorem edgeF_isSome {rs : List Rg} {bk : List Bk} {c : Co} {cl : Int} (hc : Kc.okC c = true) : (edgeF rs bk c cl).isSome = (owltF rs c.fr c.tn c.st c.en).isSome := by
  unfold edgeF
  rw [if_pos hc]
  cases owltF rs c.fr c.tn c.st c.en <;> rfl
/-- The edge of e's contact, as another bundle sees it. -/
def reE (rs : List Rg) (bk : List Bk) (cl : Int) (cs : List Co) (e : Ed) : Ed := (edgeF rs bk (Kc.foundC cs e.id) cl).getD zeroEd
theorem reE_of {rs : List Rg} {bk bk' : List Bk} {cl cl' : Int} {cs : List Co} {c : Co} {e : Ed} (hr : Kc.rightC cs = true) (hc : c ∈ cs) (he : edgeF rs bk c cl = some e) : edgeF rs bk' c cl' = some (reE rs bk' cl' cs e) ∧ (reE rs bk' cl' cs e).id = e.id := by
  have hok := Kc.right_ok hr c hc
  have hid := edgeF_id he
  have hf : Kc.foundC cs e.id = c := by rw [hid]; exact Kc.found_of hr hc
  have h1 : (edgeF rs bk' c cl').isSome = true := by rw [edgeF_isSome hok, ← edgeF_isSome (bk := bk) (cl := cl) hok, he]; rfl
  obtain ⟨e', he'⟩ := Option.isSome_iff_exists.1 h1
  have h2 : reE rs bk' cl' cs e = e' := by unfold reE; rw [hf, he']; rfl
  rw [h2]
  exact ⟨he', by rw [edgeF_id he', hid]⟩
theorem sorted_map {f : Ed → Ed} : ∀ {m : List Ed}, (∀ e ∈ m, (f e).id = e.id) → m.Pairwise (fun a b => a.id < b.id) → (m.map f).Pairwise (fun a b => a.id < b.id)
  | [], _, _ => by simp
  | x :: m, hf, h => by
    rw [List.pairwise_cons] at h
    rw [List.map_cons, List.pairwise_cons]
    refine ⟨fun y hy => ?_, sorted_map (fun e he => hf e (by simp [he])) h.2⟩
    obtain ⟨z, hz, rfl⟩ := List.mem_map.1 hy
    rw [hf x (by simp), hf z (by simp [hz])]
    exact h.1 z hz
theorem AllE.map {rs : List Rg} {bk bk' : List Bk} {cl cl' : Int} {cs : List Co} {m m' : List Ed} (hr : Kc.rightC cs = true) (h : AllE rs bk cl cs m) (h' : AllE rs bk' cl' cs m') : m' = m.map (reE rs bk' cl' cs) := by
  have key : ∀ e ∈ m, ∃ c ∈ cs, edgeF rs bk c cl = some e := fun e he => (h.mem e).1 he
  refine sorted_ext h'.sorted (sorted_map (fun e he => ?_) h.sorted) fun x => ?_
  · obtain ⟨c, hc, h1⟩ := key e he
    exact (reE_of hr hc h1).2
  · rw [h'.mem, List.mem_map]
    constructor
    · rintro ⟨c, hc, hx⟩
      obtain ⟨e, he⟩ := Option.isSome_iff_exists.1 (show (edgeF rs bk c cl).isSome = true by rw [edgeF_isSome (Kc.right_ok hr c hc), ← edgeF_isSome (bk := bk') (cl := cl') (Kc.right_ok hr c hc), hx]; rfl)
      refine ⟨e, (h.mem e).2 ⟨c, hc, he⟩, ?_⟩
      have := (reE_of (bk' := bk') (cl' := cl') hr hc he).1
      rw [hx] at this
      exact (Option.some.inj this).symm
    · rintro ⟨e, he, rfl⟩
      obtain ⟨c, hc, h1⟩ := key e he
      exact ⟨c, hc, (reE_of hr hc h1).1⟩
theorem back_mono {x : Bk} (h : Kb.okU x) {cl : Int} (h0 : 0 ≤ cl) (h1 : cl ≤ 1) : Kb.backF x (cl + 1) ≤ Kb.backF x cl := by
  obtain ⟨a0, a1, b0, b1, c0, c1⟩ := h
  have hc : cl = 0 ∨ cl = 1 := by omega
  unfold Kb.backF Kb.capAdd
  rcases hc with rfl | rfl
  · simp only [if_true, show ((0 : Int) + 1 = 0) = False by simp, show ((0 : Int) + 1 = 1) = True by simp, if_false]
    omega
  · simp only [if_true, show ((1 : Int) = 0) = False by simp, show ((1 : Int) + 1 = 0) = False by simp, show ((1 : Int) + 1 = 1) = False by simp, show ((1 : Int) + 1 = 2) = True by simp, if_false]
    omega
/-- At each place: one contact's edge, for both classes and bare. -/
structure Books (x y z : Ed) : Prop where
  ids : x.id = y.id
  same : (⟨x.id, x.fr, x.tn, z.op, x.en, x.ra, x.ow, z.ro⟩ : Ed) = z
  o1 : y.op ≤ x.op
  o2 : z.op ≤ y.op
  r1 : x.ro ≤ y.ro
  r2 : y.ro ≤ z.ro
theorem map_at {m : List Ed} (f : Ed → Ed) {i : Nat} (hi : i < m.length) : gEd (m.map f) i = f (gEd m i) := by
  rw [gEd_eq (by simpa using hi), gEd_eq hi]
  simp
theorem books_at {rs : List Rg} {bk : List Bk} {cl : Int} {cs : List Co} {a b d : List Ed} (hr : Kc.rightC cs = true) (hb : Kb.rightB bk = true) (h0 : 0 ≤ cl) (h1 : cl ≤ 1) (ha : AllE rs bk cl cs a) (hbb : AllE rs bk (cl + 1) cs b) (hd : AllE rs [] 0 cs d) : b.length = a.length ∧ d.length = a.length ∧ ∀ i, i < a.length → Books (gEd a i) (gEd b i) (gEd d i) := by
  have e1 := AllE.map hr ha hbb
  have e2 := AllE.map hr ha hd
  refine ⟨by rw [e1]; simp, by rw [e2]; simp, fun i hi => ?_⟩
  rw [e1, e2, map_at _ hi, map_at _ hi]
  obtain ⟨c, hc, he⟩ := (ha.mem _).1 (gEd_mem hi)
  have hok := Kc.right_ok hr c hc
  obtain ⟨f1, _⟩ := reE_of (bk' := bk) (cl' := cl + 1) hr hc he
  obtain ⟨f2, _⟩ := reE_of (bk' := []) (cl' := 0) hr hc he
  obtain ⟨_, o, ho, g0⟩ := edgeF_some he
  obtain ⟨_, o', ho', g1⟩ := edgeF_some f1
  rw [edgeF_bare (by decide) hok, ho] at f2
  have g2 := Option.some.inj f2
  rw [ho] at ho'
  injection ho' with ho'
  subst ho'
  rw [g1, ← g2, g0]
  have hu := Kb.right_ok hb c.id
  have hm := back_mono hu h0 h1
  have k0 := Kb.backF_ok hu cl
  have k1 := Kb.backF_ok hu (cl + 1)
  have hcb : contactB c.id c.fr c.tn c.st c.en c.rt = true := hok
  obtain ⟨_, _, _, _, j1, j2, j3, k1', k2'⟩ := contactB_spec.1 hcb
  have q1 := cdiv_le k1.1 hm k1'
  have q2 := (cdiv_bounds k1.1 k1').1
  have v := Kb.volC_ok (ctOf c)
  have i1 : inB cl 0 2 = true := by unfold inB; rw [decide_eq_true_eq]; omega
  have i2 : inB (cl + 1) 0 2 = true := by unfold inB; rw [decide_eq_true_eq]; omega
  refine ⟨rfl, rfl, ?_, ?_, ?_, ?_⟩
  · show min _ _ ≤ min _ _
    omega
  · show c.st ≤ min _ _
    omega
  · show Kb.roomF _ _ _ ≤ Kb.roomF _ _ _
    unfold Kb.roomF
    rw [if_pos i1, if_pos i2]
    omega
  · show Kb.roomF _ _ _ ≤ Kb.volC _
    unfold Kb.roomF
    rw [if_pos i2]
    omega
theorem owltF_ok {rs : List Rg} (h : Kr.rightB rs = true) {cf ct cs ce o : Int} (ho : owltF rs cf ct cs ce = some o) : 0 ≤ o ∧ o ≤ 2147483647 := by
  unfold owltF at ho
  rw [Option.map_eq_some_iff] at ho
  obtain ⟨x, hx, rfl⟩ := ho
  have hm := List.mem_of_find?_eq_some hx
  have := Kr.right_ok h x hm
  have h2 := rangeB_spec.1 this
  omega
/-- What view.All hands back is right. -/
theorem all_ok {rs : List Rg} {bk : List Bk} {cl : Int} {cs : List Co} {m : List Ed} (hr : Kc.rightC cs = true) (hg : Kr.rightB rs = true) (hb : Kb.rightB bk = true) (h : AllE rs bk cl cs m) {i : Nat} (hi : i < m.length) :
    ∃ c, Kc.idIn cs (gEd m i).id = true ∧ Kc.foundC cs (gEd m i).id = c ∧ (gEd m i).ok = true ∧ c.fr = (gEd m i).fr ∧ c.tn = (gEd m i).tn ∧ c.en = (gEd m i).en ∧ c.rt = (gEd m i).ra ∧ c.st ≤ (gEd m i).op ∧ (∀ p, i = p + 1 → (gEd m p).id < (gEd m i).id) := by
  obtain ⟨c, hc, he, hid, h1, h2⟩ := h.at_ hr hi
  have hok := Kc.right_ok hr c hc
  obtain ⟨_, o, ho, g0⟩ := edgeF_some he
  have hcb : contactB c.id c.fr c.tn c.st c.en c.rt = true := hok
  obtain ⟨⟨i1, i2⟩, w1, w2, w3, j1, j2, j3, k1', k2'⟩ := contactB_spec.1 hcb
  have hoo := owltF_ok hg ho
  have hu := Kb.right_ok hb c.id
  have k0 := Kb.backF_ok hu cl
  have q2 := cdiv_bounds k0.1 k1'
  have v := Kb.volC_ok (ctOf c)
  have hro : 0 ≤ Kb.roomF (ctOf c) (Kb.rowB bk c.id) cl ∧ Kb.roomF (ctOf c) (Kb.rowB bk c.id) cl ≤ 4611686018427387904 := by
    unfold Kb.roomF
    split <;> omega
  refine ⟨c, h1, h2, ?_, by rw [g0], by rw [g0], by rw [g0], by rw [g0], by rw [g0]; show c.st ≤ min _ _; omega, fun p hp => ?_⟩
  · rw [g0, Ed.ok_spec]
    refine ⟨⟨i1, i2⟩, w1, w2, w3, ⟨?_, ?_⟩, ⟨by show 1 ≤ c.en; omega, by show c.en ≤ 2147483647; omega⟩, ⟨k1', k2'⟩, hoo, hro⟩
    · show 0 ≤ min _ _
      omega
    · show min _ _ ≤ _
      omega
  · have := (List.pairwise_iff_getElem.1 h.sorted) p i (by omega) hi (by omega)
    rw [gEd_eq (by omega), gEd_eq hi]
    exact this
def edgedN (rs : List Rg) (cs : List Co) (i : Nat) : Nat := ((cs.take i).filter (fun c => (owltF rs c.fr c.tn c.st c.en).isSome)).length
theorem edged_next {rs : List Rg} {cs : List Co} {i : Nat} (hi : i < cs.length) : edgedN rs cs (i + 1) = edgedN rs cs i + if (owltF rs (gCo cs i).fr (gCo cs i).tn (gCo cs i).st (gCo cs i).en).isSome = true then 1 else 0 := by
  unfold edgedN
  rw [take_snocCo hi, List.filter_append, List.length_append, List.filter_cons]
  split <;> simp [*]
theorem edged_all {rs : List Rg} {bk : List Bk} {cl : Int} {cs : List Co} {m : List Ed} (hr : Kc.rightC cs = true) (h : AllE rs bk cl cs m) {n : Nat} (hn : cs.length = n) : edgedN rs cs n = m.length := by
  rw [h.size]
  unfold edgedN allL
  rw [List.take_of_length_le (by omega)]
  have hok := Kc.right_ok hr
  clear hn hr h
  induction cs with
  | nil => rfl
  | cons c cs ih =>
    have h1 := edgeF_isSome (rs := rs) (bk := bk) (cl := cl) (hok c (by simp))
    have h2 := ih (fun x hx => hok x (by simp [hx]))
    cases he : edgeF rs bk c cl with
    | none =>
      rw [he] at h1
      rw [List.filterMap_cons, List.filter_cons]
      simp only [he, ← h1]
      simpa using h2
    | some e =>
      rw [he] at h1
      rw [List.filterMap_cons, List.filter_cons]
      simp only [he, ← h1]
      simpa using h2
/-- A contact has an edge just if it has a range. -/
theorem found_edge {rs : List Rg} {bk : List Bk} {cl : Int} {cs : List Co} {m : List Ed} (hr : Kc.rightC cs = true) (h : AllE rs bk cl cs m) {c : Co} (hc : c ∈ cs) : (findE m c.id).isSome = (owltF rs c.fr c.tn c.st c.en).isSome := by
  rw [← edgeF_isSome (bk := bk) (cl := cl) (Kc.right_ok hr c hc)]
  cases he : edgeF rs bk c cl with
  | some e =>
    cases hf : findE m c.id with
    | some _ => rfl
    | none =>
      obtain ⟨i, hi, hg⟩ := mem_gEd ((h.mem e).2 ⟨c, hc, he⟩)
      exact absurd (by rw [hg]; exact edgeF_id he) (findE_no hf hi)
  | none =>
    cases hf : findE m c.id with
    | none => rfl
    | some e =>
      obtain ⟨h1, h2⟩ := findE_some hf
      obtain ⟨c', hc', he'⟩ := (h.mem e).1 h1
      have h3 : c'.id = c.id := by rw [← edgeF_id he', h2]
      have h4 : c' = c := by rw [← Kc.found_of hr hc', ← Kc.found_of hr hc, h3]
      rw [h4, he] at he'
      cases he'
theorem owlt_eq (A : Option Addr) (n c : Nat) (d : List Rg) (x : Co) (w : World) (hd : d.length = n) (hn : n ≤ 1000000) (h : Sl w w.heap.size 5 A n c (flatRg d)) (hr : Kr.rightB d = true) (hx : x.st < x.en) (o : Option Int) (ho : owltF d x.fr x.tn x.st x.en = o) :
    Calls Try.prog 28 #[.slice A n c, .agg #[.int .i64 x.id, .int .i64 x.fr, .int .i64 x.tn, .int .i64 x.st, .int .i64 x.en, .int .i64 x.rt]] w fun e w' => e = .returned (.tuple #[.int .i64 (o.getD 0), .bool o.isSome]) ∧ Below w.heap.size w w' := by
  refine (Kr.owlt_any A n c d x.id x.fr x.tn x.st x.en x.rt w hd hn h).mono ?_
  rintro e w' ⟨i, v, b, rfl, ha, hw, hb⟩
  have ht := Kr.tells_of (Kr.sort_of_right hr) hd hx ha hw
  have h1 := owltF_of (Kr.sort_of_right hr) hx ht
  rw [ho] at h1
  subst h1
  refine ⟨?_, hb⟩
  rcases ht with ⟨rfl, _⟩ | ⟨rfl, rfl, _⟩
  · rfl
  · rfl
end Go.Proofs.Ytfdphpmcgidmiaa
