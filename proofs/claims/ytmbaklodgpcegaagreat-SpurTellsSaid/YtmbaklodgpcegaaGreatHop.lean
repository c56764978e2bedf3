/- Contracts of package hop: which edges are right, how long it takes, when it is sent and there, when to be ready at the latest: at all arguments. They make new memory alone. -/
import Derived.Test.YtmbaklodgpcegaaGreatGQ0
import Derived.WalkLawsBesides
namespace Go.Proofs.YtmbaklodgpcegaaGreat
open Go.ChangeShapes Go.WideShapes Go.ChangeAt Go.RowKit Go.Sort
set_option linter.unusedSimpArgs false
set_option linter.unusedVariables false

structure Ed where
  id : Int
  fr : Int
  tn : Int
  op : Int
  en : Int
  ra : Int
  ow : Int
  ro : Int
def Ed.ok (e : Ed) : Bool := inB e.id 1 1048576 && nodeB e.fr && nodeB e.tn && e.fr != e.tn && inB e.op 0 1099511627776 && inB e.en 1 2147483647 && inB e.ra 1 2147483647 && inB e.ow 0 2147483647 && inB e.ro 0 4611686018427387904
theorem Ed.ok_spec {e : Ed} : e.ok = true ↔ (1 ≤ e.id ∧ e.id ≤ 1048576) ∧ (1 ≤ e.fr ∧ e.fr ≤ 255) ∧ (1 ≤ e.tn ∧ e.tn ≤ 255) ∧ e.fr ≠ e.tn ∧ (0 ≤ e.op ∧ e.op ≤ 1099511627776) ∧ (1 ≤ e.en ∧ e.en ≤ 2147483647) ∧ (1 ≤ e.ra ∧ e.ra ≤ 2147483647) ∧ (0 ≤ e.ow ∧ e.ow ≤ 2147483647) ∧ (0 ≤ e.ro ∧ e.ro ≤ 4611686018427387904) := by
  simp [Ed.ok, nodeB, inB, and_assoc]
def Ed.asks (e : Ed) (t size : Int) : Bool := e.ok && inB t 0 1099511627776 && inB size 0 1099511627775
theorem Ed.asks_spec {e : Ed} {t size : Int} : e.asks t size = true ↔ e.ok = true ∧ (0 ≤ t ∧ t ≤ 1099511627776) ∧ (0 ≤ size ∧ size ≤ 1099511627775) := by
  simp [Ed.asks, inB, and_assoc]
def Ed.takes (e : Ed) (size : Int) : Int := if e.asks 0 size = true then cdiv size e.ra else 0
def Ed.pass (e : Ed) (t size : Int) : Option (Int × Int) :=
  if e.asks t size = true ∧ size ≤ e.ro ∧ max t e.op < e.en ∧ max t e.op + cdiv size e.ra ≤ e.en then some (max t e.op, max t e.op + cdiv size e.ra + e.ow) else none
def Ed.last (e : Ed) (b size : Int) : Int := min (min (e.en - 1) (e.en - cdiv size e.ra)) (b - cdiv size e.ra - e.ow)
def Ed.latest (e : Ed) (b size : Int) : Option Int :=
  if e.asks b size = true ∧ size ≤ e.ro ∧ e.op ≤ e.last b size then some (e.last b size) else none

theorem hright_any (id fr tn op en ra ow ro : Int) (w : World) :
    Calls Tryz.prog 64 #[.agg #[.int .i64 id, .int .i64 fr, .int .i64 tn, .int .i64 op, .int .i64 en, .int .i64 ra, .int .i64 ow, .int .i64 ro]] w fun e w' => e = .returned (.bool (Ed.ok ⟨id, fr, tn, op, en, ra, ow, ro⟩)) ∧ Below w.heap.size w w' := by
  go_enter Tryz.func64, Tryz.ntmps64
  go_wp2_with (first | (go_at_call 42; (with_reducible refine Calls.mono (in_any _ _ _ _) ?_); rintro e w1 ⟨rfl, rfl⟩) | (go_at_call 22; (with_reducible refine Calls.mono (node_any _ _) ?_); rintro e w1 ⟨rfl, rfl⟩))
  all_goals go_ret
  all_goals exact ⟨by simp [Ed.ok, *], (Below.refl _ _).alloc (Nat.le_refl _) _⟩
theorem hright_is {id fr tn op en ra ow ro : Int} (b : Bool) (h : Ed.ok ⟨id, fr, tn, op, en, ra, ow, ro⟩ = b) (w : World) :
    Calls Tryz.prog 64 #[.agg #[.int .i64 id, .int .i64 fr, .int .i64 tn, .int .i64 op, .int .i64 en, .int .i64 ra, .int .i64 ow, .int .i64 ro]] w fun e w' => e = .returned (.bool b) ∧ Below w.heap.size w w' := h ▸ hright_any id fr tn op en ra ow ro w
theorem asked_any (id fr tn op en ra ow ro : Int) (t size : Int) (w : World) :
    Calls Tryz.prog 65 #[.agg #[.int .i64 id, .int .i64 fr, .int .i64 tn, .int .i64 op, .int .i64 en, .int .i64 ra, .int .i64 ow, .int .i64 ro], .int .i64 t, .int .i64 size] w fun e w' => e = .returned (.bool (Ed.asks ⟨id, fr, tn, op, en, ra, ow, ro⟩ t size)) ∧ Below w.heap.size w w' := by
  go_enter Tryz.func65, Tryz.ntmps65
  go_wp2_with fail
  refine (hright_any _ _ _ _ _ _ _ _ _).mono ?_
  rintro e w1 ⟨rfl, hb⟩
  go_wp2_with (go_at_call 42; (with_reducible refine Calls.mono (in_any _ _ _ _) ?_); rintro e w1 ⟨rfl, rfl⟩)
  all_goals go_ret
  all_goals exact ⟨by simp [Ed.asks, *], ((Below.refl _ _).alloc (Nat.le_refl _) _).trans (hb.mono (by simp))⟩
theorem asked_is {id fr tn op en ra ow ro : Int} {t size : Int} (b : Bool) (h : Ed.asks ⟨id, fr, tn, op, en, ra, ow, ro⟩ t size = b) (w : World) :
    Calls Tryz.prog 65 #[.agg #[.int .i64 id, .int .i64 fr, .int .i64 tn, .int .i64 op, .int .i64 en, .int .i64 ra, .int .i64 ow, .int .i64 ro], .int .i64 t, .int .i64 size] w fun e w' => e = .returned (.bool b) ∧ Below w.heap.size w w' := h ▸ asked_any id fr tn op en ra ow ro t size w
theorem takes_yes {id fr tn op en ra ow ro : Int} {size : Int} (h1 : 1 ≤ ra) (h2 : 0 ≤ size) (h3 : size ≤ 1099511627775) (w : World) :
    Calls Tryz.prog 66 #[.agg #[.int .i64 id, .int .i64 fr, .int .i64 tn, .int .i64 op, .int .i64 en, .int .i64 ra, .int .i64 ow, .int .i64 ro], .int .i64 size] w fun e w' => e = .returned (.int .i64 (cdiv size ra)) ∧ Below w.heap.size w w' := by
  go_enter Tryz.func66, Tryz.ntmps66
  go_wp2_with (go_at_call 76; (with_reducible refine Calls.mono (ceil_yes h2 (by omega) h1 _) ?_); rintro e w1 ⟨rfl, rfl⟩)
  go_ret
  exact ⟨rfl, (Below.refl _ _).alloc (Nat.le_refl _) _⟩
theorem pass_some_spec {id fr tn op en ra ow ro : Int} {t size a b : Int} (h : Ed.pass ⟨id, fr, tn, op, en, ra, ow, ro⟩ t size = some (a, b)) :
    Ed.asks ⟨id, fr, tn, op, en, ra, ow, ro⟩ t size = true ∧ size ≤ ro ∧ max t op < en ∧ max t op + cdiv size ra ≤ en ∧ a = max t op ∧ b = max t op + cdiv size ra + ow := by
  unfold Ed.pass at h
  split at h
  · rename_i hc
    simp only [Option.some.injEq, Prod.mk.injEq] at h
    exact ⟨hc.1, hc.2.1, hc.2.2.1, hc.2.2.2, h.1.symm, h.2.symm⟩
  · cases h
theorem pass_none_spec {id fr tn op en ra ow ro : Int} {t size : Int} (h : Ed.pass ⟨id, fr, tn, op, en, ra, ow, ro⟩ t size = none) :
    ¬ (Ed.asks ⟨id, fr, tn, op, en, ra, ow, ro⟩ t size = true ∧ size ≤ ro ∧ max t op < en ∧ max t op + cdiv size ra ≤ en) := by
  unfold Ed.pass at h
  split at h
  · cases h
  · assumption
theorem ok_ints {id fr tn op en ra ow ro : Int} (h : Ed.ok ⟨id, fr, tn, op, en, ra, ow, ro⟩ = true) : (1 ≤ id ∧ id ≤ 1048576) ∧ (1 ≤ fr ∧ fr ≤ 255) ∧ (1 ≤ tn ∧ tn ≤ 255) ∧ fr ≠ tn ∧ (0 ≤ op ∧ op ≤ 1099511627776) ∧ (1 ≤ en ∧ en ≤ 2147483647) ∧ (1 ≤ ra ∧ ra ≤ 2147483647) ∧ (0 ≤ ow ∧ ow ≤ 2147483647) ∧ (0 ≤ ro ∧ ro ≤ 4611686018427387904) := Ed.ok_spec.1 h
set_option maxHeartbeats 1000000 in
theorem pass_yes {id fr tn op en ra ow ro : Int} {t size a b : Int} (h : Ed.pass ⟨id, fr, tn, op, en, ra, ow, ro⟩ t size = some (a, b)) (w : World) :
    Calls Tryz.prog 45 #[.agg #[.int .i64 id, .int .i64 fr, .int .i64 tn, .int .i64 op, .int .i64 en, .int .i64 ra, .int .i64 ow, .int .i64 ro], .int .i64 t, .int .i64 size] w fun e w' => e = .returned (.tuple #[.int .i64 a, .int .i64 b, .bool true]) ∧ Below w.heap.size w w' := by
  obtain ⟨h1, h2, h3, h4, rfl, rfl⟩ := pass_some_spec h
  have H := Lib.hid h1
  have g := Ed.asks_spec.1 h1
  obtain ⟨⟨i1, i2⟩, ⟨f1, f2⟩, ⟨t1, t2⟩, _, ⟨o1, o2⟩, ⟨e1, e2⟩, ⟨r1, r2⟩, ⟨w1, w2⟩, ⟨q1, q2⟩⟩ := ok_ints g.1
  obtain ⟨_, ⟨y1, y2⟩, ⟨z1, z2⟩⟩ := g
  obtain ⟨c1, c2, _, _, _⟩ := cdiv_bounds z1 r1
  obtain ⟨n, hn⟩ : ∃ n, cdiv size ra = n := ⟨_, rfl⟩
  obtain ⟨m, hm⟩ : ∃ m, max t op = m := ⟨_, rfl⟩
  rw [hn] at h4 c1 c2
  rw [hm] at h3 h4
  have m1 : 0 ≤ m := by omega
  have m2 : m ≤ 1099511627776 := by omega
  have h2' : ¬ ro < size := by omega
  have h3' : ¬ en ≤ m := by omega
  have h4' : ¬ en < m + n := by omega
  have hmx : (if t < op then op else t) = m := by rw [← hm]; split <;> omega
  rw [hn, hm]
  have HN := Lib.hid (show ∀ w', Calls Tryz.prog 66 #[.agg #[.int .i64 id, .int .i64 fr, .int .i64 tn, .int .i64 op, .int .i64 en, .int .i64 ra, .int .i64 ow, .int .i64 ro], .int .i64 size] w' fun e w'' => e = .returned (.int .i64 n) ∧ Below w'.heap.size w' w'' from fun w' => hn ▸ takes_yes r1 z1 z2 w')
  have HMX := Lib.hid hmx
  clear h h1 hn hm hmx
  go_enter Tryz.func45, Tryz.ntmps45
  go_wp2_with fail
  (with_reducible refine Calls.mono (asked_is true H.out _) ?_)
  rintro e wa ⟨rfl, hB⟩
  obtain ⟨hc, hf⟩ := bcell hB
  have hz := hB.size
  simp only [World.size_alloc] at hz
  have hlt : w.heap.size < wa.heap.size := by omega
  have hp : ∀ o, wa.cell? ⟨w.heap.size, o, none⟩ = (#[.int .i64 id, .int .i64 fr, .int .i64 tn, .int .i64 op, .int .i64 en, .int .i64 ra, .int .i64 ow, .int .i64 ro] : Array Value)[o]? := by
    intro o
    rw [hc _ _ (by simp only [World.size_alloc]; omega)]
    simp only [cell_alloc_if]
    rw [if_pos trivial]
  have HB := Lib.hid (show Below w.heap.size w wa by (repeat (first | exact Below.refl _ _ | exact hB | refine Below.alloc ?_ (by first | omega | (simp; done) | (simp; omega)) _ | refine Below.setCell ?_ (by first | omega | (simp; done) | (simp; omega)) _ | refine Below.drew ?_ | refine Below.trans ?_ (hB.mono (by first | omega | (simp; done) | (simp; omega))))))
  clear hc hf hB
  go_upto_region 3 with fail
  have hmx := HMX.out
  have hg := below_regrown wa
  have hq := grown_cells wa
  try simp only [List.append]
  first | refine wp_region_text_below ?_ | refine wp_region_quiet_below (by kernel_rfl) (by kernel_rfl) ?_
  repeat (go_big_quiet_step ((go_at_call 66; with_reducible exact Calls.regrown_of (HN.out _))))
  refine wpQuiet_nil ?_
  intro _ hqw
  obtain ⟨pq, hqw⟩ := hqw
  subst hqw
  clear hmx
  go_upto_region 6 with fail
  refine name_wp (fun W hW => ?_)
  have HBW := Lib.hid (show Below w.heap.size w W by rw [hW]; exact HB.out.trans ((hg _ _).mono HB.out.size))
  have hpW : ∀ o, W.cell? ⟨w.heap.size, o, none⟩ = (#[.int .i64 id, .int .i64 fr, .int .i64 tn, .int .i64 op, .int .i64 en, .int .i64 ra, .int .i64 ow, .int .i64 ro] : Array Value)[o]? := fun o => by rw [hW, hq _ _ _ _ hlt]; exact hp o
  have hltW : w.heap.size < W.heap.size := Nat.lt_of_lt_of_le hlt (by rw [hW]; exact (hg _ _).size)
  clear hg hq hp hlt hW
  have hg := below_regrown W
  have hq := grown_cells W
  try simp only [List.append]
  first | refine wp_region_text_below ?_ | refine wp_region_quiet_below (by kernel_rfl) (by kernel_rfl) ?_
  repeat (go_big_quiet_step ((fail)))
  refine wpQuiet_nil ?_
  intro _ hqw
  obtain ⟨pq, hqw⟩ := hqw
  subst hqw
  go_wp2
  go_ret3
  exact ⟨rfl, HBW.out.trans ((hg _ _).mono HBW.out.size)⟩
set_option maxHeartbeats 1000000 in
theorem pass_no {id fr tn op en ra ow ro : Int} {t size : Int} (h : Ed.pass ⟨id, fr, tn, op, en, ra, ow, ro⟩ t size = none) (w : World) :
    Calls Tryz.prog 45 #[.agg #[.int .i64 id, .int .i64 fr, .int .i64 tn, .int .i64 op, .int .i64 en, .int .i64 ra, .int .i64 ow, .int .i64 ro], .int .i64 t, .int .i64 size] w fun e w' => e = .returned (.tuple #[.int .i64 0, .int .i64 0, .bool false]) ∧ Below w.heap.size w w' := by
  have h0 := pass_none_spec h
  clear h
  by_cases h1 : Ed.asks ⟨id, fr, tn, op, en, ra, ow, ro⟩ t size = true
  · by_cases h2 : size ≤ ro
    · have H := Lib.hid h1
      have g := Ed.asks_spec.1 h1
      obtain ⟨⟨i1, i2⟩, ⟨f1, f2⟩, ⟨t1, t2⟩, _, ⟨o1, o2⟩, ⟨e1, e2⟩, ⟨r1, r2⟩, ⟨w1, w2⟩, ⟨q1, q2⟩⟩ := ok_ints g.1
      obtain ⟨_, ⟨y1, y2⟩, ⟨z1, z2⟩⟩ := g
      obtain ⟨c1, c2, _, _, _⟩ := cdiv_bounds z1 r1
      obtain ⟨n, hn⟩ : ∃ n, cdiv size ra = n := ⟨_, rfl⟩
      obtain ⟨m, hm⟩ : ∃ m, max t op = m := ⟨_, rfl⟩
      have h3 : en ≤ m ∨ m < en ∧ en < m + n := by
        rw [hn, hm] at h0
        rcases Int.lt_or_le m en with h4 | h4
        · rcases Int.lt_or_le en (m + n) with h5 | h5
          · exact .inr ⟨h4, h5⟩
          · exact absurd ⟨h1, h2, h4, h5⟩ h0
        · exact .inl h4
      have H3 := Lib.hid h3
      rw [hn] at c1 c2
      have m1 : 0 ≤ m := by omega
      have m2 : m ≤ 1099511627776 := by omega
      have h2' : ¬ ro < size := by omega
      have hmx : (if t < op then op else t) = m := by rw [← hm]; split <;> omega
      have HN := Lib.hid (show ∀ w', Calls Tryz.prog 66 #[.agg #[.int .i64 id, .int .i64 fr, .int .i64 tn, .int .i64 op, .int .i64 en, .int .i64 ra, .int .i64 ow, .int .i64 ro], .int .i64 size] w' fun e w'' => e = .returned (.int .i64 n) ∧ Below w'.heap.size w' w'' from fun w' => hn ▸ takes_yes r1 z1 z2 w')
      have HMX := Lib.hid hmx
      clear h0 h1 hn hm hmx h3
      go_enter Tryz.func45, Tryz.ntmps45
      go_wp2_with fail
      (with_reducible refine Calls.mono (asked_is true H.out _) ?_)
      rintro e wa ⟨rfl, hB⟩
      obtain ⟨hc, hf⟩ := bcell hB
      have hz := hB.size
      simp only [World.size_alloc] at hz
      have hlt : w.heap.size < wa.heap.size := by omega
      have hp : ∀ o, wa.cell? ⟨w.heap.size, o, none⟩ = (#[.int .i64 id, .int .i64 fr, .int .i64 tn, .int .i64 op, .int .i64 en, .int .i64 ra, .int .i64 ow, .int .i64 ro] : Array Value)[o]? := by
        intro o
        rw [hc _ _ (by simp only [World.size_alloc]; omega)]
        simp only [cell_alloc_if]
        rw [if_pos trivial]
      have HB := Lib.hid (show Below w.heap.size w wa by (repeat (first | exact Below.refl _ _ | exact hB | refine Below.alloc ?_ (by first | omega | (simp; done) | (simp; omega)) _ | refine Below.setCell ?_ (by first | omega | (simp; done) | (simp; omega)) _ | refine Below.drew ?_ | refine Below.trans ?_ (hB.mono (by first | omega | (simp; done) | (simp; omega))))))
      clear hc hf hB
      go_upto_region 3 with fail
      have hmx := HMX.out
      have hg := below_regrown wa
      have hq := grown_cells wa
      try simp only [List.append]
      first | refine wp_region_text_below ?_ | refine wp_region_quiet_below (by kernel_rfl) (by kernel_rfl) ?_
      repeat (go_big_quiet_step ((go_at_call 66; with_reducible exact Calls.regrown_of (HN.out _))))
      refine wpQuiet_nil ?_
      intro _ hqw
      obtain ⟨pq, hqw⟩ := hqw
      subst hqw
      clear hmx
      rcases H3.out with h3 | ⟨h3, h4⟩
      all_goals
        go_wp2
        go_ret3
        exact ⟨rfl, HB.out.trans ((hg _ _).mono HB.out.size)⟩
    · have H := Lib.hid h1
      clear h0 h1
      go_enter Tryz.func45, Tryz.ntmps45
      go_wp2_with fail
      (with_reducible refine Calls.mono (asked_is true H.out _) ?_)
      rintro e wa ⟨rfl, hB⟩
      obtain ⟨hc, hf⟩ := bcell hB
      go_wp2
      go_ret3
      exact ⟨rfl, by (repeat (first | exact Below.refl _ _ | exact hB | refine Below.alloc ?_ (by first | omega | (simp; done) | (simp; omega)) _ | refine Below.setCell ?_ (by first | omega | (simp; done) | (simp; omega)) _ | refine Below.drew ?_ | refine Below.trans ?_ (hB.mono (by first | omega | (simp; done) | (simp; omega)))))⟩
  · have H := Lib.hid (show Ed.asks ⟨id, fr, tn, op, en, ra, ow, ro⟩ t size = false by simpa using h1)
    clear h0 h1
    go_enter Tryz.func45, Tryz.ntmps45
    go_wp2_with fail
    (with_reducible refine Calls.mono (asked_is false H.out _) ?_)
    rintro e wa ⟨rfl, hB⟩
    obtain ⟨hc, hf⟩ := bcell hB
    go_wp2
    go_ret3
    exact ⟨rfl, by (repeat (first | exact Below.refl _ _ | exact hB | refine Below.alloc ?_ (by first | omega | (simp; done) | (simp; omega)) _ | refine Below.setCell ?_ (by first | omega | (simp; done) | (simp; omega)) _ | refine Below.drew ?_ | refine Below.trans ?_ (hB.mono (by first | omega | (simp; done) | (simp; omega)))))⟩
set_option maxHeartbeats 1000000 in
theorem latest_asked {id fr tn op en ra ow ro : Int} {b size : Int} (h1 : Ed.asks ⟨id, fr, tn, op, en, ra, ow, ro⟩ b size = true) (h2 : size ≤ ro) (w : World) :
    Calls Tryz.prog 83 #[.agg #[.int .i64 id, .int .i64 fr, .int .i64 tn, .int .i64 op, .int .i64 en, .int .i64 ra, .int .i64 ow, .int .i64 ro], .int .i64 b, .int .i64 size] w fun e w' => e = .returned (if op ≤ Ed.last ⟨id, fr, tn, op, en, ra, ow, ro⟩ b size then .tuple #[.int .i64 (Ed.last ⟨id, fr, tn, op, en, ra, ow, ro⟩ b size), .bool true] else .tuple #[.int .i64 0, .bool false]) ∧ Below w.heap.size w w' := by
  have H := Lib.hid h1
  have g := Ed.asks_spec.1 h1
  obtain ⟨⟨i1, i2⟩, ⟨f1, f2⟩, ⟨t1, t2⟩, _, ⟨o1, o2⟩, ⟨e1, e2⟩, ⟨r1, r2⟩, ⟨w1, w2⟩, ⟨q1, q2⟩⟩ := ok_ints g.1
  obtain ⟨_, ⟨y1, y2⟩, ⟨z1, z2⟩⟩ := g
  obtain ⟨c1, c2, _, _, _⟩ := cdiv_bounds z1 r1
  obtain ⟨n, hn⟩ : ∃ n, cdiv size ra = n := ⟨_, rfl⟩
  obtain ⟨l, hl⟩ : ∃ l, Ed.last ⟨id, fr, tn, op, en, ra, ow, ro⟩ b size = l := ⟨_, rfl⟩
  have hl2 : min (min (en - 1) (en - n)) (b - n - ow) = l := by rw [← hl, ← hn]; rfl
  rw [hn] at c1 c2
  rw [hl]
  have h2' : ¬ ro < size := by omega
  have hmn : (if b - n - ow < (if 1 < n then en - n else en - 1) then b - n - ow else (if 1 < n then en - n else en - 1)) = l := by rw [← hl2]; split <;> split <;> omega
  have HN := Lib.hid (show ∀ w', Calls Tryz.prog 66 #[.agg #[.int .i64 id, .int .i64 fr, .int .i64 tn, .int .i64 op, .int .i64 en, .int .i64 ra, .int .i64 ow, .int .i64 ro], .int .i64 size] w' fun e w'' => e = .returned (.int .i64 n) ∧ Below w'.heap.size w' w'' from fun w' => hn ▸ takes_yes r1 z1 z2 w')
  have HMN := Lib.hid hmn
  clear h1 hn hl hl2 hmn
  go_enter Tryz.func83, Tryz.ntmps83
  go_wp2_with fail
  (with_reducible refine Calls.mono (asked_is true H.out _) ?_)
  rintro e wa ⟨rfl, hB⟩
  obtain ⟨hc, hf⟩ := bcell hB
  go_wp2_with fail
  (with_reducible refine Calls.mono (HN.out _) ?_)
  rintro e wb ⟨rfl, hb⟩
  replace hB := hB.trans (hb.mono hB.size)
  clear hb hc hf
  obtain ⟨hc, hf⟩ := bcell hB
  have hmn := HMN.out
  by_cases h3 : op ≤ l
  · have h3' : ¬ l < op := by omega
    go_wp2
    go_ret2
    exact ⟨by first | rfl | (rw [if_pos h3]; rfl), by (repeat (first | exact Below.refl _ _ | exact hB | refine Below.alloc ?_ (by first | omega | (simp; done) | (simp; omega)) _ | refine Below.setCell ?_ (by first | omega | (simp; done) | (simp; omega)) _ | refine Below.drew ?_ | refine Below.trans ?_ (hB.mono (by first | omega | (simp; done) | (simp; omega)))))⟩
  · have h3' : l < op := by omega
    go_wp2
    go_ret2
    exact ⟨by first | rfl | (rw [if_neg (by omega)]; rfl), by (repeat (first | exact Below.refl _ _ | exact hB | refine Below.alloc ?_ (by first | omega | (simp; done) | (simp; omega)) _ | refine Below.setCell ?_ (by first | omega | (simp; done) | (simp; omega)) _ | refine Below.drew ?_ | refine Below.trans ?_ (hB.mono (by first | omega | (simp; done) | (simp; omega)))))⟩
theorem latest_not {id fr tn op en ra ow ro : Int} {b size : Int} (h : ¬ (Ed.asks ⟨id, fr, tn, op, en, ra, ow, ro⟩ b size = true ∧ size ≤ ro)) (w : World) :
    Calls Tryz.prog 83 #[.agg #[.int .i64 id, .int .i64 fr, .int .i64 tn, .int .i64 op, .int .i64 en, .int .i64 ra, .int .i64 ow, .int .i64 ro], .int .i64 b, .int .i64 size] w fun e w' => e = .returned (.tuple #[.int .i64 0, .bool false]) ∧ Below w.heap.size w w' := by
  by_cases h1 : Ed.asks ⟨id, fr, tn, op, en, ra, ow, ro⟩ b size = true
  · have h2 : ro < size := by
      rcases Int.lt_or_le ro size with h3 | h3
      · exact h3
      · exact absurd ⟨h1, h3⟩ h
    have H := Lib.hid h1
    clear h h1
    go_enter Tryz.func83, Tryz.ntmps83
    go_wp2_with fail
    (with_reducible refine Calls.mono (asked_is true H.out _) ?_)
    rintro e wa ⟨rfl, hB⟩
    obtain ⟨hc, hf⟩ := bcell hB
    go_wp2
    go_ret2
    exact ⟨rfl, by (repeat (first | exact Below.refl _ _ | exact hB | refine Below.alloc ?_ (by first | omega | (simp; done) | (simp; omega)) _ | refine Below.setCell ?_ (by first | omega | (simp; done) | (simp; omega)) _ | refine Below.drew ?_ | refine Below.trans ?_ (hB.mono (by first | omega | (simp; done) | (simp; omega)))))⟩
  · have H := Lib.hid (show Ed.asks ⟨id, fr, tn, op, en, ra, ow, ro⟩ b size = false by simpa using h1)
    clear h h1
    go_enter Tryz.func83, Tryz.ntmps83
    go_wp2_with fail
    (with_reducible refine Calls.mono (asked_is false H.out _) ?_)
    rintro e wa ⟨rfl, hB⟩
    obtain ⟨hc, hf⟩ := bcell hB
    go_wp2
    go_ret2
    exact ⟨rfl, by (repeat (first | exact Below.refl _ _ | exact hB | refine Below.alloc ?_ (by first | omega | (simp; done) | (simp; omega)) _ | refine Below.setCell ?_ (by first | omega | (simp; done) | (simp; omega)) _ | refine Below.drew ?_ | refine Below.trans ?_ (hB.mono (by first | omega | (simp; done) | (simp; omega)))))⟩
theorem latest_some_spec {id fr tn op en ra ow ro : Int} {b size t : Int} (h : Ed.latest ⟨id, fr, tn, op, en, ra, ow, ro⟩ b size = some t) : Ed.asks ⟨id, fr, tn, op, en, ra, ow, ro⟩ b size = true ∧ size ≤ ro ∧ op ≤ t ∧ t = Ed.last ⟨id, fr, tn, op, en, ra, ow, ro⟩ b size := by
  unfold Ed.latest at h
  split at h
  · rename_i hc
    simp only [Option.some.injEq] at h
    exact ⟨hc.1, hc.2.1, h ▸ hc.2.2, h.symm⟩
  · cases h
theorem latest_yes {id fr tn op en ra ow ro : Int} {b size t : Int} (h : Ed.latest ⟨id, fr, tn, op, en, ra, ow, ro⟩ b size = some t) (w : World) :
    Calls Tryz.prog 83 #[.agg #[.int .i64 id, .int .i64 fr, .int .i64 tn, .int .i64 op, .int .i64 en, .int .i64 ra, .int .i64 ow, .int .i64 ro], .int .i64 b, .int .i64 size] w fun e w' => e = .returned (.tuple #[.int .i64 t, .bool true]) ∧ Below w.heap.size w w' := by
  obtain ⟨h1, h2, h3, rfl⟩ := latest_some_spec h
  have := latest_asked h1 h2 w
  rw [if_pos h3] at this
  exact this
theorem latest_no {id fr tn op en ra ow ro : Int} {b size : Int} (h : Ed.latest ⟨id, fr, tn, op, en, ra, ow, ro⟩ b size = none) (w : World) :
    Calls Tryz.prog 83 #[.agg #[.int .i64 id, .int .i64 fr, .int .i64 tn, .int .i64 op, .int .i64 en, .int .i64 ra, .int .i64 ow, .int .i64 ro], .int .i64 b, .int .i64 size] w fun e w' => e = .returned (.tuple #[.int .i64 0, .bool false]) ∧ Below w.heap.size w w' := by
  by_cases h1 : Ed.asks ⟨id, fr, tn, op, en, ra, ow, ro⟩ b size = true ∧ size ≤ ro
  · have := latest_asked h1.1 h1.2 w
    rw [if_neg (fun h3 => by rw [Ed.latest, if_pos ⟨h1.1, h1.2, h3⟩] at h; cases h)] at this
    exact this
  · exact latest_not h1 w
end Go.Proofs.YtmbaklodgpcegaaGreat
