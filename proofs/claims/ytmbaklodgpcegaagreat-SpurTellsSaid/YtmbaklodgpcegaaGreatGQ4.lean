/- Several texts of mine in one: Ints, EarlyRows, Ref15. No condition. -/
import Derived.Test.YtmbaklodgpcegaaGreatGQ21
import Derived.Test.YtmbaklodgpcegaaGreatChecked
import Derived.Test.YtmbaklodgpcegaaGreatEarlyMath
import Derived.Test.YtmbaklodgpcegaaGreatGQ1
import Derived.Test.YtmbaklodgpcegaaGreatGQ3

/- The document's own sameness of rows of ints. No condition. -/
namespace Go.Proofs.YtmbaklodgpcegaaGreat
open Go.ChangeShapes Go.WideShapes Go.ChangeAt Go.RowKit Go.Sort
set_option linter.unusedSimpArgs false
set_option linter.unusedVariables false
theorem intAt {l : List Int} {k : Nat} (h : k < l.length) : (l.map (Value.int .i64))[k]? = some (.int .i64 (l.getD k 0)) := by
  rw [List.getElem?_map, List.getElem?_eq_getElem h, List.getD_eq_getElem?_getD, List.getElem?_eq_getElem h]; rfl
theorem Lst.atI {w : World} {B : Nat} {A : Option Addr} {n : Nat} {l : List Int} (h : Lst w B 1 A n (l.map (Value.int .i64))) (hl : l.length = n) {k : Nat} (hk : k < n) : ∃ ad, A = some ad ∧ ad.block < B ∧ w.cell? (ad.add k) = some (.int .i64 (l.getD k 0)) := by
  obtain ⟨ad, e, hb, hc⟩ := h.at_ (by omega)
  exact ⟨ad, e, hb, hc _ _ (intAt (by omega))⟩
theorem extI {a b : List Int} (hl : a.length = b.length) (h : ∀ i, i < a.length → a.getD i 0 = b.getD i 0) : a = b := by
  refine List.ext_getElem hl fun i h1 h2 => ?_
  have := h i h1
  rw [List.getD_eq_getElem?_getD, List.getElem?_eq_getElem h1, List.getD_eq_getElem?_getD, List.getElem?_eq_getElem h2] at this
  exact this
set_option maxHeartbeats 1000000 in
set_option maxRecDepth 100000 in
theorem ints_any (A A' : Option Addr) (n c n' c' : Nat) (d d' : List Int) (w : World) (hd : d.length = n) (hd' : d'.length = n') (hn : n ≤ 1000000) (hn' : n' ≤ 1000000) (h : Sl w w.heap.size 1 A n c (d.map (Value.int .i64))) (h' : Sl w w.heap.size 1 A' n' c' (d'.map (Value.int .i64))) :
    Calls Tryz.prog 9 #[.slice A n c, .slice A' n' c'] w fun e w' => e = .returned (.bool (decide (d = d'))) ∧ Below w.heap.size w w' := by
  by_cases hne : n = n'
  · subst hne
    have hz : ((n : Int) != (n : Int)) = false := by simp
    go_enter Tryz.func9, Tryz.ntmps9
    go_wp2
    go_loopw [5] (fun i wr => ∃ k : Nat, k ≤ n ∧ i = .int .i64 k ∧ Hid (∀ j, j < k → d.getD j 0 = d'.getD j 0) ∧ Below w.heap.size w wr) (fun i _ => n - (intOf i).toNat)
    case atStart => exact ⟨0, by omega, rfl, (fun j hj => by omega), Below.refl _ _⟩
    case round =>
      obtain ⟨k, hk, rfl, HQ, hB⟩ := hrel
      by_cases hkn : k < n
      · obtain ⟨ad, rfl, hab, c0⟩ := (h.below hB).lst.atI hd hkn
        obtain ⟨ad', rfl, hab', e0⟩ := (h'.below hB).lst.atI hd' hkn
        generalize hx : d.getD k 0 = x at *
        generalize hy : d'.getD k 0 = y at *
        have HX := Lib.hid hx
        have HY := Lib.hid hy
        clear hx hy
        go_wp2_with fail
        have q_c0 := fun d os => cell_regrown c0 d os
        have q_e0 := fun d os => cell_regrown e0 d os
        by_cases hxy : x = y
        · have HE := Lib.hid hxy
          have hb : (x != y) = false := by simp [hxy]
          clear hxy
          try simp only [List.append]
          first | refine wp_region_text_below ?_ | refine wp_region_quiet_below (by kernel_rfl) (by kernel_rfl) ?_
          repeat (go_big_quiet_step ((fail)))
          refine wpQuiet_nil ?_
          intro _ hqw
          obtain ⟨pq, hqw⟩ := hqw
          subst hqw
          clear q_c0 q_e0
          have hbel := below_regrown wr pq.d pq.os
          have hB2 := hB.trans (hbel.mono hB.size)
          clear hbel c0 e0 hB
          generalize grow (redrawn wr pq.d) pq.os = wq at *
          go_wp2
          go_roundw
          case rel => exact ⟨k + 1, by omega, by go_num, (fun j hj => by
            by_cases e : j = k
            · rw [e, HX.out, HY.out]; exact HE.out
            · exact HQ.out j (by omega)), hB2⟩
          case measure => simp [intOf]; omega
        · have hb : (x != y) = true := by simpa using hxy
          have hfin : decide (d = d') = false := by
            rw [decide_eq_false_iff_not]
            intro e
            have e1 := HX.out
            rw [e, HY.out] at e1
            exact hxy e1.symm
          have HF := Lib.hid hfin
          clear hxy hfin
          try simp only [List.append]
          first | refine wp_region_text_below ?_ | refine wp_region_quiet_below (by kernel_rfl) (by kernel_rfl) ?_
          repeat (go_big_quiet_step ((fail)))
          refine wpQuiet_nil ?_
          intro _ hqw
          obtain ⟨pq, hqw⟩ := hqw
          subst hqw
          clear q_c0 q_e0
          have hbel := below_regrown wr pq.d pq.os
          have hB2 := hB.trans (hbel.mono hB.size)
          clear hbel c0 e0 hB
          generalize grow (redrawn wr pq.d) pq.os = wq at *
          go_wp2
          go_ret
          exact ⟨by rw [HF.out]; rfl, hB2⟩
      · obtain rfl : k = n := by omega
        have hfin : decide (d = d') = true := by
          rw [decide_eq_true_eq]
          exact extI (by omega) (fun j hj => HQ.out j (by omega))
        have HF := Lib.hid hfin
        clear hfin
        go_wp2
        go_ret
        exact ⟨by rw [HF.out]; rfl, hB⟩
  · have hz : ((n : Int) != (n' : Int)) = true := by
      rw [bne_iff_ne]; omega
    have hfin : decide (d = d') = false := by
      rw [decide_eq_false_iff_not]
      intro e
      apply hne
      rw [← hd, ← hd', e]
    have HF := Lib.hid hfin
    clear hfin
    go_enter Tryz.func9, Tryz.ntmps9
    go_wp2
    go_ret
    exact ⟨by rw [HF.out]; rfl, Below.refl _ _⟩
end Go.Proofs.YtmbaklodgpcegaaGreat

/- Rows of times by rising nodes, and the tables that they are. Plain facts. -/
namespace Go.Proofs.YtmbaklodgpcegaaGreat
open Go.ChangeShapes Go.WideShapes Go.ChangeAt Go.RowKit Go.Sort
set_option linter.unusedSimpArgs false
set_option linter.unusedVariables false
/-- When it is at that node, by the first one that tells. -/
def atR (r : List (Int × Int)) (n : Int) : Option Int := (r.find? (fun x => x.1 == n)).map (·.2)
def Srt (r : List (Int × Int)) : Prop := r.Pairwise (fun a b => a.1 < b.1)
theorem atR_nil (n : Int) : atR [] n = none := rfl
theorem atR_cons (x : Int × Int) (r : List (Int × Int)) (n : Int) : atR (x :: r) n = if x.1 = n then some x.2 else atR r n := by
  unfold atR
  by_cases h : x.1 = n
  · simp [h]
  · rw [if_neg h, List.find?_cons_of_neg (by simpa using h)]
theorem atR_mem {r : List (Int × Int)} {n u : Int} (h : atR r n = some u) : (n, u) ∈ r := by
  unfold atR at h
  cases hf : r.find? (fun x => x.1 == n) with
  | none => rw [hf] at h; cases h
  | some x =>
    rw [hf] at h
    have h1 := List.mem_of_find?_eq_some hf
    have h2 := List.find?_some hf
    simp at h h2
    rw [← h2, ← h]; exact h1
theorem atR_none {r : List (Int × Int)} {n : Int} : atR r n = none ↔ ∀ u, (n, u) ∉ r := by
  constructor
  · intro h u hm
    unfold atR at h
    rw [Option.map_eq_none_iff, List.find?_eq_none] at h
    have := h _ hm
    simp at this
  · intro h
    cases hu : atR r n with
    | none => rfl
    | some u => exact absurd (atR_mem hu) (h u)
theorem Srt.at_ : ∀ {r : List (Int × Int)} {n u : Int}, Srt r → (n, u) ∈ r → atR r n = some u
  | x :: r, n, u, h, hm => by
    have h1 := List.pairwise_cons.1 h
    rw [atR_cons]
    rcases List.mem_cons.1 hm with h2 | h2
    · subst h2; simp
    · have := h1.1 _ h2
      simp only at this
      rw [if_neg (by omega)]
      exact Srt.at_ h1.2 h2
theorem Srt.iff {r : List (Int × Int)} (h : Srt r) {n u : Int} : atR r n = some u ↔ (n, u) ∈ r := ⟨atR_mem, h.at_⟩
theorem Srt.ext : ∀ {r r' : List (Int × Int)}, Srt r → Srt r' → (∀ n, atR r n = atR r' n) → r = r'
  | [], [], _, _, _ => rfl
  | [], y :: s, _, _, he => by have := he y.1; rw [atR_nil, atR_cons, if_pos rfl] at this; cases this
  | x :: r, [], _, _, he => by have := he x.1; rw [atR_nil, atR_cons, if_pos rfl] at this; cases this
  | x :: r, y :: s, h, h', he => by
    have h1 := List.pairwise_cons.1 h
    have h2 := List.pairwise_cons.1 h'
    have hxy : x = y := by
      have hx : (x.1, x.2) ∈ y :: s := (Srt.iff h').1 (by rw [← he x.1, atR_cons, if_pos rfl])
      have hy : (y.1, y.2) ∈ x :: r := (Srt.iff h).1 (by rw [he y.1, atR_cons, if_pos rfl])
      rcases List.mem_cons.1 hx with h3 | h3
      · exact h3
      · rcases List.mem_cons.1 hy with h4 | h4
        · exact h4.symm
        · have h5 := h2.1 _ h3
          have h6 := h1.1 _ h4
          simp only at h5 h6
          omega
    subst hxy
    have hr : r = s := Srt.ext h1.2 h2.2 fun n => by
      have h3 := he n
      rw [atR_cons, atR_cons] at h3
      by_cases e : x.1 = n
      · subst e
        have a1 : atR r x.1 = none := atR_none.2 fun u hu => by have := h1.1 _ hu; simp only at this; omega
        have a2 : atR s x.1 = none := atR_none.2 fun u hu => by have := h2.1 _ hu; simp only at this; omega
        rw [a1, a2]
      · rw [if_neg e, if_neg e] at h3; exact h3
    rw [hr]
/-- Times in which that of a node is so. -/
def withR (n a : Int) : List (Int × Int) → Bool → List (Int × Int)
  | [], laid => if laid = true then [] else [(n, a)]
  | x :: r, laid => (if laid = false ∧ n ≤ x.1 then [(n, a)] else []) ++ (if x.1 = n then [] else [x]) ++ withR n a r (laid || decide (n ≤ x.1))
theorem withR_mem {n a : Int} {y : Int × Int} : ∀ {r : List (Int × Int)} {laid : Bool}, y ∈ withR n a r laid ↔ (laid = false ∧ y = (n, a)) ∨ (y ∈ r ∧ y.1 ≠ n)
  | [], true => by simp [withR]
  | [], false => by simp [withR]
  | x :: r, laid => by
    have ih := withR_mem (n := n) (a := a) (y := y) (r := r) (laid := laid || decide (n ≤ x.1))
    rw [withR, List.mem_append, List.mem_append, ih]
    by_cases h1 : n ≤ x.1 <;> by_cases h2 : x.1 = n <;> cases laid <;> simp [h1, h2]
    all_goals (try (by_cases hy : y = x <;> simp [hy, h2] <;> (try omega)))
theorem withR_srt {n a : Int} : ∀ {r : List (Int × Int)}, Srt r → (Srt (withR n a r true)) ∧ Srt (withR n a r false)
  | [], _ => by simp [withR, Srt]
  | x :: r, h => by
    have h1 := List.pairwise_cons.1 h
    obtain ⟨i1, i2⟩ := withR_srt (n := n) (a := a) h1.2
    have key : Srt ((if x.1 = n then [] else [x]) ++ withR n a r true) := by
      by_cases e : x.1 = n
      · rw [if_pos e]; exact i1
      · rw [if_neg e]
        refine List.pairwise_cons.2 ⟨fun y hy => ?_, i1⟩
        rcases withR_mem.1 hy with h2 | h2
        · simp at h2
        · exact h1.1 y h2.1
    refine ⟨?_, ?_⟩
    · rw [withR, if_neg (by simp), List.nil_append, Bool.true_or]; exact key
    · rw [withR]
      by_cases hc : n ≤ x.1
      · rw [if_pos ⟨rfl, hc⟩, show (false || decide (n ≤ x.1)) = true by simp [hc], List.append_assoc]
        show Srt ((n, a) :: ((if x.1 = n then [] else [x]) ++ withR n a r true))
        refine List.pairwise_cons.2 ⟨fun y hy => ?_, key⟩
        rcases List.mem_append.1 hy with h2 | h2
        · by_cases e : x.1 = n
          · rw [if_pos e] at h2; cases h2
          · rw [if_neg e] at h2
            rw [List.mem_singleton.1 h2]
            show n < x.1
            omega
        · rcases withR_mem.1 h2 with h3 | h3
          · simp at h3
          · have := h1.1 y h3.1
            show n < y.1
            omega
      · rw [if_neg (fun e => hc e.2), List.nil_append, if_neg (by omega), show (false || decide (n ≤ x.1)) = false by simp [hc]]
        refine List.pairwise_cons.2 ⟨fun y hy => ?_, i2⟩
        rcases withR_mem.1 hy with h2 | h2
        · rw [h2.2]; show x.1 < n; omega
        · exact h1.1 y h2.1
theorem withR_at {r : List (Int × Int)} (h : Srt r) (n a : Int) : atR (withR n a r false) = setT (atR r) n a := by
  funext m
  have hs := (withR_srt (n := n) (a := a) h).2
  by_cases e : m = n
  · subst e
    rw [setT_same]
    exact hs.at_ (withR_mem.2 (.inl ⟨rfl, rfl⟩))
  · rw [setT_ne _ _ e]
    cases hu : atR r m with
    | none =>
      rw [atR_none] at hu ⊢
      intro u hm
      rcases withR_mem.1 hm with h2 | h2
      · exact e (by have := h2.2; injection this)
      · exact hu u h2.1
    | some u => exact hs.at_ (withR_mem.2 (.inr ⟨atR_mem hu, e⟩))
end Go.Proofs.YtmbaklodgpcegaaGreat

/- The document's own earliest times: in, At, Same. They leave the world as it is, or make new memory alone. -/
namespace Go.Proofs.YtmbaklodgpcegaaGreat
open Go.ChangeShapes Go.WideShapes Go.ChangeAt Go.RowKit Go.Sort Hp
set_option linter.unusedSimpArgs false
set_option linter.unusedVariables false
theorem atR_at : ∀ {d : List (Int × Int)} {i : Nat} {n : Int}, i < d.length → (gt d i).1 = n → (∀ j, j < i → (gt d j).1 ≠ n) → atR d n = some (gt d i).2
  | x :: r, 0, n, _, h, _ => by
    have h' : x.1 = n := h
    rw [atR_cons, if_pos h']; rfl
  | x :: r, i + 1, n, hi, h, hn => by
    have h0 : x.1 ≠ n := hn 0 (by omega)
    rw [atR_cons, if_neg h0]
    exact atR_at (d := r) (i := i) (by simpa using hi) h (fun j hj => hn (j + 1) (by omega))
theorem atR_off : ∀ {d : List (Int × Int)} {n : Int}, (∀ j, j < d.length → (gt d j).1 ≠ n) → atR d n = none
  | [], n, _ => rfl
  | x :: r, n, h => by
    have h0 : x.1 ≠ n := h 0 (by simp)
    rw [atR_cons, if_neg h0]
    exact atR_off (d := r) fun j hj => h (j + 1) (by simpa using hj)
theorem take_next2 {l : List (Int × Int)} {i : Nat} (h : i < l.length) : l.take (i + 1) = l.take i ++ [gt l i] := by
  rw [List.take_succ_eq_append_getElem h]
  unfold gt
  rw [List.getD_eq_getElem?_getD, List.getElem?_eq_getElem h]; rfl
theorem neq2 (x y : Int × Int) (w : World) : (binOp .neq 86 (.agg #[.int .i64 x.1, .int .i64 x.2]) (.agg #[.int .i64 y.1, .int .i64 y.2])).run Tryz.prog w = .ok (.bool (!decide (x = y))) w := by
  have u3 := Tryz.underlying3
  have a3 := Tryz.isAgg3
  have z3 := Tryz.sizeOf3
  have hS : Tryz.prog.underlying 86 = some (.struct (Tryz.prog.fieldsOf 86)) := by kernel_rfl
  have hp : Tryz.prog.stoodInHeld 86 = false := by kernel_rfl
  rw [run_neq_struct, show (10000 : Nat) = 9999 + 1 from rfl, run_equalIn_agg w 9999 86 _ _ hS hp]
  simp only [Program.fieldsOf, Tryz.underlying86]
  go_simp
  obtain ⟨a, b⟩ := x
  obtain ⟨c, d⟩ := y
  by_cases h0 : a = c <;> by_cases h1 : b = d <;> simp_all
end Go.Proofs.YtmbaklodgpcegaaGreat
