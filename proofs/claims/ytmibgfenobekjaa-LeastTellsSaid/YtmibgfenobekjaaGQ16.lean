/- Several texts of mine in one: TyHp, SlHp, Cmp, Order, CatI. No condition. -/
import Derived.Test.YtmibgfenobekjaaChecked
import Derived.Test.YtmibgfenobekjaaGQ19
import Derived.Test.YtmibgfenobekjaaGQ1
import Derived.Test.YtmibgfenobekjaaQTail

/- api.Hop: its cells, lists of it. No condition. -/
namespace Go.Proofs.Ytmibgfenobekjaa
open Go.ChangeShapes Go.WideShapes Go.ChangeAt Go.RowKit Go.Sort
set_option linter.unusedSimpArgs false
set_option linter.unusedVariables false
structure Hp where
  id : Int
  se : Int
  ar : Int
theorem Hp.ext_ {a b : Hp} (h0 : a.id = b.id) (h1 : a.se = b.se) (h2 : a.ar = b.ar) : a = b := by cases a; cases b; simp_all
instance : DecidableEq Hp := fun a b => if h : a.id = b.id ∧ a.se = b.se ∧ a.ar = b.ar then isTrue (Hp.ext_ h.1 h.2.1 h.2.2) else isFalse (by rintro rfl; simp at h)
def Hp.cs (r : Hp) : List Value := [.int .i64 r.id, .int .i64 r.se, .int .i64 r.ar]
def flatHp (d : List Hp) : List Value := d.flatMap Hp.cs
def gHp (d : List Hp) (i : Nat) : Hp := d.getD i ⟨0, 0, 0⟩
theorem flatHp_cons (p : Hp) (d : List Hp) : flatHp (p :: d) = .int .i64 p.id :: .int .i64 p.se :: .int .i64 p.ar :: flatHp d := rfl
theorem flatHp_length (d : List Hp) : (flatHp d).length = d.length * 3 := by
  induction d with
  | nil => rfl
  | cons p d ih => rw [flatHp_cons]; simp only [List.length_cons, ih]; omega
theorem flatHp_append (d e : List Hp) : flatHp (d ++ e) = flatHp d ++ flatHp e := by simp [flatHp]
theorem flatHp_at0 : ∀ (d : List Hp) (i : Nat), i < d.length → (flatHp d)[i * 3]? = some (.int .i64 (gHp d i).id)
  | p :: d, 0, _ => rfl
  | p :: d, i + 1, h => by
    rw [flatHp_cons, show (i + 1) * 3 = i * 3 + 1 + 1 + 1 from by omega]
    simp only [List.getElem?_cons_succ]
    exact flatHp_at0 d i (by simpa using h)
theorem flatHp_at1 : ∀ (d : List Hp) (i : Nat), i < d.length → (flatHp d)[i * 3 + 1]? = some (.int .i64 (gHp d i).se)
  | p :: d, 0, _ => rfl
  | p :: d, i + 1, h => by
    rw [flatHp_cons, show (i + 1) * 3 + 1 = i * 3 + 1 + 1 + 1 + 1 from by omega]
    simp only [List.getElem?_cons_succ]
    exact flatHp_at1 d i (by simpa using h)
theorem flatHp_at2 : ∀ (d : List Hp) (i : Nat), i < d.length → (flatHp d)[i * 3 + 2]? = some (.int .i64 (gHp d i).ar)
  | p :: d, 0, _ => rfl
  | p :: d, i + 1, h => by
    rw [flatHp_cons, show (i + 1) * 3 + 2 = i * 3 + 2 + 1 + 1 + 1 from by omega]
    simp only [List.getElem?_cons_succ]
    exact flatHp_at2 d i (by simpa using h)
theorem flatHp_set : ∀ (d : List Hp) (i : Nat) (p : Hp), ((((flatHp d).set (i * 3) (.int .i64 p.id)).set (i * 3 + 1) (.int .i64 p.se)).set (i * 3 + 2) (.int .i64 p.ar)) = flatHp (d.set i p)
  | [], i, p => by simp [flatHp]
  | q :: d, 0, p => rfl
  | q :: d, i + 1, p => by
    rw [flatHp_cons]
    rw [show (i + 1) * 3 = i * 3 + 1 + 1 + 1 from by omega]
    rw [show i * 3 + 1 + 1 + 1 + 1 = i * 3 + 1 + 1 + 1 + 1 from by omega]
    rw [show i * 3 + 1 + 1 + 1 + 2 = i * 3 + 2 + 1 + 1 + 1 from by omega]
    simp only [List.set_cons_succ]
    rw [flatHp_set d i p]
    rfl
theorem flatHp_take : ∀ (d : List Hp) (n : Nat), (flatHp d).take (n * 3) = flatHp (d.take n)
  | _, 0 => by simp [flatHp]
  | [], n + 1 => by simp [flatHp]
  | p :: d, n + 1 => by
    rw [flatHp_cons, show (n + 1) * 3 = n * 3 + 1 + 1 + 1 from by omega]
    simp only [List.take_succ_cons]
    rw [flatHp_take d n]
    rfl
theorem flatHp_drop : ∀ (d : List Hp) (n : Nat), (flatHp d).drop (n * 3) = flatHp (d.drop n)
  | _, 0 => by simp
  | [], n + 1 => by simp [flatHp]
  | p :: d, n + 1 => by
    rw [flatHp_cons, show (n + 1) * 3 = n * 3 + 1 + 1 + 1 from by omega]
    simp only [List.drop_succ_cons]
    rw [flatHp_drop d n]
theorem flatHp_one : ∀ (l : List Hp), ∀ u ∈ flatHp l, u.oneCell' = true
  | [], u, h => by simp [flatHp] at h
  | p :: l, u, h => by
    rw [flatHp_cons] at h
    simp only [List.mem_cons] at h
    rcases h with rfl | rfl | rfl | h
    all_goals first | rfl | exact flatHp_one l u h
theorem rowsHp_of : ∀ (n : Nat) (ns : List Int), ns.length = n * 3 → ∃ d : List Hp, d.length = n ∧ ns.map (Value.int .i64) = flatHp d
  | 0, [], _ => ⟨[], rfl, rfl⟩
  | 0, _ :: _, h => by simp at h
  | n + 1, a0 :: a1 :: a2 :: ns, h => by
    obtain ⟨d, h1, h2⟩ := rowsHp_of n ns (by simp at h; omega)
    exact ⟨⟨a0, a1, a2⟩ :: d, by simp [h1], by simp [flatHp_cons, h2]⟩
  | n + 1, [], h => by simp at h <;> omega
  | n + 1, [_], h => by simp at h <;> omega
  | n + 1, [_, _], h => by simp at h <;> omega

theorem Lst.atHp {w : World} {B : Nat} {A : Option Addr} {n : Nat} {l : List Hp} (h : Lst w B 3 A n (flatHp l)) (hl : l.length = n) {k : Nat} (hk : k < n) : ∃ ad, A = some ad ∧ ad.block < B ∧ w.cell? (ad.add (k * 3)) = some (.int .i64 (gHp l k).id) ∧ w.cell? ⟨(ad.add (k * 3)).block, (ad.add (k * 3)).off + 1, none⟩ = some (.int .i64 (gHp l k).se) ∧ w.cell? ⟨(ad.add (k * 3)).block, (ad.add (k * 3)).off + 2, none⟩ = some (.int .i64 (gHp l k).ar) := by
  obtain ⟨ad, e, hb, hc⟩ := h.at_ (by omega)
  exact ⟨ad, e, hb, hc _ _ (flatHp_at0 l k (by omega)), by rw [addr_next _ _ _ (by omega)]; exact hc _ _ (flatHp_at1 l k (by omega)), by rw [addr_next _ _ _ (by omega)]; exact hc _ _ (flatHp_at2 l k (by omega))⟩
theorem ownHp_at {w : World} {base : Nat} {t : TypeId} {g n c : Nat} {d : List Hp} (h : w.ownsRow base t 3 (.slice (some ⟨g, 0, none⟩) n c) n (flatHp d)) (hd : d.length = n) {k : Nat} (hk : k < n) : w.cell? ⟨g, k * 3, none⟩ = some (.int .i64 (gHp d k).id) ∧ w.cell? ⟨g, k * 3 + 1, none⟩ = some (.int .i64 (gHp d k).se) ∧ w.cell? ⟨g, k * 3 + 2, none⟩ = some (.int .i64 (gHp d k).ar) :=
  ⟨(h.cellAt (k * 3) (by omega)).trans (flatHp_at0 d k (by omega)), (h.cellAt (k * 3 + 1) (by omega)).trans (flatHp_at1 d k (by omega)), (h.cellAt (k * 3 + 2) (by omega)).trans (flatHp_at2 d k (by omega))⟩
theorem ownHp_store {w : World} {base : Nat} {t : TypeId} {g n c : Nat} {d : List Hp} (h : w.ownsRow base t 3 (.slice (some ⟨g, 0, none⟩) n c) n (flatHp d)) (i : Nat) (p : Hp) : (((w.setCell ⟨g, i * 3, none⟩ (.int .i64 p.id)).setCell ⟨g, i * 3 + 1, none⟩ (.int .i64 p.se)).setCell ⟨g, i * 3 + 2, none⟩ (.int .i64 p.ar)).ownsRow base t 3 (.slice (some ⟨g, 0, none⟩) n c) n (flatHp (d.set i p)) ∧ w.grownBy (((w.setCell ⟨g, i * 3, none⟩ (.int .i64 p.id)).setCell ⟨g, i * 3 + 1, none⟩ (.int .i64 p.se)).setCell ⟨g, i * 3 + 2, none⟩ (.int .i64 p.ar)) (some g) := by
  obtain ⟨r0, g0⟩ := h.stored (i * 3) (.int .i64 p.id)
  obtain ⟨r1, g1⟩ := r0.stored (i * 3 + 1) (.int .i64 p.se)
  obtain ⟨r2, g2⟩ := r1.stored (i * 3 + 2) (.int .i64 p.ar)
  rw [flatHp_set] at r2
  exact ⟨r2, grown_trans (grown_trans (g0) g1) g2⟩
theorem gHp_mem {d : List Hp} {i : Nat} (h : i < d.length) : gHp d i ∈ d := by
  unfold gHp; rw [List.getD_eq_getElem?_getD, List.getElem?_eq_getElem h]; simp
theorem gHp_eq {d : List Hp} {i : Nat} (h : i < d.length) : gHp d i = d[i] := by
  unfold gHp; rw [List.getD_eq_getElem?_getD, List.getElem?_eq_getElem h]; rfl
theorem take_nextHp {l : List Hp} {k : Nat} (h : k < l.length) : l.take (k + 1) = l.take k ++ [gHp l k] := by
  rw [List.take_succ_eq_append_getElem h, gHp_eq h]
theorem extHp {a b : List Hp} (hl : a.length = b.length) (h : ∀ i, i < a.length → gHp a i = gHp b i) : a = b := by
  refine List.ext_getElem hl fun i h1 h2 => ?_
  have := h i h1
  rw [gHp_eq h1, gHp_eq h2] at this
  exact this
theorem eqlHp (a b : Hp) (w : World) : (binOp .eql 48 (.agg #[.int .i64 a.id, .int .i64 a.se, .int .i64 a.ar]) (.agg #[.int .i64 b.id, .int .i64 b.se, .int .i64 b.ar])).run Try.prog w = .ok (.bool (decide (a = b))) w := by
  have u3 := Try.underlying3
  have a3 := Try.isAgg3
  have z3 := Try.sizeOf3
  have hS : Try.prog.underlying 48 = some (.struct (Try.prog.fieldsOf 48)) := by kernel_rfl
  have hp : Try.prog.stoodInHeld 48 = false := by kernel_rfl
  rw [run_eql_struct, show (10000 : Nat) = 9999 + 1 from rfl, run_equalIn_agg w 9999 48 _ _ hS hp]
  simp only [Program.fieldsOf, Try.underlying48]
  go_simp
  by_cases hab : a = b
  · subst hab; simp
  · simp only [hab, decide_false]
    have hx : ¬ (a.id = b.id ∧ a.se = b.se ∧ a.ar = b.ar) := fun h => hab (Hp.ext_ h.1 h.2.1 h.2.2)
    by_cases h0 : a.id = b.id <;> by_cases h1 : a.se = b.se <;> by_cases h2 : a.ar = b.ar
    all_goals simp_all
theorem neqHp (a b : Hp) (w : World) : (binOp .neq 48 (.agg #[.int .i64 a.id, .int .i64 a.se, .int .i64 a.ar]) (.agg #[.int .i64 b.id, .int .i64 b.se, .int .i64 b.ar])).run Try.prog w = .ok (.bool (!decide (a = b))) w := by
  have u3 := Try.underlying3
  have a3 := Try.isAgg3
  have z3 := Try.sizeOf3
  have hS : Try.prog.underlying 48 = some (.struct (Try.prog.fieldsOf 48)) := by kernel_rfl
  have hp : Try.prog.stoodInHeld 48 = false := by kernel_rfl
  rw [run_neq_struct, show (10000 : Nat) = 9999 + 1 from rfl, run_equalIn_agg w 9999 48 _ _ hS hp]
  simp only [Program.fieldsOf, Try.underlying48]
  go_simp
  by_cases hab : a = b
  · subst hab; simp
  · simp only [hab, decide_false]
    have hx : ¬ (a.id = b.id ∧ a.se = b.se ∧ a.ar = b.ar) := fun h => hab (Hp.ext_ h.1 h.2.1 h.2.2)
    by_cases h0 : a.id = b.id <;> by_cases h1 : a.se = b.se <;> by_cases h2 : a.ar = b.ar
    all_goals simp_all
theorem infoHp : (Try.prog.info? 48).map (fun i => (i.zero, i.size, i.bytes)) = some (some (.agg #[.int .i64 0, .int .i64 0, .int .i64 0]), 3, 24) := by kernel_rfl
end Go.Proofs.Ytmibgfenobekjaa

/- The generic library's functions at 48-rows: Clone, Equal, Grow, Concat, IndexFunc, ContainsFunc, DeleteFunc. -/
namespace Go.Proofs.Ytmibgfenobekjaa
open Go.ChangeShapes Go.WideShapes Go.ChangeAt Go.RowKit Go.Sort
set_option linter.unusedSimpArgs false
set_option linter.unusedVariables false
set_option maxHeartbeats 1000000 in
set_option maxRecDepth 100000 in
theorem equalHp (A A' : Option Addr) (n c n' c' : Nat) (d d' : List Hp) (w : World) (hd : d.length = n) (hd' : d'.length = n') (hn : n ≤ 1000000) (hn' : n' ≤ 1000000) (h : Sl w w.heap.size 3 A n c (flatHp d)) (h' : Sl w w.heap.size 3 A' n' c' (flatHp d')) :
    Calls Try.prog 32 #[.slice A n c, .slice A' n' c'] w fun e w' => e = .returned (.bool (decide (d = d'))) ∧ Below w.heap.size w w' := by
  by_cases hne : n = n'
  · subst hne
    have hz : ((n : Int) != (n : Int)) = false := by simp
    go_enter Try.func32, Try.ntmps32
    go_wp2
    go_loopw [13] (fun i wr => ∃ k : Nat, k ≤ n ∧ i = .int .i64 k ∧ Hid (∀ j, j < k → gHp d j = gHp d' j) ∧ Below w.heap.size w wr) (fun i _ => n - (intOf i).toNat)
    case atStart => exact ⟨0, by omega, rfl, (fun j hj => by omega), Below.refl _ _⟩
    case round =>
      obtain ⟨k, hk, rfl, HQ, hB⟩ := hrel
      by_cases hkn : k < n
      · obtain ⟨ad, rfl, hab, c0, c1, c2⟩ := (h.below hB).lst.atHp hd hkn
        obtain ⟨ad', rfl, hab', e0, e1, e2⟩ := (h'.below hB).lst.atHp hd' hkn
        generalize hx : gHp d k = x at *
        generalize hy : gHp d' k = y at *
        have HX := Lib.hid hx
        have HY := Lib.hid hy
        clear hx hy
        have hneq := neqHp x y
        go_wp2_with fail
        have q_c0 := fun d os => cell_regrown c0 d os
        have q_c1 := fun d os => cell_regrown c1 d os
        have q_c2 := fun d os => cell_regrown c2 d os
        have q_e0 := fun d os => cell_regrown e0 d os
        have q_e1 := fun d os => cell_regrown e1 d os
        have q_e2 := fun d os => cell_regrown e2 d os
        by_cases hxy : x = y
        · have HE := Lib.hid hxy
          have hrun : ∀ w0, (binOp .neq 48 (.agg #[.int .i64 x.id, .int .i64 x.se, .int .i64 x.ar]) (.agg #[.int .i64 y.id, .int .i64 y.se, .int .i64 y.ar])).run Try.prog w0 = .ok (.bool false) w0 := fun w0 => by rw [hneq]; simp [HE.out]
          clear hneq hxy
          try simp only [List.append]
          first | refine wp_region_text_below ?_ | refine wp_region_quiet_below (by kernel_rfl) (by kernel_rfl) ?_
          repeat (go_big_quiet_step ((fail)))
          refine wpQuiet_nil ?_
          intro _ hqw
          obtain ⟨pq, hqw⟩ := hqw
          subst hqw
          clear q_c0 q_c1 q_c2 q_e0 q_e1 q_e2
          have hbel := below_regrown wr pq.d pq.os
          have hB2 := hB.trans (hbel.mono hB.size)
          clear hbel c0 c1 c2 e0 e1 e2 hB hrun
          generalize grow (redrawn wr pq.d) pq.os = wq at *
          go_wp2
          go_roundw
          case rel => exact ⟨k + 1, by omega, by go_num, (fun j hj => by
            by_cases e : j = k
            · rw [e, HX.out, HY.out]; exact HE.out
            · exact HQ.out j (by omega)), hB2⟩
          case measure => simp [intOf]; omega
        · have hrun : ∀ w0, (binOp .neq 48 (.agg #[.int .i64 x.id, .int .i64 x.se, .int .i64 x.ar]) (.agg #[.int .i64 y.id, .int .i64 y.se, .int .i64 y.ar])).run Try.prog w0 = .ok (.bool true) w0 := fun w0 => by rw [hneq]; simp [hxy]
          have hfin : decide (d = d') = false := by
            rw [decide_eq_false_iff_not]
            intro e
            have e1 := HX.out
            rw [e, HY.out] at e1
            exact hxy e1.symm
          have HF := Lib.hid hfin
          clear hneq hxy hfin
          try simp only [List.append]
          first | refine wp_region_text_below ?_ | refine wp_region_quiet_below (by kernel_rfl) (by kernel_rfl) ?_
          repeat (go_big_quiet_step ((fail)))
          refine wpQuiet_nil ?_
          intro _ hqw
          obtain ⟨pq, hqw⟩ := hqw
          subst hqw
          clear q_c0 q_c1 q_c2 q_e0 q_e1 q_e2
          have hbel := below_regrown wr pq.d pq.os
          have hB2 := hB.trans (hbel.mono hB.size)
          clear hbel c0 c1 c2 e0 e1 e2 hB hrun
          generalize grow (redrawn wr pq.d) pq.os = wq at *
          go_wp2
          go_ret
          exact ⟨by rw [HF.out]; rfl, hB2⟩
      · obtain rfl : k = n := by omega
        have hfin : decide (d = d') = true := by
          rw [decide_eq_true_eq]
          exact extHp (by omega) (fun j hj => HQ.out j (by omega))
        have HF := Lib.hid hfin
        clear hfin
        go_wp2
        go_ret
        exact ⟨by rw [HF.out]; rfl, hB⟩
  · have hz : ((n : Int) != (n' : Int)) = true := by rw [bne_iff_ne]; omega
    go_enter Try.func32, Try.ntmps32
    go_wp2
    go_ret
    refine ⟨?_, Below.refl _ _⟩
    rw [decide_eq_false (show ¬ d = d' from fun e => by subst e; omega)]
    rfl
theorem noHitHp {d : List Hp} {p : Hp → Bool} (h : d.any p = false) {j : Nat} (hj : j < d.length) : p (gHp d j) = false := by
  have := List.any_eq_false.1 h _ (gHp_mem hj)
  simpa using this
theorem firstHitHp {d : List Hp} {p : Hp → Bool} (h : d.any p = true) : ∃ q, q < d.length ∧ (∀ j, j < q → p (gHp d j) = false) ∧ p (gHp d q) = true := by
  have hl : d.findIdx p < d.length := List.findIdx_lt_length.2 (by simpa using h)
  refine ⟨d.findIdx p, hl, fun j hj => ?_, ?_⟩
  · rw [gHp_eq (by omega)]
    have := List.not_of_lt_findIdx hj
    simpa using this
  · rw [gHp_eq hl]
    exact List.findIdx_getElem
/-- A function value that tells p, in whatever world that has grown from W but for this block. -/
structure PredHp (g : FuncId) (lb : Array Value) (row : Option Nat) (W : World) (p : Hp → Bool) : Prop where
  run : ∀ vals w, (callFunc g vals).run Try.prog w = .ok (.enter g vals) w
  tells : ∀ w', W.grownBy w' row → ∀ x : Hp, Calls Try.prog g (#[.agg #[.int .i64 x.id, .int .i64 x.se, .int .i64 x.ar]] ++ lb) w' fun e w'' => e = .returned (.bool (p x)) ∧ Below w'.heap.size w' w''
theorem PredHp.next {g : FuncId} {lb : Array Value} {row : Option Nat} {W W' : World} {p : Hp → Bool} (h : PredHp g lb row W p) (hg : W.grownBy W' row) : PredHp g lb row W' p := ⟨h.run, fun w' h' x => h.tells w' (grown_trans hg h') x⟩
theorem PredHp.below {g : FuncId} {lb : Array Value} {row : Option Nat} {W W' : World} {p : Hp → Bool} (h : PredHp g lb row W p) (hb : Below W.heap.size W W') : PredHp g lb row W' p := h.next (grown_of_below hb)
theorem filt_nextHp {d : List Hp} {p : Hp → Bool} {j : Nat} (hj : j < d.length) : (d.take (j + 1)).filter (fun x => !p x) = (d.take j).filter (fun x => !p x) ++ if p (gHp d j) = true then [] else [gHp d j] := by
  rw [take_nextHp hj, List.filter_append]
  congr 1
  cases h : p (gHp d j) <;> simp [List.filter_cons, h]
theorem filt_allHp {d : List Hp} {p : Hp → Bool} : ∀ q, q ≤ d.length → (∀ j, j < q → p (gHp d j) = false) → (d.take q).filter (fun x => !p x) = d.take q
  | 0, _, _ => by simp
  | q + 1, h, hl => by
    rw [filt_nextHp (by omega), filt_allHp q (by omega) (fun j hj => hl j (by omega)), if_neg (by rw [hl q (by omega)]; simp), ← take_nextHp (by omega)]
theorem filt_lenHp {d : List Hp} {p : Hp → Bool} (j : Nat) : ((d.take j).filter (fun x => !p x)).length ≤ j := by
  have h1 := List.length_filter_le (fun x => !p x) (d.take j)
  rw [List.length_take] at h1
  omega
theorem set_stepHp {e d : List Hp} {p : Hp → Bool} {i j n : Nat} (he : e.length = n) (hd : d.length = n) (hij : i < j) (hj : j < n) (h1 : e.take i = (d.take j).filter (fun x => !p x)) (h2 : e.drop j = d.drop j) (hp : p (gHp d j) = false) :
    (e.set i (gHp d j)).take (i + 1) = (d.take (j + 1)).filter (fun x => !p x) ∧ (e.set i (gHp d j)).drop (j + 1) = d.drop (j + 1) := by
  refine ⟨?_, ?_⟩
  · rw [filt_nextHp (by omega), if_neg (by rw [hp]; simp), ← h1]
    rw [List.take_succ_eq_append_getElem (by simp; omega), List.getElem_set_self, List.take_set_of_le (Nat.le_refl _)]
  · rw [List.drop_set_of_lt (by omega), ← List.drop_drop, ← List.drop_drop, h2]
theorem drop_atHp {e d : List Hp} {j : Nat} (he : e.length = d.length) (h : e.drop j = d.drop j) (hj : j < d.length) : gHp e j = gHp d j := by
  rw [gHp_eq (by omega), gHp_eq hj]
  have h1 : (e.drop j)[0]'(by simp; omega) = (d.drop j)[0]'(by simp; omega) := by simp [h]
  simpa using h1
/-- Lists, one behind the other. -/
def catHp (d : Nat → List Hp) : Nat → List Hp
  | 0 => []
  | k + 1 => catHp d k ++ d k
theorem catHp_le (d : Nat → List Hp) : ∀ {k m : Nat}, k ≤ m → (catHp d k).length ≤ (catHp d m).length
  | k, 0, h => by
    obtain rfl : k = 0 := by omega
    exact Nat.le_refl _
  | k, m + 1, h => by
    by_cases e : k = m + 1
    · subst e; exact Nat.le_refl _
    · have := catHp_le d (k := k) (m := m) (by omega)
      simp only [catHp, List.length_append]
      omega
/-- A function value that compares with t, as cf says, in whatever world that has grown from W. -/
structure CmpHp (g : FuncId) (lb : Array Value) (t : Hp) (W : World) (cf : Hp → Int) : Prop where
  run : ∀ vals w, (callFunc g vals).run Try.prog w = .ok (.enter g vals) w
  tells : ∀ w', Below W.heap.size W w' → ∀ x : Hp, Calls Try.prog g (#[.agg #[.int .i64 x.id, .int .i64 x.se, .int .i64 x.ar], .agg #[.int .i64 t.id, .int .i64 t.se, .int .i64 t.ar]] ++ lb) w' fun e w'' => e = .returned (.int .i64 (cf x)) ∧ Below w'.heap.size w' w''
end Go.Proofs.Ytmibgfenobekjaa

/- cmp.Compare and cmp.Or at int. No condition. -/
namespace Go.Proofs.Ytmibgfenobekjaa
open Go.ChangeShapes Go.WideShapes Go.ChangeAt Go.RowKit Go.Sort
set_option linter.unusedSimpArgs false
set_option linter.unusedVariables false
def cmpI (a b : Int) : Int := if a < b then -1 else if b < a then 1 else 0
theorem cmpI_lt {a b : Int} (h : a < b) : cmpI a b = -1 := if_pos h
theorem cmpI_gt {a b : Int} (h : b < a) : cmpI a b = 1 := by unfold cmpI; rw [if_neg (by omega), if_pos h]
theorem cmpI_eq (a : Int) : cmpI a a = 0 := by unfold cmpI; rw [if_neg (by omega), if_neg (by omega)]
theorem cmpI_zero {a b : Int} : cmpI a b = 0 ↔ a = b := by
  unfold cmpI; constructor
  · intro h; split at h
    · omega
    · split at h <;> omega
  · rintro rfl; rw [if_neg (by omega), if_neg (by omega)]
def orF : List Int → Int
  | [] => 0
  | x :: l => if x = 0 then orF l else x
theorem nan_any (a : Int) (w : World) : Calls Try.prog 60 #[.int .i64 a] w fun e w' => e = .returned (.bool false) ∧ w = w' := by
  have hz : (a != a) = false := by simp
  go_enter Try.func60, Try.ntmps60
  go_wp2
  go_ret
  exact ⟨rfl, rfl⟩
theorem cmp_any (a b : Int) (w : World) : Calls Try.prog 41 #[.int .i64 a, .int .i64 b] w fun e w' => e = .returned (.int .i64 (cmpI a b)) ∧ w = w' := by
  by_cases h1 : a < b
  · rw [cmpI_lt h1]
    go_enter Try.func41, Try.ntmps41
    go_wp2_with (go_at_call 60; refine (nan_any _ _).mono ?_; rintro e w' ⟨rfl, rfl⟩)
    go_ret
    exact ⟨rfl, rfl⟩
  · by_cases h2 : b < a
    · rw [cmpI_gt h2]
      go_enter Try.func41, Try.ntmps41
      go_wp2_with (go_at_call 60; refine (nan_any _ _).mono ?_; rintro e w' ⟨rfl, rfl⟩)
      go_ret
      exact ⟨rfl, rfl⟩
    · have h0 : cmpI a b = 0 := cmpI_zero.2 (by omega)
      rw [h0]
      go_enter Try.func41, Try.ntmps41
      go_wp2_with (go_at_call 60; refine (nan_any _ _).mono ?_; rintro e w' ⟨rfl, rfl⟩)
      go_ret
      exact ⟨rfl, rfl⟩
end Go.Proofs.Ytmibgfenobekjaa

/- Contracts of package order: Compare, Less; the order of routes. No condition but on sizes. -/
namespace Go.Proofs.Ytmibgfenobekjaa
open Go.ChangeShapes Go.WideShapes Go.ChangeAt Go.RowKit Go.Sort
set_option linter.unusedSimpArgs false
set_option linter.unusedVariables false
/-- New blocks alone, no draw. -/
def UpG (w w' : World) : Prop := ∃ os, w' = grow w os
theorem UpG.refl (w : World) : UpG w w := ⟨#[], (grow_empty w).symm⟩
theorem UpG.alloc {w w' : World} (h : UpG w w') (o : Obj) : UpG w (w'.alloc o) := by
  obtain ⟨os, rfl⟩ := h
  exact ⟨_, by rw [alloc_eq_grow, grow_grow]⟩
theorem UpG.trans {w w' w'' : World} (h : UpG w w') (k : UpG w' w'') : UpG w w'' := by
  obtain ⟨os, rfl⟩ := h
  obtain ⟨os', rfl⟩ := k
  exact ⟨_, by rw [grow_grow]⟩
theorem UpG.below {w w' : World} (h : UpG w w') : Below w.heap.size w w' := by
  obtain ⟨os, rfl⟩ := h
  exact below_regrown w w.drawn os
/-- Of hops, by their IDs; the shorter one ahead. -/
def cmpH : List Hp → List Hp → Int
  | [], [] => 0
  | [], _ :: _ => -1
  | _ :: _, [] => 1
  | a :: t, b :: u => if cmpI a.id b.id = 0 then cmpH t u else cmpI a.id b.id
theorem cmpH_at {d d' : List Hp} {k : Nat} (h1 : k < d.length) (h2 : k < d'.length) : cmpH (d.drop k) (d'.drop k) = if cmpI (gHp d k).id (gHp d' k).id = 0 then cmpH (d.drop (k + 1)) (d'.drop (k + 1)) else cmpI (gHp d k).id (gHp d' k).id := by
  rw [List.drop_eq_getElem_cons h1, List.drop_eq_getElem_cons h2, gHp_eq h1, gHp_eq h2, cmpH]
theorem cmpH_long {d d' : List Hp} {k : Nat} (h1 : k < d.length) (h2 : d'.length ≤ k) : cmpH (d.drop k) (d'.drop k) = 1 := by
  rw [List.drop_eq_getElem_cons h1, List.drop_of_length_le h2, cmpH]
theorem cmpH_short {d d' : List Hp} (h : d.length < d'.length) : cmpH (d.drop d.length) (d'.drop d.length) = -1 := by
  rw [List.drop_eq_getElem_cons h, List.drop_of_length_le (Nat.le_refl _), cmpH]
theorem cmpH_end {d d' : List Hp} {k : Nat} (h1 : d.length ≤ k) (h2 : d'.length ≤ k) : cmpH (d.drop k) (d'.drop k) = 0 := by
  rw [List.drop_of_length_le h1, List.drop_of_length_le h2, cmpH]
/-- Of routes: who is there earlier, has fewer hops, lesser IDs. -/
def cmpR (t : Int) (d : List Hp) (t' : Int) (d' : List Hp) : Int :=
  if cmpI t t' = 0 then if cmpI d.length d'.length = 0 then cmpH d d' else cmpI d.length d'.length else cmpI t t'
theorem cmp1_any (x y : Hp) (w : World) :
    Calls Try.prog 43 #[.agg #[.int .i64 x.id, .int .i64 x.se, .int .i64 x.ar], .agg #[.int .i64 y.id, .int .i64 y.se, .int .i64 y.ar]] w fun e w' => e = .returned (.int .i64 (cmpI x.id y.id)) ∧ UpG w w' := by
  go_enter Try.func43, Try.ntmps43
  go_wp2_with (go_at_call 41; refine (cmp_any _ _ _).mono ?_; rintro e w' ⟨rfl, rfl⟩)
  go_ret
  exact ⟨rfl, ((UpG.refl w).alloc _).alloc _⟩
set_option maxHeartbeats 2000000 in
set_option maxRecDepth 100000 in
theorem cmpHops_any (A A' : Option Addr) (n c n' c' : Nat) (d d' : List Hp) (w : World) (hd : d.length = n) (hd' : d'.length = n') (hn : n ≤ 1000000) (hn' : n' ≤ 1000000) (h : Sl w w.heap.size 3 A n c (flatHp d)) (h' : Sl w w.heap.size 3 A' n' c' (flatHp d')) :
    Calls Try.prog 42 #[.slice A n c, .slice A' n' c', .func (.func 43) #[] #[]] w fun e w' => e = .returned (.int .i64 (cmpH d d')) ∧ UpG w w' := by
  obtain ⟨z, hz⟩ : ∃ z, cmpH d d' = z := ⟨_, rfl⟩
  have HZ := Lib.hid hz
  rw [hz]
  clear hz
  go_enter Try.func42, Try.ntmps42
  go_wp2
  go_loopw [13] (fun i wr => ∃ k : Nat, k ≤ n ∧ i = .int .i64 k ∧ Hid (cmpH (d.drop k) (d'.drop k) = z) ∧ UpG w wr) (fun i _ => n - (intOf i).toNat)
  case atStart => exact ⟨0, by omega, rfl, (show cmpH (d.drop 0) (d'.drop 0) = z by simpa using HZ.out), UpG.refl _⟩
  case round =>
    clear HZ
    obtain ⟨k, hk, rfl, HQ, hU⟩ := hrel
    have hB := hU.below
    have hs := hB.size
    by_cases hkn : k < n
    · obtain ⟨ad, rfl, hab, c0, c1, c2⟩ := (h.below hB).lst.atHp hd hkn
      by_cases hk2 : k < n'
      · have HA := Lib.hid (cmpH_at (d := d) (d' := d') (k := k) (by omega) (by omega))
        generalize hx : gHp d k = x at *
        clear hx
        have hg2 : ¬ ((n' : Int) ≤ (k : Int)) := by omega
        have hUa : UpG w (wr.alloc (.cells #[.int .i64 x.id, .int .i64 x.se, .int .i64 x.ar] 48)) := hU.alloc _
        have hBa : Below w.heap.size w (wr.alloc (.cells #[.int .i64 x.id, .int .i64 x.se, .int .i64 x.ar] 48)) := hB.alloc hs _
        have hX := Blok.new wr 48 #[.int .i64 x.id, .int .i64 x.se, .int .i64 x.ar]
        have hlx := hX.lt
        go_upto_region 4 with fail
        clear c0 c1 c2
        generalize wr.alloc (.cells #[.int .i64 x.id, .int .i64 x.se, .int .i64 x.ar] 48) = wx at *
        generalize wr.heap.size = bx at *
        obtain ⟨ad', rfl, hab', e0, e1, e2⟩ := (h'.below hBa).lst.atHp hd' hk2
        generalize hy : gHp d' k = y at *
        clear hy
        have x0 : wx.cell? ⟨bx, 0, none⟩ = some (.int .i64 x.id) := hX.cell 0
        have x1 : wx.cell? ⟨bx, 1, none⟩ = some (.int .i64 x.se) := hX.cell 1
        have x2 : wx.cell? ⟨bx, 2, none⟩ = some (.int .i64 x.ar) := hX.cell 2
        have hsx := hBa.size
        go_wp2_with fail
        refine (cmp1_any x y _).mono ?_
        rintro e w4 ⟨rfl, hb4⟩
        have hU4 : UpG w w4 := (hUa.alloc _).trans hb4
        clear hb4 e0 e1 e2 x0 x1 x2
        by_cases hc : cmpI x.id y.id = 0
        · have hb : (cmpI x.id y.id != 0) = false := by rw [hc]; rfl
          have HQ2 : Hid (cmpH (d.drop (k + 1)) (d'.drop (k + 1)) = z) := by
            have := HA.out; rw [if_pos hc] at this; exact this.symm.trans HQ.out
          clear hc
          go_wp2
          go_roundw
          case rel => exact ⟨k + 1, by omega, by go_num, HQ2, hU4⟩
          case measure => simp [intOf]; omega
        · have hb : (cmpI x.id y.id != 0) = true := by simpa using hc
          have HQ2 : Hid (cmpI x.id y.id = z) := by
            have := HA.out; rw [if_neg hc] at this; exact this.symm.trans HQ.out
          clear hc
          go_wp2
          go_ret
          exact ⟨by rw [HQ2.out]; rfl, hU4⟩
      · have HQ2 : Hid ((1 : Int) = z) := by
          have := cmpH_long (d := d) (d' := d') (k := k) (by omega) (by omega)
          exact this.symm.trans HQ.out
        have hg2 : (n' : Int) ≤ (k : Int) := by omega
        go_wp2
        go_ret
        exact ⟨by rw [← HQ2.out]; rfl, by first | exact hU | exact hU.alloc _⟩
    · obtain rfl : k = n := by omega
      by_cases hk2 : k < n'
      · have HQ2 : Hid ((-1 : Int) = z) := by
          have := cmpH_short (d := d) (d' := d') (by omega)
          rw [hd] at this
          exact this.symm.trans HQ.out
        go_wp2
        go_ret
        exact ⟨by rw [← HQ2.out]; rfl, by first | exact hU | exact hU.alloc _⟩
      · have HQ2 : Hid ((0 : Int) = z) := by
          have := cmpH_end (d := d) (d' := d') (k := k) (by omega) (by omega)
          exact this.symm.trans HQ.out
        have hg2 : ¬ ((k : Int) < (n' : Int)) := by omega
        go_wp2
        go_ret
        exact ⟨by rw [← HQ2.out]; rfl, by first | exact hU | exact hU.alloc _⟩
end Go.Proofs.Ytmibgfenobekjaa

/- slices.Concat, Grow at ints. No condition but on sizes. -/
namespace Go.Proofs.Ytmibgfenobekjaa
open Go.ChangeShapes Go.WideShapes Go.ChangeAt Go.RowKit Go.Sort
set_option linter.unusedSimpArgs false
set_option linter.unusedVariables false
theorem infoIq : (Try.prog.info? 3).map (fun i => (i.zero, i.size, i.bytes)) = some (some (.int .i64 0), 1, 8) := by kernel_rfl
theorem ints_oneq (l : List Int) : ∀ u ∈ l.map (Value.int .i64), u.oneCell' = true := by
  intro u hu
  obtain ⟨x, _, rfl⟩ := List.mem_map.1 hu
  rfl
/-- Lists, one behind the other. -/
def catIq (d : Nat → List Int) : Nat → List Int
  | 0 => []
  | k + 1 => catIq d k ++ d k
theorem catIq_le (d : Nat → List Int) : ∀ {k m : Nat}, k ≤ m → (catIq d k).length ≤ (catIq d m).length
  | k, 0, h => by
    obtain rfl : k = 0 := by omega
    exact Nat.le_refl _
  | k, m + 1, h => by
    by_cases e : k = m + 1
    · subst e; exact Nat.le_refl _
    · have := catIq_le d (k := k) (m := m) (by omega)
      simp only [catIq, List.length_append]
      omega
end Go.Proofs.Ytmibgfenobekjaa
