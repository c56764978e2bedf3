/- Several texts of mine in one: TyHp, SlHp, Cmp, Step, Order, CatI. No condition. -/
import Derived.Test.YtmbaklodgpcegaaGreatChecked
import Derived.Test.YtmbaklodgpcegaaGreatGQ21
import Derived.Test.YtmbaklodgpcegaaGreatGQ2
import Derived.Test.YtmbaklodgpcegaaGreatQTail

/- api.Hop: its cells, lists of it. No condition. -/
namespace Go.Proofs.YtmbaklodgpcegaaGreat
open Go.ChangeShapes Go.WideShapes Go.ChangeAt Go.RowKit Go.Sort
set_option linter.unusedSimpArgs false
set_option linter.unusedVariables false
structure Hp where
  id : Int
  se : Int
  ar : Int
theorem Hp.ext_ {a b : Hp} (h0 : a.id = b.id) (h1 : a.se = b.se) (h2 : a.ar = b.ar) : a = b := by cases a; cases b; simp_all
instance : DecidableEq Hp := fun a b => if h : a.id = b.id ∧ a.se = b.se ∧ a.ar = b.ar then isTrue (Hp.ext_ h.1 h.2.1 h.2.2) else isFalse (by rintro rfl; simp at h)
def Hp.cs (r : Hp) : List Value := [.int .i64 r.id, .int .i64 r.se, .int .i64 r.ar]
def flatHp (d : List Hp) : List Value := d.flatMap Hp.cs
def gHp (d : List Hp) (i : Nat) : Hp := d.getD i ⟨0, 0, 0⟩
theorem flatHp_cons (p : Hp) (d : List Hp) : flatHp (p :: d) = .int .i64 p.id :: .int .i64 p.se :: .int .i64 p.ar :: flatHp d := rfl
theorem flatHp_length (d : List Hp) : (flatHp d).length = d.length * 3 := by
  induction d with
  | nil => rfl
  | cons p d ih => rw [flatHp_cons]; simp only [List.length_cons, ih]; omega
theorem flatHp_append (d e : List Hp) : flatHp (d ++ e) = flatHp d ++ flatHp e := by simp [flatHp]
theorem flatHp_at0 : ∀ (d : List Hp) (i : Nat), i < d.length → (flatHp d)[i * 3]? = some (.int .i64 (gHp d i).id)
  | p :: d, 0, _ => rfl
  | p :: d, i + 1, h => by
    rw [flatHp_cons, show (i + 1) * 3 = i * 3 + 1 + 1 + 1 from by omega]
    simp only [List.getElem?_cons_succ]
    exact flatHp_at0 d i (by simpa using h)
theorem flatHp_at1 : ∀ (d : List Hp) (i : Nat), i < d.length → (flatHp d)[i * 3 + 1]? = some (.int .i64 (gHp d i).se)
  | p :: d, 0, _ => rfl
  | p :: d, i + 1, h => by
    rw [flatHp_cons, show (i + 1) * 3 + 1 = i * 3 + 1 + 1 + 1 + 1 from by omega]
    simp only [List.getElem?_cons_succ]
    exact flatHp_at1 d i (by simpa using h)
theorem flatHp_at2 : ∀ (d : List Hp) (i : Nat), i < d.length → (flatHp d)[i * 3 + 2]? = some (.int .i64 (gHp d i).ar)
  | p :: d, 0, _ => rfl
  | p :: d, i + 1, h => by
    rw [flatHp_cons, show (i + 1) * 3 + 2 = i * 3 + 2 + 1 + 1 + 1 from by omega]
    simp only [List.getElem?_cons_succ]
    exact flatHp_at2 d i (by simpa using h)
theorem flatHp_set : ∀ (d : List Hp) (i : Nat) (p : Hp), ((((flatHp d).set (i * 3) (.int .i64 p.id)).set (i * 3 + 1) (.int .i64 p.se)).set (i * 3 + 2) (.int .i64 p.ar)) = flatHp (d.set i p)
  | [], i, p => by simp [flatHp]
  | q :: d, 0, p => rfl
  | q :: d, i + 1, p => by
    rw [flatHp_cons]
    rw [show (i + 1) * 3 = i * 3 + 1 + 1 + 1 from by omega]
    rw [show i * 3 + 1 + 1 + 1 + 1 = i * 3 + 1 + 1 + 1 + 1 from by omega]
    rw [show i * 3 + 1 + 1 + 1 + 2 = i * 3 + 2 + 1 + 1 + 1 from by omega]
    simp only [List.set_cons_succ]
    rw [flatHp_set d i p]
    rfl
theorem flatHp_take : ∀ (d : List Hp) (n : Nat), (flatHp d).take (n * 3) = flatHp (d.take n)
  | _, 0 => by simp [flatHp]
  | [], n + 1 => by simp [flatHp]
  | p :: d, n + 1 => by
    rw [flatHp_cons, show (n + 1) * 3 = n * 3 + 1 + 1 + 1 from by omega]
    simp only [List.take_succ_cons]
    rw [flatHp_take d n]
    rfl
theorem flatHp_drop : ∀ (d : List Hp) (n : Nat), (flatHp d).drop (n * 3) = flatHp (d.drop n)
  | _, 0 => by simp
  | [], n + 1 => by simp [flatHp]
  | p :: d, n + 1 => by
    rw [flatHp_cons, show (n + 1) * 3 = n * 3 + 1 + 1 + 1 from by omega]
    simp only [List.drop_succ_cons]
    rw [flatHp_drop d n]
theorem flatHp_one : ∀ (l : List Hp), ∀ u ∈ flatHp l, u.oneCell' = true
  | [], u, h => by simp [flatHp] at h
  | p :: l, u, h => by
    rw [flatHp_cons] at h
    simp only [List.mem_cons] at h
    rcases h with rfl | rfl | rfl | h
    all_goals first | rfl | exact flatHp_one l u h
theorem rowsHp_of : ∀ (n : Nat) (ns : List Int), ns.length = n * 3 → ∃ d : List Hp, d.length = n ∧ ns.map (Value.int .i64) = flatHp d
  | 0, [], _ => ⟨[], rfl, rfl⟩
  | 0, _ :: _, h => by simp at h
  | n + 1, a0 :: a1 :: a2 :: ns, h => by
    obtain ⟨d, h1, h2⟩ := rowsHp_of n ns (by simp at h; omega)
    exact ⟨⟨a0, a1, a2⟩ :: d, by simp [h1], by simp [flatHp_cons, h2]⟩
  | n + 1, [], h => by simp at h <;> omega
  | n + 1, [_], h => by simp at h <;> omega
  | n + 1, [_, _], h => by simp at h <;> omega

theorem Lst.atHp {w : World} {B : Nat} {A : Option Addr} {n : Nat} {l : List Hp} (h : Lst w B 3 A n (flatHp l)) (hl : l.length = n) {k : Nat} (hk : k < n) : ∃ ad, A = some ad ∧ ad.block < B ∧ w.cell? (ad.add (k * 3)) = some (.int .i64 (gHp l k).id) ∧ w.cell? ⟨(ad.add (k * 3)).block, (ad.add (k * 3)).off + 1, none⟩ = some (.int .i64 (gHp l k).se) ∧ w.cell? ⟨(ad.add (k * 3)).block, (ad.add (k * 3)).off + 2, none⟩ = some (.int .i64 (gHp l k).ar) := by
  obtain ⟨ad, e, hb, hc⟩ := h.at_ (by omega)
  exact ⟨ad, e, hb, hc _ _ (flatHp_at0 l k (by omega)), by rw [addr_next _ _ _ (by omega)]; exact hc _ _ (flatHp_at1 l k (by omega)), by rw [addr_next _ _ _ (by omega)]; exact hc _ _ (flatHp_at2 l k (by omega))⟩
theorem ownHp_at {w : World} {base : Nat} {t : TypeId} {g n c : Nat} {d : List Hp} (h : w.ownsRow base t 3 (.slice (some ⟨g, 0, none⟩) n c) n (flatHp d)) (hd : d.length = n) {k : Nat} (hk : k < n) : w.cell? ⟨g, k * 3, none⟩ = some (.int .i64 (gHp d k).id) ∧ w.cell? ⟨g, k * 3 + 1, none⟩ = some (.int .i64 (gHp d k).se) ∧ w.cell? ⟨g, k * 3 + 2, none⟩ = some (.int .i64 (gHp d k).ar) :=
  ⟨(h.cellAt (k * 3) (by omega)).trans (flatHp_at0 d k (by omega)), (h.cellAt (k * 3 + 1) (by omega)).trans (flatHp_at1 d k (by omega)), (h.cellAt (k * 3 + 2) (by omega)).trans (flatHp_at2 d k (by omega))⟩
theorem ownHp_store {w : World} {base : Nat} {t : TypeId} {g n c : Nat} {d : List Hp} (h : w.ownsRow base t 3 (.slice (some ⟨g, 0, none⟩) n c) n (flatHp d)) (i : Nat) (p : Hp) : (((w.setCell ⟨g, i * 3, none⟩ (.int .i64 p.id)).setCell ⟨g, i * 3 + 1, none⟩ (.int .i64 p.se)).setCell ⟨g, i * 3 + 2, none⟩ (.int .i64 p.ar)).ownsRow base t 3 (.slice (some ⟨g, 0, none⟩) n c) n (flatHp (d.set i p)) ∧ w.grownBy (((w.setCell ⟨g, i * 3, none⟩ (.int .i64 p.id)).setCell ⟨g, i * 3 + 1, none⟩ (.int .i64 p.se)).setCell ⟨g, i * 3 + 2, none⟩ (.int .i64 p.ar)) (some g) := by
  obtain ⟨r0, g0⟩ := h.stored (i * 3) (.int .i64 p.id)
  obtain ⟨r1, g1⟩ := r0.stored (i * 3 + 1) (.int .i64 p.se)
  obtain ⟨r2, g2⟩ := r1.stored (i * 3 + 2) (.int .i64 p.ar)
  rw [flatHp_set] at r2
  exact ⟨r2, grown_trans (grown_trans (g0) g1) g2⟩
theorem gHp_mem {d : List Hp} {i : Nat} (h : i < d.length) : gHp d i ∈ d := by
  unfold gHp; rw [List.getD_eq_getElem?_getD, List.getElem?_eq_getElem h]; simp
theorem gHp_eq {d : List Hp} {i : Nat} (h : i < d.length) : gHp d i = d[i] := by
  unfold gHp; rw [List.getD_eq_getElem?_getD, List.getElem?_eq_getElem h]; rfl
theorem take_nextHp {l : List Hp} {k : Nat} (h : k < l.length) : l.take (k + 1) = l.take k ++ [gHp l k] := by
  rw [List.take_succ_eq_append_getElem h, gHp_eq h]
theorem extHp {a b : List Hp} (hl : a.length = b.length) (h : ∀ i, i < a.length → gHp a i = gHp b i) : a = b := by
  refine List.ext_getElem hl fun i h1 h2 => ?_
  have := h i h1
  rw [gHp_eq h1, gHp_eq h2] at this
  exact this
theorem eqlHp (a b : Hp) (w : World) : (binOp .eql 42 (.agg #[.int .i64 a.id, .int .i64 a.se, .int .i64 a.ar]) (.agg #[.int .i64 b.id, .int .i64 b.se, .int .i64 b.ar])).run Tryz.prog w = .ok (.bool (decide (a = b))) w := by
  have u3 := Tryz.underlying3
  have a3 := Tryz.isAgg3
  have z3 := Tryz.sizeOf3
  have hS : Tryz.prog.underlying 42 = some (.struct (Tryz.prog.fieldsOf 42)) := by kernel_rfl
  have hp : Tryz.prog.stoodInHeld 42 = false := by kernel_rfl
  rw [run_eql_struct, show (10000 : Nat) = 9999 + 1 from rfl, run_equalIn_agg w 9999 42 _ _ hS hp]
  simp only [Program.fieldsOf, Tryz.underlying42]
  go_simp
  by_cases hab : a = b
  · subst hab; simp
  · simp only [hab, decide_false]
    have hx : ¬ (a.id = b.id ∧ a.se = b.se ∧ a.ar = b.ar) := fun h => hab (Hp.ext_ h.1 h.2.1 h.2.2)
    by_cases h0 : a.id = b.id <;> by_cases h1 : a.se = b.se <;> by_cases h2 : a.ar = b.ar
    all_goals simp_all
theorem neqHp (a b : Hp) (w : World) : (binOp .neq 42 (.agg #[.int .i64 a.id, .int .i64 a.se, .int .i64 a.ar]) (.agg #[.int .i64 b.id, .int .i64 b.se, .int .i64 b.ar])).run Tryz.prog w = .ok (.bool (!decide (a = b))) w := by
  have u3 := Tryz.underlying3
  have a3 := Tryz.isAgg3
  have z3 := Tryz.sizeOf3
  have hS : Tryz.prog.underlying 42 = some (.struct (Tryz.prog.fieldsOf 42)) := by kernel_rfl
  have hp : Tryz.prog.stoodInHeld 42 = false := by kernel_rfl
  rw [run_neq_struct, show (10000 : Nat) = 9999 + 1 from rfl, run_equalIn_agg w 9999 42 _ _ hS hp]
  simp only [Program.fieldsOf, Tryz.underlying42]
  go_simp
  by_cases hab : a = b
  · subst hab; simp
  · simp only [hab, decide_false]
    have hx : ¬ (a.id = b.id ∧ a.se = b.se ∧ a.ar = b.ar) := fun h => hab (Hp.ext_ h.1 h.2.1 h.2.2)
    by_cases h0 : a.id = b.id <;> by_cases h1 : a.se = b.se <;> by_cases h2 : a.ar = b.ar
    all_goals simp_all
theorem infoHp : (Tryz.prog.info? 42).map (fun i => (i.zero, i.size, i.bytes)) = some (some (.agg #[.int .i64 0, .int .i64 0, .int .i64 0]), 3, 24) := by kernel_rfl
end Go.Proofs.YtmbaklodgpcegaaGreat

/- The generic library's functions at 42-rows: Clone, Equal, Grow, Concat, IndexFunc, ContainsFunc, DeleteFunc. -/
namespace Go.Proofs.YtmbaklodgpcegaaGreat
open Go.ChangeShapes Go.WideShapes Go.ChangeAt Go.RowKit Go.Sort
set_option linter.unusedSimpArgs false
set_option linter.unusedVariables false
set_option maxRecDepth 100000 in
theorem growHp (n : Nat) (w : World) (hn : n ≤ 1000000) :
    Calls Tryz.prog 37 #[.slice none 0 0, .int .i64 n] w fun e w' => ∃ v, e = .returned v ∧ w'.ownsRow w.heap.size 42 3 v 0 [] ∧ Below w.heap.size w w' := by
  obtain ⟨i0, hi0, hz0, hz1, hz2⟩ := info_parts infoHp
  by_cases h0 : n = 0
  · subst h0
    go_enter Tryz.func37, Tryz.ntmps37
    go_wp2
    go_ret
    exact ⟨_, rfl, World.ownsRow_nil _ _ _ _, Below.refl _ _⟩
  · have hp : 0 < n := by omega
    have hpi : (0 : Int) < (n : Int) := by omega
    go_enter Tryz.func37, Tryz.ntmps37
    go_wp2_with (first
      | (at_builtin
         refine wpList_append_made rfl (.tmp 20) (.tmp 21) 25 3 rfl 42 i0 _ 3 Tryz.underlying25 Tryz.underlying3 hi0 hz0 hz1 rfl n rfl rfl hp (by decide) (by omega) (by rw [hz2]; omega) ?_
         intro c1 w1 hown hB hc1))
    go_ret
    exact ⟨_, rfl, hown, hB⟩
theorem noHitHp {d : List Hp} {p : Hp → Bool} (h : d.any p = false) {j : Nat} (hj : j < d.length) : p (gHp d j) = false := by
  have := List.any_eq_false.1 h _ (gHp_mem hj)
  simpa using this
theorem firstHitHp {d : List Hp} {p : Hp → Bool} (h : d.any p = true) : ∃ q, q < d.length ∧ (∀ j, j < q → p (gHp d j) = false) ∧ p (gHp d q) = true := by
  have hl : d.findIdx p < d.length := List.findIdx_lt_length.2 (by simpa using h)
  refine ⟨d.findIdx p, hl, fun j hj => ?_, ?_⟩
  · rw [gHp_eq (by omega)]
    have := List.not_of_lt_findIdx hj
    simpa using this
  · rw [gHp_eq hl]
    exact List.findIdx_getElem
/-- A function value that tells p, in whatever world that has grown from W but for this block. -/
structure PredHp (g : FuncId) (lb : Array Value) (row : Option Nat) (W : World) (p : Hp → Bool) : Prop where
  run : ∀ vals w, (callFunc g vals).run Tryz.prog w = .ok (.enter g vals) w
  tells : ∀ w', W.grownBy w' row → ∀ x : Hp, Calls Tryz.prog g (#[.agg #[.int .i64 x.id, .int .i64 x.se, .int .i64 x.ar]] ++ lb) w' fun e w'' => e = .returned (.bool (p x)) ∧ Below w'.heap.size w' w''
theorem PredHp.next {g : FuncId} {lb : Array Value} {row : Option Nat} {W W' : World} {p : Hp → Bool} (h : PredHp g lb row W p) (hg : W.grownBy W' row) : PredHp g lb row W' p := ⟨h.run, fun w' h' x => h.tells w' (grown_trans hg h') x⟩
theorem PredHp.below {g : FuncId} {lb : Array Value} {row : Option Nat} {W W' : World} {p : Hp → Bool} (h : PredHp g lb row W p) (hb : Below W.heap.size W W') : PredHp g lb row W' p := h.next (grown_of_below hb)
theorem filt_nextHp {d : List Hp} {p : Hp → Bool} {j : Nat} (hj : j < d.length) : (d.take (j + 1)).filter (fun x => !p x) = (d.take j).filter (fun x => !p x) ++ if p (gHp d j) = true then [] else [gHp d j] := by
  rw [take_nextHp hj, List.filter_append]
  congr 1
  cases h : p (gHp d j) <;> simp [List.filter_cons, h]
theorem filt_allHp {d : List Hp} {p : Hp → Bool} : ∀ q, q ≤ d.length → (∀ j, j < q → p (gHp d j) = false) → (d.take q).filter (fun x => !p x) = d.take q
  | 0, _, _ => by simp
  | q + 1, h, hl => by
    rw [filt_nextHp (by omega), filt_allHp q (by omega) (fun j hj => hl j (by omega)), if_neg (by rw [hl q (by omega)]; simp), ← take_nextHp (by omega)]
theorem filt_lenHp {d : List Hp} {p : Hp → Bool} (j : Nat) : ((d.take j).filter (fun x => !p x)).length ≤ j := by
  have h1 := List.length_filter_le (fun x => !p x) (d.take j)
  rw [List.length_take] at h1
  omega
theorem set_stepHp {e d : List Hp} {p : Hp → Bool} {i j n : Nat} (he : e.length = n) (hd : d.length = n) (hij : i < j) (hj : j < n) (h1 : e.take i = (d.take j).filter (fun x => !p x)) (h2 : e.drop j = d.drop j) (hp : p (gHp d j) = false) :
    (e.set i (gHp d j)).take (i + 1) = (d.take (j + 1)).filter (fun x => !p x) ∧ (e.set i (gHp d j)).drop (j + 1) = d.drop (j + 1) := by
  refine ⟨?_, ?_⟩
  · rw [filt_nextHp (by omega), if_neg (by rw [hp]; simp), ← h1]
    rw [List.take_succ_eq_append_getElem (by simp; omega), List.getElem_set_self, List.take_set_of_le (Nat.le_refl _)]
  · rw [List.drop_set_of_lt (by omega), ← List.drop_drop, ← List.drop_drop, h2]
theorem drop_atHp {e d : List Hp} {j : Nat} (he : e.length = d.length) (h : e.drop j = d.drop j) (hj : j < d.length) : gHp e j = gHp d j := by
  rw [gHp_eq (by omega), gHp_eq hj]
  have h1 : (e.drop j)[0]'(by simp; omega) = (d.drop j)[0]'(by simp; omega) := by simp [h]
  simpa using h1
/-- Lists, one behind the other. -/
def catHp (d : Nat → List Hp) : Nat → List Hp
  | 0 => []
  | k + 1 => catHp d k ++ d k
theorem catHp_le (d : Nat → List Hp) : ∀ {k m : Nat}, k ≤ m → (catHp d k).length ≤ (catHp d m).length
  | k, 0, h => by
    obtain rfl : k = 0 := by omega
    exact Nat.le_refl _
  | k, m + 1, h => by
    by_cases e : k = m + 1
    · subst e; exact Nat.le_refl _
    · have := catHp_le d (k := k) (m := m) (by omega)
      simp only [catHp, List.length_append]
      omega
set_option maxHeartbeats 1000000 in
set_option maxRecDepth 100000 in
theorem concatHp (gO m cO : Nat) (A : Nat → Option Addr) (n c : Nat → Nat) (d : Nat → List Hp) (w : World) (hm : m ≤ 1000) (hd : ∀ k, k < m → (d k).length = n k) (hn : (catHp d m).length ≤ 1000000) (hO : ∀ k, k < m → w.cell? ⟨gO, k, none⟩ = some (.slice (A k) (n k) (c k))) (h : ∀ k, k < m → Sl w w.heap.size 3 (A k) (n k) (c k) (flatHp (d k))) :
    Calls Tryz.prog 15 #[.slice (some ⟨gO, 0, none⟩) m cO] w fun e w' => ∃ v, e = .returned v ∧ w'.ownsRow w.heap.size 42 3 v (catHp d m).length (flatHp (catHp d m)) ∧ Below w.heap.size w w' := by
  obtain ⟨i0, hi0, hz0, hz1, hz2⟩ := info_parts infoHp
  have HO := Lib.hid hO
  have HD := Lib.hid hd
  clear hO hd
  go_enter Tryz.func15, Tryz.ntmps15
  go_wp2
  go_loop [3, 11] (fun s i => ∃ k : Nat, k ≤ m ∧ i = .int .i64 k ∧ s = .int .i64 (catHp d k).length) (fun _ i => m - (intOf i).toNat)
  case atStart => exact ⟨0, by omega, rfl, rfl⟩
  case round =>
    obtain ⟨k, hk, rfl, rfl⟩ := hrel
    have hle := catHp_le d hk
    by_cases hkm : k < m
    · have hle2 := catHp_le d (k := k + 1) (m := m) (by omega)
      have hO := HO.out k hkm
      have hlk : (catHp d (k + 1)).length = (catHp d k).length + n k := by simp only [catHp, List.length_append, HD.out k hkm]
      have HLK := Lib.hid hlk
      have hnk : n k ≤ 1000000 := by omega
      generalize hL : (catHp d k).length = L at *
      have HL := Lib.hid hL
      clear hlk hL
      go_wp2
      go_round
      case rel => exact ⟨k + 1, by omega, by go_num, by rw [HLK.out]; go_num⟩
      case measure => simp [intOf]; omega
    · obtain rfl : k = m := by omega
      generalize hL : (catHp d k).length = L at *
      have HL := Lib.hid hL
      clear hL
      go_wp2_with fail
      refine (growHp L w (by omega)).mono ?_
      rintro e w1 ⟨v, rfl, hown, hB⟩
      obtain ⟨A1, c1, rfl⟩ := slice_of_own hown
      go_wp2
      go_loopw [6, 27] (fun vv i wr => ∃ (q : Nat), q ≤ k ∧ i = .int .i64 q ∧ Below w.heap.size w wr ∧ wr.ownsRow w.heap.size 42 3 vv (catHp d q).length (flatHp (catHp d q))) (fun _ i _ => k - (intOf i).toNat)
      case atStart => exact ⟨0, by omega, rfl, hB, hown⟩
      case round =>
        clear hown hB
        rename Value => v0
        obtain ⟨q, hq, rfl, hB, hown⟩ := hrel
        have hle := catHp_le d hq
        by_cases hqk : q < k
        · have hO : _ := HO.out q hqk
          have hOw : ∀ wx, Below w.heap.size w wx → wx.cell? ⟨gO, q, none⟩ = some (.slice (A q) (n q) (c q)) := fun wx hb => by
            rw [hb.cell (World.block_lt_of_cell? w _ hO)]; exact hO
          have hOr := hOw _ hB
          have hle2 := catHp_le d (k := q + 1) (m := k) (by omega)
          have hlk : (catHp d (q + 1)).length = (catHp d q).length + n q := by simp only [catHp, List.length_append, HD.out q hqk]
          have hnq : (catHp d q).length + n q ≤ 1000000 := by have := HL.out; omega
          have HLK := Lib.hid hlk
          have hs := (h q hqk).below hB
          clear hlk hO hOw
          obtain ⟨A2, c2, rfl⟩ := slice_of_own hown
          have hob : ∀ g, (Value.slice A2 (catHp d q).length c2).ownBlock = some g → w.heap.size ≤ g := fun g hg => (hown.lt g hg).1
          have hsB := hB.size
          generalize hLq : (catHp d q).length = Lq at *
          generalize hNq : n q = Nq at *
          generalize hAq : A q = Aq at *
          generalize hcq : c q = cq at *
          have HAll := Lib.hid (And.intro hLq (And.intro hNq (And.intro hAq hcq)))
          clear hLq hNq hAq hcq
          go_wp2_with (first
            | (at_builtin
               refine wpList_append_lst _ rfl (.tmp 31) (.tmp 32) 25 rfl w.heap.size 42 i0 _ 3 24 Tryz.underlying25 hi0 hz0 hz1 hz2 rfl (by decide) (.slice A2 Lq c2) Lq (flatHp (catHp d q)) rfl hown w.heap.size Aq Nq cq (flatHp (d q)) rfl hs.lst (flatHp_one _) (by unfold maxLen; omega) (by omega) hsB ?_
               intro v4 w4 hown4 hg4 hat4))
          have hB4 : Below w.heap.size w w4 := Below.grown hB hg4 hsB hob
          have hown5 : w4.ownsRow w.heap.size 42 3 v4 (catHp d (q + 1)).length (flatHp (catHp d (q + 1))) := by
            rw [HLK.out]
            simp only [catHp, flatHp_append]
            exact hown4
          clear hown hown4 hg4 hat4 hOr hs hob hB
          go_wp2
          go_roundw
          case rel => exact ⟨q + 1, by omega, by go_num, hB4, hown5⟩
          case measure => simp [intOf]; omega
        · obtain rfl : q = k := by omega
          obtain ⟨A2, c2, rfl⟩ := slice_of_own hown
          go_wp2
          go_ret
          exact ⟨_, rfl, hown, hB⟩
/-- A function value that compares with t, as cf says, in whatever world that has grown from W. -/
structure CmpHp (g : FuncId) (lb : Array Value) (t : Hp) (W : World) (cf : Hp → Int) : Prop where
  run : ∀ vals w, (callFunc g vals).run Tryz.prog w = .ok (.enter g vals) w
  tells : ∀ w', Below W.heap.size W w' → ∀ x : Hp, Calls Tryz.prog g (#[.agg #[.int .i64 x.id, .int .i64 x.se, .int .i64 x.ar], .agg #[.int .i64 t.id, .int .i64 t.se, .int .i64 t.ar]] ++ lb) w' fun e w'' => e = .returned (.int .i64 (cf x)) ∧ Below w'.heap.size w' w''
end Go.Proofs.YtmbaklodgpcegaaGreat

/- cmp.Compare and cmp.Or at int. No condition. -/
namespace Go.Proofs.YtmbaklodgpcegaaGreat
open Go.ChangeShapes Go.WideShapes Go.ChangeAt Go.RowKit Go.Sort
set_option linter.unusedSimpArgs false
set_option linter.unusedVariables false
def cmpI (a b : Int) : Int := if a < b then -1 else if b < a then 1 else 0
theorem cmpI_lt {a b : Int} (h : a < b) : cmpI a b = -1 := if_pos h
theorem cmpI_gt {a b : Int} (h : b < a) : cmpI a b = 1 := by unfold cmpI; rw [if_neg (by omega), if_pos h]
theorem cmpI_eq (a : Int) : cmpI a a = 0 := by unfold cmpI; rw [if_neg (by omega), if_neg (by omega)]
theorem cmpI_zero {a b : Int} : cmpI a b = 0 ↔ a = b := by
  unfold cmpI; constructor
  · intro h; split at h
    · omega
    · split at h <;> omega
  · rintro rfl; rw [if_neg (by omega), if_neg (by omega)]
def orF : List Int → Int
  | [] => 0
  | x :: l => if x = 0 then orF l else x
theorem nan_any (a : Int) (w : World) : Calls Tryz.prog 107 #[.int .i64 a] w fun e w' => e = .returned (.bool false) ∧ w = w' := by
  have hz : (a != a) = false := by simp
  go_enter Tryz.func107, Tryz.ntmps107
  go_wp2
  go_ret
  exact ⟨rfl, rfl⟩
end Go.Proofs.YtmbaklodgpcegaaGreat

/- A call of a Go function, as one step of a region that draws its order. No condition. -/
namespace Go.Proofs.YtmbaklodgpcegaaGreat
open Go.ChangeShapes Go.WideShapes Go.ChangeAt Go.RowKit Go.Sort
set_option linter.unusedSimpArgs false
set_option linter.unusedVariables false
theorem step_call {P : Program} {ops : Array Oper} {o : Oper} {a : Act} {w : World} {K : Act → World → Prop} {Q : Exit → Act → World → Prop} {E : Prop} (hgd : o.guard = none) (f : FuncId) (xs : Array Operand) (ats : Array TypeId)
    (ho : o.op = .call { callee := .value (.func f), args := xs, argTypes := ats }) (vals : Array Value) (hv : #[] ++ xs.map a.eval ++ #[] = vals) {fn : Func} (hf : P.funcs[f]? = some fn) (hb : fn.body.isNone = false) (hnm : (fn.name == "runtime.NumGoroutine") = false)
    (h : Calls P f vals w fun e w' => ∃ v, e = .returned v ∧ K (a.put o.dst v) w') :
    if Region.wanted o (yielded ops a.tmps) = true then Oper.wp P o a w K Q else E := by
  rw [if_pos (by simp [Region.wanted, hgd])]
  obtain ⟨dst, op, ty, pos, after, guard⟩ := o
  simp only at ho
  subst ho
  unfold Oper.wp
  rw [execOp_call_go, hv]
  have e : (callFunc f vals).run P w = .ok (.enter f vals) w := by
    have h1 : fn.name ≠ "runtime.NumGoroutine" := by simpa using hnm
    have h2 : fn.body ≠ none := by intro e; rw [e] at hb; cases hb
    simp [callFunc, run_program, hf]
    rw [if_neg h1, if_neg h2]
  rw [e]
  refine h.mono ?_
  rintro e w' ⟨v, rfl, hK⟩
  exact hK
end Go.Proofs.YtmbaklodgpcegaaGreat

/- Contracts of package order: Compare, Less; the order of routes. No condition but on sizes. -/
namespace Go.Proofs.YtmbaklodgpcegaaGreat
open Go.ChangeShapes Go.WideShapes Go.ChangeAt Go.RowKit Go.Sort
set_option linter.unusedSimpArgs false
set_option linter.unusedVariables false
/-- New blocks alone, no draw. -/
def UpG (w w' : World) : Prop := ∃ os, w' = grow w os
theorem UpG.refl (w : World) : UpG w w := ⟨#[], (grow_empty w).symm⟩
theorem UpG.alloc {w w' : World} (h : UpG w w') (o : Obj) : UpG w (w'.alloc o) := by
  obtain ⟨os, rfl⟩ := h
  exact ⟨_, by rw [alloc_eq_grow, grow_grow]⟩
theorem UpG.trans {w w' w'' : World} (h : UpG w w') (k : UpG w' w'') : UpG w w'' := by
  obtain ⟨os, rfl⟩ := h
  obtain ⟨os', rfl⟩ := k
  exact ⟨_, by rw [grow_grow]⟩
theorem UpG.below {w w' : World} (h : UpG w w') : Below w.heap.size w w' := by
  obtain ⟨os, rfl⟩ := h
  exact below_regrown w w.drawn os
/-- Of hops, by their IDs; the shorter one ahead. -/
def cmpH : List Hp → List Hp → Int
  | [], [] => 0
  | [], _ :: _ => -1
  | _ :: _, [] => 1
  | a :: t, b :: u => if cmpI a.id b.id = 0 then cmpH t u else cmpI a.id b.id
theorem cmpH_at {d d' : List Hp} {k : Nat} (h1 : k < d.length) (h2 : k < d'.length) : cmpH (d.drop k) (d'.drop k) = if cmpI (gHp d k).id (gHp d' k).id = 0 then cmpH (d.drop (k + 1)) (d'.drop (k + 1)) else cmpI (gHp d k).id (gHp d' k).id := by
  rw [List.drop_eq_getElem_cons h1, List.drop_eq_getElem_cons h2, gHp_eq h1, gHp_eq h2, cmpH]
theorem cmpH_long {d d' : List Hp} {k : Nat} (h1 : k < d.length) (h2 : d'.length ≤ k) : cmpH (d.drop k) (d'.drop k) = 1 := by
  rw [List.drop_eq_getElem_cons h1, List.drop_of_length_le h2, cmpH]
theorem cmpH_short {d d' : List Hp} (h : d.length < d'.length) : cmpH (d.drop d.length) (d'.drop d.length) = -1 := by
  rw [List.drop_eq_getElem_cons h, List.drop_of_length_le (Nat.le_refl _), cmpH]
theorem cmpH_end {d d' : List Hp} {k : Nat} (h1 : d.length ≤ k) (h2 : d'.length ≤ k) : cmpH (d.drop k) (d'.drop k) = 0 := by
  rw [List.drop_of_length_le h1, List.drop_of_length_le h2, cmpH]
/-- Of routes: who is there earlier, has fewer hops, lesser IDs. -/
def cmpR (t : Int) (d : List Hp) (t' : Int) (d' : List Hp) : Int :=
  if cmpI t t' = 0 then if cmpI d.length d'.length = 0 then cmpH d d' else cmpI d.length d'.length else cmpI t t'
end Go.Proofs.YtmbaklodgpcegaaGreat

/- slices.Concat, Grow at ints. No condition but on sizes. -/
namespace Go.Proofs.YtmbaklodgpcegaaGreat
open Go.ChangeShapes Go.WideShapes Go.ChangeAt Go.RowKit Go.Sort
set_option linter.unusedSimpArgs false
set_option linter.unusedVariables false
theorem infoIq : (Tryz.prog.info? 3).map (fun i => (i.zero, i.size, i.bytes)) = some (some (.int .i64 0), 1, 8) := by kernel_rfl
theorem ints_oneq (l : List Int) : ∀ u ∈ l.map (Value.int .i64), u.oneCell' = true := by
  intro u hu
  obtain ⟨x, _, rfl⟩ := List.mem_map.1 hu
  rfl
/-- Lists, one behind the other. -/
def catIq (d : Nat → List Int) : Nat → List Int
  | 0 => []
  | k + 1 => catIq d k ++ d k
theorem catIq_le (d : Nat → List Int) : ∀ {k m : Nat}, k ≤ m → (catIq d k).length ≤ (catIq d m).length
  | k, 0, h => by
    obtain rfl : k = 0 := by omega
    exact Nat.le_refl _
  | k, m + 1, h => by
    by_cases e : k = m + 1
    · subst e; exact Nat.le_refl _
    · have := catIq_le d (k := k) (m := m) (by omega)
      simp only [catIq, List.length_append]
      omega
end Go.Proofs.YtmbaklodgpcegaaGreat
