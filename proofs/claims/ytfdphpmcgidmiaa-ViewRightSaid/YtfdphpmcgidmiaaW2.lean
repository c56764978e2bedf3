/- Contracts and plain facts, several texts of mine in one: SlCo, Arr3, TyBk, SlBk, Cmp, MapIB, Step, OpenS, OpenR, OpenP, MapV, Ints, StCo, Contacts, Contacts2, Contacts3, Contacts4, Contacts5, Contacts6, Small06, ContactsMath, ContactsAct, StBk, BiBk. No condition. -/
import Derived.Test.YtfdphpmcgidmiaaW1
import Derived.Test.YtfdphpmcgidmiaaChecked
import Derived.ChangeKeysEq
import Derived.Maps.OwnOps
import Derived.Maps.Views
import Derived.ChangeSame
import Derived.Lib.SmallJoins
import Derived.Maps.OwnSet
import Derived.StillTailTactics
import Derived.Deep.RegionHeld3

/- The generic library's functions at 28-rows: Clone, Equal, Grow, Concat, IndexFunc, ContainsFunc, DeleteFunc. -/
namespace Go.Proofs.Ytfdphpmcgidmiaa
open Go.ChangeShapes Go.WideShapes Go.ChangeAt Go.RowKit Go.Sort
set_option linter.unusedSimpArgs false
set_option linter.unusedVariables false
theorem noHitCo {d : List Co} {p : Co → Bool} (h : d.any p = false) {j : Nat} (hj : j < d.length) : p (gCo d j) = false := by
  have := List.any_eq_false.1 h _ (gCo_mem hj)
  simpa using this
theorem firstHitCo {d : List Co} {p : Co → Bool} (h : d.any p = true) : ∃ q, q < d.length ∧ (∀ j, j < q → p (gCo d j) = false) ∧ p (gCo d q) = true := by
  have hl : d.findIdx p < d.length := List.findIdx_lt_length.2 (by simpa using h)
  refine ⟨d.findIdx p, hl, fun j hj => ?_, ?_⟩
  · rw [gCo_eq (by omega)]
    have := List.not_of_lt_findIdx hj
    simpa using this
  · rw [gCo_eq hl]
    exact List.findIdx_getElem
/-- A function value that tells p, in whatever world that has grown from W but for this block. -/
structure PredCo (g : FuncId) (lb : Array Value) (row : Option Nat) (W : World) (p : Co → Bool) : Prop where
  run : ∀ vals w, (callFunc g vals).run Try.prog w = .ok (.enter g vals) w
  tells : ∀ w', W.grownBy w' row → ∀ x : Co, Calls Try.prog g (#[.agg #[.int .i64 x.id, .int .i64 x.fr, .int .i64 x.tn, .int .i64 x.st, .int .i64 x.en, .int .i64 x.rt]] ++ lb) w' fun e w'' => e = .returned (.bool (p x)) ∧ Below w'.heap.size w' w''
theorem PredCo.next {g : FuncId} {lb : Array Value} {row : Option Nat} {W W' : World} {p : Co → Bool} (h : PredCo g lb row W p) (hg : W.grownBy W' row) : PredCo g lb row W' p := ⟨h.run, fun w' h' x => h.tells w' (grown_trans hg h') x⟩
theorem PredCo.below {g : FuncId} {lb : Array Value} {row : Option Nat} {W W' : World} {p : Co → Bool} (h : PredCo g lb row W p) (hb : Below W.heap.size W W') : PredCo g lb row W' p := h.next (grown_of_below hb)
set_option maxHeartbeats 1000000 in
set_option maxRecDepth 100000 in
theorem indexCo (A : Option Addr) (n c : Nat) (d : List Co) (g : FuncId) (lb : Array Value) (row : Option Nat) (p : Co → Bool) (w : World) (hd : d.length = n) (hn : n ≤ 1000000) (h : Sl w w.heap.size 6 A n c (flatCo d)) (hp : PredCo g lb row w p) (q : Nat) (hq : q ≤ n) (hlow : ∀ j, j < q → p (gCo d j) = false) (hhit : q < n → p (gCo d q) = true) :
    Calls Try.prog 53 #[.slice A n c, .func (.func g) #[] lb] w fun e w' => e = .returned (.int .i64 (idxOf q n)) ∧ Below w.heap.size w w' := by
  have HL := Lib.hid hlow
  have HH := Lib.hid hhit
  have HP := Lib.hid hp
  have hcf := hp.run
  clear hlow hhit hp
  go_enter Try.func53, Try.ntmps53
  go_wp2
  go_loopw [8] (fun i wr => ∃ k : Nat, k ≤ q ∧ i = .int .i64 k ∧ Below w.heap.size w wr) (fun i _ => n - (intOf i).toNat)
  case atStart => exact ⟨0, by omega, rfl, Below.refl _ _⟩
  case round =>
    obtain ⟨k, hk, rfl, hB⟩ := hrel
    by_cases hkn : k < n
    · obtain ⟨ad, rfl, hab, c0, c1, c2, c3, c4, c5⟩ := (h.below hB).lst.atCo hd hkn
      have habw : ad.block < wr.heap.size := by have := hB.size; omega
      by_cases hkq : k < q
      · have hf := HL.out k hkq
        generalize hx : gCo d k = x at *
        have HF := Lib.hid hf
        clear hx hf
        go_wp2_with fail
        refine (HF.out ▸ (HP.out.below hB).tells wr (grown_refl _ _) x).mono ?_
        rintro e w1 ⟨rfl, hb1⟩
        have hB2 := hB.trans (hb1.mono hB.size)
        clear hb1 hB c0 c1 c2 c3 c4 c5
        go_wp2
        go_roundw
        case rel => exact ⟨k + 1, by omega, by go_num, hB2⟩
        case measure => simp [intOf]; omega
      · obtain rfl : k = q := by omega
        have hf := HH.out hkn
        generalize hx : gCo d k = x at *
        have HF := Lib.hid hf
        clear hx hf
        go_wp2_with fail
        refine (HF.out ▸ (HP.out.below hB).tells wr (grown_refl _ _) x).mono ?_
        rintro e w1 ⟨rfl, hb1⟩
        have hB2 := hB.trans (hb1.mono hB.size)
        clear hb1 hB c0 c1 c2 c3 c4 c5
        go_wp2
        go_ret
        exact ⟨by rw [idxOf_yes hkn]; rfl, hB2⟩
    · go_wp2
      go_ret
      exact ⟨by rw [idxOf_no (by omega)]; rfl, hB⟩
set_option maxRecDepth 100000 in
theorem containsCo (A : Option Addr) (n c : Nat) (d : List Co) (g : FuncId) (lb : Array Value) (row : Option Nat) (p : Co → Bool) (w : World) (hd : d.length = n) (hn : n ≤ 1000000) (h : Sl w w.heap.size 6 A n c (flatCo d)) (hp : PredCo g lb row w p) :
    Calls Try.prog 49 #[.slice A n c, .func (.func g) #[] lb] w fun e w' => e = .returned (.bool (d.any p)) ∧ Below w.heap.size w w' := by
  have HP := Lib.hid hp
  clear hp
  by_cases ha : d.any p = true
  · obtain ⟨q, hq, h1, h2⟩ := firstHitCo ha
    have hqi : (0 : Int) ≤ (q : Int) := by omega
    go_enter Try.func49, Try.ntmps49
    go_wp2_with fail
    refine (indexCo A n c d g lb row p w hd hn h HP.out q (by omega) h1 (fun _ => h2)).mono ?_
    rintro e w1 ⟨rfl, hB⟩
    rw [idxOf_yes (by omega : q < n)]
    go_wp2
    go_ret
    exact ⟨by rw [ha]; rfl, hB⟩
  · have ha' : d.any p = false := by simpa using ha
    go_enter Try.func49, Try.ntmps49
    go_wp2_with fail
    refine (indexCo A n c d g lb row p w hd hn h HP.out n (Nat.le_refl _) (fun j hj => noHitCo ha' (by omega)) (fun h => by omega)).mono ?_
    rintro e w1 ⟨rfl, hB⟩
    rw [idxOf_no (by omega : ¬ n < n)]
    go_wp2
    go_ret
    exact ⟨by rw [ha']; rfl, hB⟩
theorem filt_nextCo {d : List Co} {p : Co → Bool} {j : Nat} (hj : j < d.length) : (d.take (j + 1)).filter (fun x => !p x) = (d.take j).filter (fun x => !p x) ++ if p (gCo d j) = true then [] else [gCo d j] := by
  rw [take_nextCo hj, List.filter_append]
  congr 1
  cases h : p (gCo d j) <;> simp [List.filter_cons, h]
theorem filt_allCo {d : List Co} {p : Co → Bool} : ∀ q, q ≤ d.length → (∀ j, j < q → p (gCo d j) = false) → (d.take q).filter (fun x => !p x) = d.take q
  | 0, _, _ => by simp
  | q + 1, h, hl => by
    rw [filt_nextCo (by omega), filt_allCo q (by omega) (fun j hj => hl j (by omega)), if_neg (by rw [hl q (by omega)]; simp), ← take_nextCo (by omega)]
theorem filt_lenCo {d : List Co} {p : Co → Bool} (j : Nat) : ((d.take j).filter (fun x => !p x)).length ≤ j := by
  have h1 := List.length_filter_le (fun x => !p x) (d.take j)
  rw [List.length_take] at h1
  omega
theorem set_stepCo {e d : List Co} {p : Co → Bool} {i j n : Nat} (he : e.length = n) (hd : d.length = n) (hij : i < j) (hj : j < n) (h1 : e.take i = (d.take j).filter (fun x => !p x)) (h2 : e.drop j = d.drop j) (hp : p (gCo d j) = false) :
    (e.set i (gCo d j)).take (i + 1) = (d.take (j + 1)).filter (fun x => !p x) ∧ (e.set i (gCo d j)).drop (j + 1) = d.drop (j + 1) := by
  refine ⟨?_, ?_⟩
  · rw [filt_nextCo (by omega), if_neg (by rw [hp]; simp), ← h1]
    rw [List.take_succ_eq_append_getElem (by simp; omega), List.getElem_set_self, List.take_set_of_le (Nat.le_refl _)]
  · rw [List.drop_set_of_lt (by omega), ← List.drop_drop, ← List.drop_drop, h2]
theorem drop_atCo {e d : List Co} {j : Nat} (he : e.length = d.length) (h : e.drop j = d.drop j) (hj : j < d.length) : gCo e j = gCo d j := by
  rw [gCo_eq (by omega), gCo_eq hj]
  have h1 : (e.drop j)[0]'(by simp; omega) = (d.drop j)[0]'(by simp; omega) := by simp [h]
  simpa using h1
/-- Lists, one behind the other. -/
def catCo (d : Nat → List Co) : Nat → List Co
  | 0 => []
  | k + 1 => catCo d k ++ d k
theorem catCo_le (d : Nat → List Co) : ∀ {k m : Nat}, k ≤ m → (catCo d k).length ≤ (catCo d m).length
  | k, 0, h => by
    obtain rfl : k = 0 := by omega
    exact Nat.le_refl _
  | k, m + 1, h => by
    by_cases e : k = m + 1
    · subst e; exact Nat.le_refl _
    · have := catCo_le d (k := k) (m := m) (by omega)
      simp only [catCo, List.length_append]
      omega
/-- A function value that compares with t, as cf says, in whatever world that has grown from W. -/
structure CmpCo (g : FuncId) (lb : Array Value) (t : Co) (W : World) (cf : Co → Int) : Prop where
  run : ∀ vals w, (callFunc g vals).run Try.prog w = .ok (.enter g vals) w
  tells : ∀ w', Below W.heap.size W w' → ∀ x : Co, Calls Try.prog g (#[.agg #[.int .i64 x.id, .int .i64 x.fr, .int .i64 x.tn, .int .i64 x.st, .int .i64 x.en, .int .i64 x.rt], .agg #[.int .i64 t.id, .int .i64 t.fr, .int .i64 t.tn, .int .i64 t.st, .int .i64 t.en, .int .i64 t.rt]] ++ lb) w' fun e w'' => e = .returned (.int .i64 (cf x)) ∧ Below w'.heap.size w' w''
end Go.Proofs.Ytfdphpmcgidmiaa

/- Sameness of two arrays of three ints. No condition. -/
namespace Go.Proofs.Ytfdphpmcgidmiaa
open Go.ChangeShapes Go.WideShapes Go.ChangeAt Go.RowKit Go.Sort
set_option linter.unusedSimpArgs false
set_option linter.unusedVariables false
theorem eq3 (d : Nat) (a b c x y z : Int) (w : World) : (Op.equalIn (d + 1 + 1) 53 (.agg #[.int .i64 a, .int .i64 b, .int .i64 c]) (.agg #[.int .i64 x, .int .i64 y, .int .i64 z])).run Try.prog w = .ok (decide (a = x ∧ b = y ∧ c = z)) w := by
  obtain ⟨i, hi⟩ : ∃ i, Try.prog.info? 3 = some i := by
    cases h : Try.prog.info? 3 with
    | none => exact absurd h (by decide +kernel)
    | some i => exact ⟨i, rfl⟩
  have hc : Try.prog.cellsOf 3 = 1 := by kernel_rfl
  have u3 := Try.underlying3
  have a3 := Try.isAgg3
  have z3 := Try.sizeOf3
  rw [run_equalIn_array w (d + 1) _ _ Try.underlying53 hi, hc, show List.range 3 = [0, 1, 2] from rfl]
  simp only [Op.eqItems]
  go_simp
  by_cases h1 : a = x <;> by_cases h2 : b = y <;> by_cases h3 : c = z <;> simp_all
theorem eql3 (a b c x y z : Int) (w : World) : (binOp .eql 53 (.agg #[.int .i64 a, .int .i64 b, .int .i64 c]) (.agg #[.int .i64 x, .int .i64 y, .int .i64 z])).run Try.prog w = .ok (.bool (decide (a = x ∧ b = y ∧ c = z))) w := by
  rw [run_eql_struct, show (10000 : Nat) = 9998 + 1 + 1 from rfl, eq3]
  rfl
theorem neql3 (a b c x y z : Int) (w : World) : (binOp .neq 53 (.agg #[.int .i64 a, .int .i64 b, .int .i64 c]) (.agg #[.int .i64 x, .int .i64 y, .int .i64 z])).run Try.prog w = .ok (.bool (!decide (a = x ∧ b = y ∧ c = z))) w := by
  rw [run_neq_struct, show (10000 : Nat) = 9998 + 1 + 1 from rfl, eq3]
  rfl
end Go.Proofs.Ytfdphpmcgidmiaa

/- api.Booked: its cells, lists of it. No condition. -/
namespace Go.Proofs.Ytfdphpmcgidmiaa
open Go.ChangeShapes Go.WideShapes Go.ChangeAt Go.RowKit Go.Sort
set_option linter.unusedSimpArgs false
set_option linter.unusedVariables false
structure Bk where
  id : Int
  ua : Int
  ub : Int
  uc : Int
theorem Bk.ext_ {a b : Bk} (h0 : a.id = b.id) (h1 : a.ua = b.ua) (h2 : a.ub = b.ub) (h3 : a.uc = b.uc) : a = b := by cases a; cases b; simp_all
instance : DecidableEq Bk := fun a b => if h : a.id = b.id ∧ a.ua = b.ua ∧ a.ub = b.ub ∧ a.uc = b.uc then isTrue (Bk.ext_ h.1 h.2.1 h.2.2.1 h.2.2.2) else isFalse (by rintro rfl; simp at h)
def Bk.cs (r : Bk) : List Value := [.int .i64 r.id, .int .i64 r.ua, .int .i64 r.ub, .int .i64 r.uc]
def flatBk (d : List Bk) : List Value := d.flatMap Bk.cs
def gBk (d : List Bk) (i : Nat) : Bk := d.getD i ⟨0, 0, 0, 0⟩
theorem flatBk_cons (p : Bk) (d : List Bk) : flatBk (p :: d) = .int .i64 p.id :: .int .i64 p.ua :: .int .i64 p.ub :: .int .i64 p.uc :: flatBk d := rfl
theorem flatBk_length (d : List Bk) : (flatBk d).length = d.length * 4 := by
  induction d with
  | nil => rfl
  | cons p d ih => rw [flatBk_cons]; simp only [List.length_cons, ih]; omega
theorem flatBk_append (d e : List Bk) : flatBk (d ++ e) = flatBk d ++ flatBk e := by simp [flatBk]
theorem flatBk_at0 : ∀ (d : List Bk) (i : Nat), i < d.length → (flatBk d)[i * 4]? = some (.int .i64 (gBk d i).id)
  | p :: d, 0, _ => rfl
  | p :: d, i + 1, h => by
    rw [flatBk_cons, show (i + 1) * 4 = i * 4 + 1 + 1 + 1 + 1 from by omega]
    simp only [List.getElem?_cons_succ]
    exact flatBk_at0 d i (by simpa using h)
theorem flatBk_at1 : ∀ (d : List Bk) (i : Nat), i < d.length → (flatBk d)[i * 4 + 1]? = some (.int .i64 (gBk d i).ua)
  | p :: d, 0, _ => rfl
  | p :: d, i + 1, h => by
    rw [flatBk_cons, show (i + 1) * 4 + 1 = i * 4 + 1 + 1 + 1 + 1 + 1 from by omega]
    simp only [List.getElem?_cons_succ]
    exact flatBk_at1 d i (by simpa using h)
theorem flatBk_at2 : ∀ (d : List Bk) (i : Nat), i < d.length → (flatBk d)[i * 4 + 2]? = some (.int .i64 (gBk d i).ub)
  | p :: d, 0, _ => rfl
  | p :: d, i + 1, h => by
    rw [flatBk_cons, show (i + 1) * 4 + 2 = i * 4 + 2 + 1 + 1 + 1 + 1 from by omega]
    simp only [List.getElem?_cons_succ]
    exact flatBk_at2 d i (by simpa using h)
theorem flatBk_at3 : ∀ (d : List Bk) (i : Nat), i < d.length → (flatBk d)[i * 4 + 3]? = some (.int .i64 (gBk d i).uc)
  | p :: d, 0, _ => rfl
  | p :: d, i + 1, h => by
    rw [flatBk_cons, show (i + 1) * 4 + 3 = i * 4 + 3 + 1 + 1 + 1 + 1 from by omega]
    simp only [List.getElem?_cons_succ]
    exact flatBk_at3 d i (by simpa using h)
theorem flatBk_set : ∀ (d : List Bk) (i : Nat) (p : Bk), (((((flatBk d).set (i * 4) (.int .i64 p.id)).set (i * 4 + 1) (.int .i64 p.ua)).set (i * 4 + 2) (.int .i64 p.ub)).set (i * 4 + 3) (.int .i64 p.uc)) = flatBk (d.set i p)
  | [], i, p => by simp [flatBk]
  | q :: d, 0, p => rfl
  | q :: d, i + 1, p => by
    rw [flatBk_cons]
    rw [show (i + 1) * 4 = i * 4 + 1 + 1 + 1 + 1 from by omega]
    rw [show i * 4 + 1 + 1 + 1 + 1 + 1 = i * 4 + 1 + 1 + 1 + 1 + 1 from by omega]
    rw [show i * 4 + 1 + 1 + 1 + 1 + 2 = i * 4 + 2 + 1 + 1 + 1 + 1 from by omega]
    rw [show i * 4 + 1 + 1 + 1 + 1 + 3 = i * 4 + 3 + 1 + 1 + 1 + 1 from by omega]
    simp only [List.set_cons_succ]
    rw [flatBk_set d i p]
    rfl
theorem flatBk_take : ∀ (d : List Bk) (n : Nat), (flatBk d).take (n * 4) = flatBk (d.take n)
  | _, 0 => by simp [flatBk]
  | [], n + 1 => by simp [flatBk]
  | p :: d, n + 1 => by
    rw [flatBk_cons, show (n + 1) * 4 = n * 4 + 1 + 1 + 1 + 1 from by omega]
    simp only [List.take_succ_cons]
    rw [flatBk_take d n]
    rfl
theorem flatBk_drop : ∀ (d : List Bk) (n : Nat), (flatBk d).drop (n * 4) = flatBk (d.drop n)
  | _, 0 => by simp
  | [], n + 1 => by simp [flatBk]
  | p :: d, n + 1 => by
    rw [flatBk_cons, show (n + 1) * 4 = n * 4 + 1 + 1 + 1 + 1 from by omega]
    simp only [List.drop_succ_cons]
    rw [flatBk_drop d n]
theorem flatBk_one : ∀ (l : List Bk), ∀ u ∈ flatBk l, u.oneCell' = true
  | [], u, h => by simp [flatBk] at h
  | p :: l, u, h => by
    rw [flatBk_cons] at h
    simp only [List.mem_cons] at h
    rcases h with rfl | rfl | rfl | rfl | h
    all_goals first | rfl | exact flatBk_one l u h
theorem rowsBk_of : ∀ (n : Nat) (ns : List Int), ns.length = n * 4 → ∃ d : List Bk, d.length = n ∧ ns.map (Value.int .i64) = flatBk d
  | 0, [], _ => ⟨[], rfl, rfl⟩
  | 0, _ :: _, h => by simp at h
  | n + 1, a0 :: a1 :: a2 :: a3 :: ns, h => by
    obtain ⟨d, h1, h2⟩ := rowsBk_of n ns (by simp at h; omega)
    exact ⟨⟨a0, a1, a2, a3⟩ :: d, by simp [h1], by simp [flatBk_cons, h2]⟩
  | n + 1, [], h => by simp at h <;> omega
  | n + 1, [_], h => by simp at h <;> omega
  | n + 1, [_, _], h => by simp at h <;> omega
  | n + 1, [_, _, _], h => by simp at h <;> omega

theorem Lst.atBk {w : World} {B : Nat} {A : Option Addr} {n : Nat} {l : List Bk} (h : Lst w B 4 A n (flatBk l)) (hl : l.length = n) {k : Nat} (hk : k < n) : ∃ ad, A = some ad ∧ ad.block < B ∧ w.cell? (ad.add (k * 4)) = some (.int .i64 (gBk l k).id) ∧ w.cell? ⟨(ad.add (k * 4)).block, (ad.add (k * 4)).off + 1, none⟩ = some (.int .i64 (gBk l k).ua) ∧ w.cell? ⟨(ad.add (k * 4)).block, (ad.add (k * 4)).off + 2, none⟩ = some (.int .i64 (gBk l k).ub) ∧ w.cell? ⟨(ad.add (k * 4)).block, (ad.add (k * 4)).off + 3, none⟩ = some (.int .i64 (gBk l k).uc) := by
  obtain ⟨ad, e, hb, hc⟩ := h.at_ (by omega)
  exact ⟨ad, e, hb, hc _ _ (flatBk_at0 l k (by omega)), by rw [addr_next _ _ _ (by omega)]; exact hc _ _ (flatBk_at1 l k (by omega)), by rw [addr_next _ _ _ (by omega)]; exact hc _ _ (flatBk_at2 l k (by omega)), by rw [addr_next _ _ _ (by omega)]; exact hc _ _ (flatBk_at3 l k (by omega))⟩
theorem ownBk_at {w : World} {base : Nat} {t : TypeId} {g n c : Nat} {d : List Bk} (h : w.ownsRow base t 4 (.slice (some ⟨g, 0, none⟩) n c) n (flatBk d)) (hd : d.length = n) {k : Nat} (hk : k < n) : w.cell? ⟨g, k * 4, none⟩ = some (.int .i64 (gBk d k).id) ∧ w.cell? ⟨g, k * 4 + 1, none⟩ = some (.int .i64 (gBk d k).ua) ∧ w.cell? ⟨g, k * 4 + 2, none⟩ = some (.int .i64 (gBk d k).ub) ∧ w.cell? ⟨g, k * 4 + 3, none⟩ = some (.int .i64 (gBk d k).uc) :=
  ⟨(h.cellAt (k * 4) (by omega)).trans (flatBk_at0 d k (by omega)), (h.cellAt (k * 4 + 1) (by omega)).trans (flatBk_at1 d k (by omega)), (h.cellAt (k * 4 + 2) (by omega)).trans (flatBk_at2 d k (by omega)), (h.cellAt (k * 4 + 3) (by omega)).trans (flatBk_at3 d k (by omega))⟩
theorem ownBk_store {w : World} {base : Nat} {t : TypeId} {g n c : Nat} {d : List Bk} (h : w.ownsRow base t 4 (.slice (some ⟨g, 0, none⟩) n c) n (flatBk d)) (i : Nat) (p : Bk) : ((((w.setCell ⟨g, i * 4, none⟩ (.int .i64 p.id)).setCell ⟨g, i * 4 + 1, none⟩ (.int .i64 p.ua)).setCell ⟨g, i * 4 + 2, none⟩ (.int .i64 p.ub)).setCell ⟨g, i * 4 + 3, none⟩ (.int .i64 p.uc)).ownsRow base t 4 (.slice (some ⟨g, 0, none⟩) n c) n (flatBk (d.set i p)) ∧ w.grownBy ((((w.setCell ⟨g, i * 4, none⟩ (.int .i64 p.id)).setCell ⟨g, i * 4 + 1, none⟩ (.int .i64 p.ua)).setCell ⟨g, i * 4 + 2, none⟩ (.int .i64 p.ub)).setCell ⟨g, i * 4 + 3, none⟩ (.int .i64 p.uc)) (some g) := by
  obtain ⟨r0, g0⟩ := h.stored (i * 4) (.int .i64 p.id)
  obtain ⟨r1, g1⟩ := r0.stored (i * 4 + 1) (.int .i64 p.ua)
  obtain ⟨r2, g2⟩ := r1.stored (i * 4 + 2) (.int .i64 p.ub)
  obtain ⟨r3, g3⟩ := r2.stored (i * 4 + 3) (.int .i64 p.uc)
  rw [flatBk_set] at r3
  exact ⟨r3, grown_trans (grown_trans (grown_trans (g0) g1) g2) g3⟩
theorem gBk_mem {d : List Bk} {i : Nat} (h : i < d.length) : gBk d i ∈ d := by
  unfold gBk; rw [List.getD_eq_getElem?_getD, List.getElem?_eq_getElem h]; simp
theorem gBk_eq {d : List Bk} {i : Nat} (h : i < d.length) : gBk d i = d[i] := by
  unfold gBk; rw [List.getD_eq_getElem?_getD, List.getElem?_eq_getElem h]; rfl
theorem take_nextBk {l : List Bk} {k : Nat} (h : k < l.length) : l.take (k + 1) = l.take k ++ [gBk l k] := by
  rw [List.take_succ_eq_append_getElem h, gBk_eq h]
theorem extBk {a b : List Bk} (hl : a.length = b.length) (h : ∀ i, i < a.length → gBk a i = gBk b i) : a = b := by
  refine List.ext_getElem hl fun i h1 h2 => ?_
  have := h i h1
  rw [gBk_eq h1, gBk_eq h2] at this
  exact this
theorem eqlBk (a b : Bk) (w : World) : (binOp .eql 55 (.agg #[.int .i64 a.id, .int .i64 a.ua, .int .i64 a.ub, .int .i64 a.uc]) (.agg #[.int .i64 b.id, .int .i64 b.ua, .int .i64 b.ub, .int .i64 b.uc])).run Try.prog w = .ok (.bool (decide (a = b))) w := by
  have e3 := fun (a b c x y z : Int) (w : World) => eq3 9997 a b c x y z w
  simp only [Nat.reduceAdd] at e3
  have u3 := Try.underlying3
  have a3 := Try.isAgg3
  have z3 := Try.sizeOf3
  have hS : Try.prog.underlying 55 = some (.struct (Try.prog.fieldsOf 55)) := by kernel_rfl
  have hp : Try.prog.stoodInHeld 55 = false := by kernel_rfl
  rw [run_eql_struct, show (10000 : Nat) = 9999 + 1 from rfl, run_equalIn_agg w 9999 55 _ _ hS hp]
  simp only [Program.fieldsOf, Try.underlying55]
  go_simp
  by_cases hab : a = b
  · subst hab; simp
  · simp only [hab, decide_false]
    have hx : ¬ (a.id = b.id ∧ a.ua = b.ua ∧ a.ub = b.ub ∧ a.uc = b.uc) := fun h => hab (Bk.ext_ h.1 h.2.1 h.2.2.1 h.2.2.2)
    by_cases h0 : a.id = b.id <;> by_cases h1 : a.ua = b.ua <;> by_cases h2 : a.ub = b.ub <;> by_cases h3 : a.uc = b.uc
    all_goals simp_all
theorem neqBk (a b : Bk) (w : World) : (binOp .neq 55 (.agg #[.int .i64 a.id, .int .i64 a.ua, .int .i64 a.ub, .int .i64 a.uc]) (.agg #[.int .i64 b.id, .int .i64 b.ua, .int .i64 b.ub, .int .i64 b.uc])).run Try.prog w = .ok (.bool (!decide (a = b))) w := by
  have e3 := fun (a b c x y z : Int) (w : World) => eq3 9997 a b c x y z w
  simp only [Nat.reduceAdd] at e3
  have u3 := Try.underlying3
  have a3 := Try.isAgg3
  have z3 := Try.sizeOf3
  have hS : Try.prog.underlying 55 = some (.struct (Try.prog.fieldsOf 55)) := by kernel_rfl
  have hp : Try.prog.stoodInHeld 55 = false := by kernel_rfl
  rw [run_neq_struct, show (10000 : Nat) = 9999 + 1 from rfl, run_equalIn_agg w 9999 55 _ _ hS hp]
  simp only [Program.fieldsOf, Try.underlying55]
  go_simp
  by_cases hab : a = b
  · subst hab; simp
  · simp only [hab, decide_false]
    have hx : ¬ (a.id = b.id ∧ a.ua = b.ua ∧ a.ub = b.ub ∧ a.uc = b.uc) := fun h => hab (Bk.ext_ h.1 h.2.1 h.2.2.1 h.2.2.2)
    by_cases h0 : a.id = b.id <;> by_cases h1 : a.ua = b.ua <;> by_cases h2 : a.ub = b.ub <;> by_cases h3 : a.uc = b.uc
    all_goals simp_all
theorem infoBk : (Try.prog.info? 55).map (fun i => (i.zero, i.size, i.bytes)) = some (some (.agg #[.int .i64 0, .int .i64 0, .int .i64 0, .int .i64 0]), 4, 32) := by kernel_rfl
end Go.Proofs.Ytfdphpmcgidmiaa

/- The generic library's functions at 55-rows: Clone, Equal, Grow, Concat, IndexFunc, ContainsFunc, DeleteFunc. -/
namespace Go.Proofs.Ytfdphpmcgidmiaa
open Go.ChangeShapes Go.WideShapes Go.ChangeAt Go.RowKit Go.Sort
set_option linter.unusedSimpArgs false
set_option linter.unusedVariables false
theorem noHitBk {d : List Bk} {p : Bk → Bool} (h : d.any p = false) {j : Nat} (hj : j < d.length) : p (gBk d j) = false := by
  have := List.any_eq_false.1 h _ (gBk_mem hj)
  simpa using this
theorem firstHitBk {d : List Bk} {p : Bk → Bool} (h : d.any p = true) : ∃ q, q < d.length ∧ (∀ j, j < q → p (gBk d j) = false) ∧ p (gBk d q) = true := by
  have hl : d.findIdx p < d.length := List.findIdx_lt_length.2 (by simpa using h)
  refine ⟨d.findIdx p, hl, fun j hj => ?_, ?_⟩
  · rw [gBk_eq (by omega)]
    have := List.not_of_lt_findIdx hj
    simpa using this
  · rw [gBk_eq hl]
    exact List.findIdx_getElem
/-- A function value that tells p, in whatever world that has grown from W but for this block. -/
structure PredBk (g : FuncId) (lb : Array Value) (row : Option Nat) (W : World) (p : Bk → Bool) : Prop where
  run : ∀ vals w, (callFunc g vals).run Try.prog w = .ok (.enter g vals) w
  tells : ∀ w', W.grownBy w' row → ∀ x : Bk, Calls Try.prog g (#[.agg #[.int .i64 x.id, .int .i64 x.ua, .int .i64 x.ub, .int .i64 x.uc]] ++ lb) w' fun e w'' => e = .returned (.bool (p x)) ∧ Below w'.heap.size w' w''
theorem PredBk.next {g : FuncId} {lb : Array Value} {row : Option Nat} {W W' : World} {p : Bk → Bool} (h : PredBk g lb row W p) (hg : W.grownBy W' row) : PredBk g lb row W' p := ⟨h.run, fun w' h' x => h.tells w' (grown_trans hg h') x⟩
theorem PredBk.below {g : FuncId} {lb : Array Value} {row : Option Nat} {W W' : World} {p : Bk → Bool} (h : PredBk g lb row W p) (hb : Below W.heap.size W W') : PredBk g lb row W' p := h.next (grown_of_below hb)
theorem filt_nextBk {d : List Bk} {p : Bk → Bool} {j : Nat} (hj : j < d.length) : (d.take (j + 1)).filter (fun x => !p x) = (d.take j).filter (fun x => !p x) ++ if p (gBk d j) = true then [] else [gBk d j] := by
  rw [take_nextBk hj, List.filter_append]
  congr 1
  cases h : p (gBk d j) <;> simp [List.filter_cons, h]
theorem filt_allBk {d : List Bk} {p : Bk → Bool} : ∀ q, q ≤ d.length → (∀ j, j < q → p (gBk d j) = false) → (d.take q).filter (fun x => !p x) = d.take q
  | 0, _, _ => by simp
  | q + 1, h, hl => by
    rw [filt_nextBk (by omega), filt_allBk q (by omega) (fun j hj => hl j (by omega)), if_neg (by rw [hl q (by omega)]; simp), ← take_nextBk (by omega)]
theorem filt_lenBk {d : List Bk} {p : Bk → Bool} (j : Nat) : ((d.take j).filter (fun x => !p x)).length ≤ j := by
  have h1 := List.length_filter_le (fun x => !p x) (d.take j)
  rw [List.length_take] at h1
  omega
theorem set_stepBk {e d : List Bk} {p : Bk → Bool} {i j n : Nat} (he : e.length = n) (hd : d.length = n) (hij : i < j) (hj : j < n) (h1 : e.take i = (d.take j).filter (fun x => !p x)) (h2 : e.drop j = d.drop j) (hp : p (gBk d j) = false) :
    (e.set i (gBk d j)).take (i + 1) = (d.take (j + 1)).filter (fun x => !p x) ∧ (e.set i (gBk d j)).drop (j + 1) = d.drop (j + 1) := by
  refine ⟨?_, ?_⟩
  · rw [filt_nextBk (by omega), if_neg (by rw [hp]; simp), ← h1]
    rw [List.take_succ_eq_append_getElem (by simp; omega), List.getElem_set_self, List.take_set_of_le (Nat.le_refl _)]
  · rw [List.drop_set_of_lt (by omega), ← List.drop_drop, ← List.drop_drop, h2]
theorem drop_atBk {e d : List Bk} {j : Nat} (he : e.length = d.length) (h : e.drop j = d.drop j) (hj : j < d.length) : gBk e j = gBk d j := by
  rw [gBk_eq (by omega), gBk_eq hj]
  have h1 : (e.drop j)[0]'(by simp; omega) = (d.drop j)[0]'(by simp; omega) := by simp [h]
  simpa using h1
/-- Lists, one behind the other. -/
def catBk (d : Nat → List Bk) : Nat → List Bk
  | 0 => []
  | k + 1 => catBk d k ++ d k
theorem catBk_le (d : Nat → List Bk) : ∀ {k m : Nat}, k ≤ m → (catBk d k).length ≤ (catBk d m).length
  | k, 0, h => by
    obtain rfl : k = 0 := by omega
    exact Nat.le_refl _
  | k, m + 1, h => by
    by_cases e : k = m + 1
    · subst e; exact Nat.le_refl _
    · have := catBk_le d (k := k) (m := m) (by omega)
      simp only [catBk, List.length_append]
      omega
/-- A function value that compares with t, as cf says, in whatever world that has grown from W. -/
structure CmpBk (g : FuncId) (lb : Array Value) (t : Bk) (W : World) (cf : Bk → Int) : Prop where
  run : ∀ vals w, (callFunc g vals).run Try.prog w = .ok (.enter g vals) w
  tells : ∀ w', Below W.heap.size W w' → ∀ x : Bk, Calls Try.prog g (#[.agg #[.int .i64 x.id, .int .i64 x.ua, .int .i64 x.ub, .int .i64 x.uc], .agg #[.int .i64 t.id, .int .i64 t.ua, .int .i64 t.ub, .int .i64 t.uc]] ++ lb) w' fun e w'' => e = .returned (.int .i64 (cf x)) ∧ Below w'.heap.size w' w''
end Go.Proofs.Ytfdphpmcgidmiaa

/- cmp.Compare and cmp.Or at int. No condition. -/
namespace Go.Proofs.Ytfdphpmcgidmiaa
open Go.ChangeShapes Go.WideShapes Go.ChangeAt Go.RowKit Go.Sort
set_option linter.unusedSimpArgs false
set_option linter.unusedVariables false
def cmpI (a b : Int) : Int := if a < b then -1 else if b < a then 1 else 0
theorem cmpI_lt {a b : Int} (h : a < b) : cmpI a b = -1 := if_pos h
theorem cmpI_gt {a b : Int} (h : b < a) : cmpI a b = 1 := by unfold cmpI; rw [if_neg (by omega), if_pos h]
theorem cmpI_eq (a : Int) : cmpI a a = 0 := by unfold cmpI; rw [if_neg (by omega), if_neg (by omega)]
theorem cmpI_zero {a b : Int} : cmpI a b = 0 ↔ a = b := by
  unfold cmpI; constructor
  · intro h; split at h
    · omega
    · split at h <;> omega
  · rintro rfl; rw [if_neg (by omega), if_neg (by omega)]
def orF : List Int → Int
  | [] => 0
  | x :: l => if x = 0 then orF l else x
theorem nan_any (a : Int) (w : World) : Calls Try.prog 74 #[.int .i64 a] w fun e w' => e = .returned (.bool false) ∧ w = w' := by
  have hz : (a != a) = false := by simp
  go_enter Try.func74, Try.ntmps74
  go_wp2
  go_ret
  exact ⟨rfl, rfl⟩
theorem cmp_any (a b : Int) (w : World) : Calls Try.prog 44 #[.int .i64 a, .int .i64 b] w fun e w' => e = .returned (.int .i64 (cmpI a b)) ∧ w = w' := by
  by_cases h1 : a < b
  · rw [cmpI_lt h1]
    go_enter Try.func44, Try.ntmps44
    go_wp2_with (go_at_call 74; refine (nan_any _ _).mono ?_; rintro e w' ⟨rfl, rfl⟩)
    go_ret
    exact ⟨rfl, rfl⟩
  · by_cases h2 : b < a
    · rw [cmpI_gt h2]
      go_enter Try.func44, Try.ntmps44
      go_wp2_with (go_at_call 74; refine (nan_any _ _).mono ?_; rintro e w' ⟨rfl, rfl⟩)
      go_ret
      exact ⟨rfl, rfl⟩
    · have h0 : cmpI a b = 0 := cmpI_zero.2 (by omega)
      rw [h0]
      go_enter Try.func44, Try.ntmps44
      go_wp2_with (go_at_call 74; refine (nan_any _ _).mono ?_; rintro e w' ⟨rfl, rfl⟩)
      go_ret
      exact ⟨rfl, rfl⟩
theorem orF_next : ∀ (l : List Int) (k : Nat), k < l.length → (∀ j, j < k → l.getD j 0 = 0) → l.getD k 0 ≠ 0 → orF l = l.getD k 0
  | x :: l, 0, _, _, h => by simp [orF] at *; intro e; exact absurd e h
  | x :: l, k + 1, hk, hz, h => by
    have h0 : x = 0 := by simpa using hz 0 (by omega)
    rw [orF, if_pos h0]
    simpa using orF_next l k (by simpa using hk) (fun j hj => by simpa using hz (j + 1) (by omega)) (by simpa using h)
theorem orF_zero : ∀ (l : List Int), (∀ j, j < l.length → l.getD j 0 = 0) → orF l = 0
  | [], _ => rfl
  | x :: l, h => by
    have h0 : x = 0 := by simpa using h 0 (by simp)
    rw [orF, if_pos h0]
    exact orF_zero l (fun j hj => by simpa using h (j + 1) (by simpa using hj))
theorem or_any (g m c : Nat) (l : List Int) (w : World) (hm : l.length = m) (hm2 : m ≤ 1000) (hc : ∀ k, k < m → w.cell? ⟨g, k, none⟩ = some (.int .i64 (l.getD k 0))) :
    Calls Try.prog 82 #[.slice (some ⟨g, 0, none⟩) m c] w fun e w' => e = .returned (.int .i64 (orF l)) ∧ w = w' := by
  have HC := Lib.hid hc
  have HM := Lib.hid hm
  clear hc hm
  go_enter Try.func82, Try.ntmps82
  go_wp2
  go_loop [8] (fun i => ∃ k : Nat, k ≤ m ∧ i = .int .i64 k ∧ Hid (∀ j, j < k → l.getD j 0 = 0)) (fun i => m - (intOf i).toNat)
  case atStart => exact ⟨0, by omega, rfl, fun j hj => by omega⟩
  case round =>
    obtain ⟨k, hk, rfl, HZ⟩ := hrel
    by_cases hkm : k < m
    · have hck := HC.out k hkm
      obtain ⟨y, hy⟩ : ∃ y, l.getD k 0 = y := ⟨_, rfl⟩
      rw [hy] at hck
      have HY := Lib.hid hy
      clear hy
      by_cases h0 : y = 0
      · have hb : (y != 0) = false := by simp [h0]
        have H0 := Lib.hid h0
        clear h0
        go_wp2
        go_round
        case rel => exact ⟨k + 1, by omega, by go_num, fun j hj => by
          by_cases e : j = k
          · rw [e, HY.out]; exact H0.out
          · exact HZ.out j (by omega)⟩
        case measure => simp [intOf]; omega
      · have hb : (y != 0) = true := by simpa using h0
        have hfin : orF l = y := by rw [← HY.out]; exact orF_next l k (by have := HM.out; omega) HZ.out (by rw [HY.out]; exact h0)
        have HF := Lib.hid hfin
        clear hfin h0
        go_wp2
        go_ret
        exact ⟨by rw [HF.out]; rfl, rfl⟩
    · have hfin : orF l = 0 := orF_zero l (fun j hj => HZ.out j (by have := HM.out; omega))
      have HF := Lib.hid hfin
      clear hfin
      go_wp2
      go_ret
      exact ⟨by rw [HF.out]; rfl, rfl⟩
end Go.Proofs.Ytfdphpmcgidmiaa

/- A map from int to bool that the call made: what it tells at a key, a store, its laws in a walk. No condition. -/
namespace Go.Proofs.Ytfdphpmcgidmiaa
open Go.ChangeShapes Go.WideShapes Go.ChangeAt Go.RowKit Go.Sort
set_option linter.unusedSimpArgs false
set_option linter.unusedVariables false
open Go.Maps (Keyed)
theorem keyedI : Keyed Try.prog 3 := Maps.int_keyed Try.underlying3
theorem zeroB (w : World) : (zeroValue 4).run Try.prog w = .ok (.bool false) w := by kernel_rfl
/-- Block b is a map that the call made, and tells S of each int. -/
def SetW (w : World) (b n : Nat) (S : Int → Bool) : Prop :=
  ∃ D : DataW Unit, w.ownsMap Try.prog 3 (plainElem Try.prog 4) b n D ∧ Maps.IsMap D ∧ ∀ k, (Lit.int .i64 k).wf = true → D.atKey (.int .i64 k) (.lit (.bool false)) = .lit (.bool (S k))
theorem wfI {k : Int} (h : -9223372036854775808 ≤ k ∧ k ≤ 9223372036854775807) : (Lit.int .i64 k).wf = true := by
  simp [Lit.wf, IntKind.min, IntKind.max, IntKind.signed, IntKind.bits]; omega
theorem plainElem_bool_inv {P : Program} {e : TypeId} (he : P.underlying e = some .bool) {v : Value} {z : DataW Unit × List MemPlace} (h : plainElem P e v = some z) : ∃ x, v = .bool x ∧ z = (.lit (.bool x), []) := by
  unfold plainElem at h
  rw [he] at h
  cases v <;> simp at h
  rename_i x
  exact ⟨x, rfl, h.symm⟩
theorem SetW.made (w : World) : SetW (w.alloc (.map #[] 0)) w.heap.size 0 (fun _ => false) :=
  ⟨.map [], World.ownsMap_made _ _ _ _, ⟨[], rfl⟩, fun k _ => rfl⟩
theorem SetW.lt {w : World} {b n : Nat} {S : Int → Bool} (h : SetW w b n S) : b < w.heap.size := let ⟨_, h, _⟩ := h; h.lt
theorem SetW.kept {w w' : World} {b n : Nat} {S : Int → Bool} {row : Option Nat} (h : SetW w b n S) (hg : w.grownBy w' row) (hne : some b ≠ row) : SetW w' b n S := let ⟨D, h1, h2⟩ := h; ⟨D, h1.kept hg hne, h2⟩
theorem SetW.below {w w' : World} {b n : Nat} {S : Int → Bool} (h : SetW w b n S) (hb : Below w.heap.size w w') : SetW w' b n S := h.kept (grown_of_below (row := none) hb) (by simp)
theorem SetW.alloc {w : World} {b n : Nat} {S : Int → Bool} (h : SetW w b n S) (o : Obj) : SetW (w.alloc o) b n S := let ⟨D, h1, h2⟩ := h; ⟨D, h1.alloc o, h2⟩
theorem SetW.drew {w : World} {b n : Nat} {S : Int → Bool} (h : SetW w b n S) : SetW w.drew b n S := h
theorem SetW.congr {w : World} {b n : Nat} {S S' : Int → Bool} (h : SetW w b n S) (e : ∀ k, (Lit.int .i64 k).wf = true → S k = S' k) : SetW w b n S' := let ⟨D, h1, h2, h3⟩ := h; ⟨D, h1, h2, fun k hk => by rw [h3 k hk, e k hk]⟩
theorem SetW.look {w : World} {b n : Nat} {S : Int → Bool} (h : SetW w b n S) {k : Int} (hk : (Lit.int .i64 k).wf = true) : (Instr.lookup 85 (.map (some b)) (.int .i64 k) false).run Try.prog w = .ok (.bool (S k)) w := by
  obtain ⟨D, h1, h2, h3⟩ := h
  obtain ⟨v, ps, hrun, hv⟩ := h1.lookup keyedI Try.underlying85 (zeroB w) (plainElem_bool Try.underlying4 false) (Maps.keyOf_int_mk Try.underlying3 hk)
  obtain ⟨x, rfl, hx⟩ := plainElem_bool_inv Try.underlying4 hv
  rw [h3 k hk] at hx
  simp only [Prod.mk.injEq, DataW.lit.injEq, Lit.bool.injEq] at hx
  rw [hrun, hx.1]
theorem SetW.put {w : World} {b n : Nat} {S : Int → Bool} (h : SetW w b n S) (hn : n < maxLen) {k : Int} (hk : (Lit.int .i64 k).wf = true) (v : Bool) :
    ∃ w', (Instr.mapUpdate 85 (.map (some b)) (.int .i64 k) (.bool v)).run Try.prog w = .ok () w' ∧ SetW w' b (n + 1) (fun j => if j = k then v else S j) ∧ w.grownBy w' (some b) := by
  obtain ⟨D, h1, h2, h3⟩ := h
  obtain ⟨w', hrun, hown, hg⟩ := h1.update keyedI Try.underlying85 hn (Maps.keyOf_int_mk Try.underlying3 hk) (plainElem_bool Try.underlying4 v)
  refine ⟨w', hrun, ⟨_, hown, h2.put _ _, fun j hj => ?_⟩, hg⟩
  by_cases e : j = k
  · subst e
    rw [Maps.atKey_put_same h2 (by simp [WideAt.IsKeyLit])]; simp
  · rw [Maps.atKey_put_other (by intro e2; injection e2 with _ e3; exact e e3), h3 j hj]; simp [e]
/-- A look-up, at the operation. -/
theorem wpList_look_set {ops : Array Oper} {rest : List Oper} {o : Oper} {a : Act} {w : World} {Q : Exit → Act → World → Prop} (hg : o.guard = none) (m x : Operand) (hop : o.op = Op.lookup 85 m x false) (b n : Nat) (S : Int → Bool) (k : Int)
    (hm : a.eval m = .map (some b)) (h : SetW w b n S) (hx : a.eval x = .int .i64 k) (hk : (Lit.int .i64 k).wf = true)
    (hK : wpList Try.prog ops Q rest (a.put o.dst (.bool (S k))) w) : wpList Try.prog ops Q (o :: rest) a w := by
  refine wpList_plain hg fun K' hK' => ?_
  unfold Oper.wp
  simp [execOp, hop, hm, hx, h.look hk, Result.andThen]
  exact hK' _ _ hK
/-- A store, at the operation. -/
theorem wpList_put_set {ops : Array Oper} {rest : List Oper} {o : Oper} {a : Act} {w : World} {Q : Exit → Act → World → Prop} (hg : o.guard = none) (m x v : Operand) (hop : o.op = Op.mapUpdate 85 m x v) (b n : Nat) (S : Int → Bool) (k : Int) (vb : Bool)
    (hm : a.eval m = .map (some b)) (h : SetW w b n S) (hn : n < maxLen) (hx : a.eval x = .int .i64 k) (hk : (Lit.int .i64 k).wf = true) (hv : a.eval v = .bool vb)
    (hK : ∀ w', SetW w' b (n + 1) (fun j => if j = k then vb else S j) → w.grownBy w' (some b) → wpList Try.prog ops Q rest (a.put o.dst undef) w') : wpList Try.prog ops Q (o :: rest) a w := by
  refine wpList_plain hg fun K' hK' => ?_
  obtain ⟨w', hrun, h1, h2⟩ := h.put hn hk vb
  unfold Oper.wp
  simp [execOp, hop, hm, hx, hv, hrun, Result.andThen]
  exact hK' _ _ (hK w' h1 h2)
end Go.Proofs.Ytfdphpmcgidmiaa

/- A call of a Go function, as one step of a region that draws its order. No condition. -/
namespace Go.Proofs.Ytfdphpmcgidmiaa
open Go.ChangeShapes Go.WideShapes Go.ChangeAt Go.RowKit Go.Sort
set_option linter.unusedSimpArgs false
set_option linter.unusedVariables false
theorem step_call {P : Program} {ops : Array Oper} {o : Oper} {a : Act} {w : World} {K : Act → World → Prop} {Q : Exit → Act → World → Prop} {E : Prop} (hgd : o.guard = none) (f : FuncId) (xs : Array Operand) (ats : Array TypeId)
    (ho : o.op = .call { callee := .value (.func f), args := xs, argTypes := ats }) (vals : Array Value) (hv : #[] ++ xs.map a.eval ++ #[] = vals) {fn : Func} (hf : P.funcs[f]? = some fn) (hb : fn.body.isNone = false) (hnm : (fn.name == "runtime.NumGoroutine") = false)
    (h : Calls P f vals w fun e w' => ∃ v, e = .returned v ∧ K (a.put o.dst v) w') :
    if Region.wanted o (yielded ops a.tmps) = true then Oper.wp P o a w K Q else E := by
  rw [if_pos (by simp [Region.wanted, hgd])]
  obtain ⟨dst, op, ty, pos, after, guard⟩ := o
  simp only at ho
  subst ho
  unfold Oper.wp
  rw [execOp_call_go, hv]
  have e : (callFunc f vals).run P w = .ok (.enter f vals) w := by
    have h1 : fn.name ≠ "runtime.NumGoroutine" := by simpa using hnm
    have h2 : fn.body ≠ none := by intro e; rw [e] at hb; cases hb
    simp [callFunc, run_program, hf]
    rw [if_neg h1, if_neg h2]
  rw [e]
  refine h.mono ?_
  rintro e w' ⟨v, rfl, hK⟩
  exact hK
end Go.Proofs.Ytfdphpmcgidmiaa

/- An argument that is a slice of flat structs, opened as a slice with its nil. No condition. -/
namespace Go.Proofs.Ytfdphpmcgidmiaa
open Go.ChangeShapes Go.WideShapes Go.ChangeAt Go.RowKit Go.Sort
set_option linter.unusedSimpArgs false
set_option linter.unusedVariables false
variable {H : Type} {enc : TypeId × Value → H} {P : Program}
theorem open_rowsS {w : World} {base b0 : Nat} {r : Reach} {spare : Nat → Bool} {held : Bool} {t e : TypeId} {v : Value} {d : DataW H} {p : List MemPlace} (q : Nat) {K : Nat} (ht : P.underlying t = some (.slice e)) (hf : flatB P q e = true) (hK : P.cellsOf e = K) (hpos : 0 < K)
    (hv : Value.okWide P w r b0 t v) (h : DataW.Trod enc P w base spare held t v d p) :
    ∃ (A : Option Addr) (n c : Nat) (ns : List Int), v = .slice A n c ∧ Sl w w.heap.size K A n c (ns.map (Value.int .i64)) ∧ ns.length = n * K ∧ ∀ m ∈ ns, (Lit.int .i64 m).wf = true := by
  obtain ⟨A, n, c, ns, rfl, h1, h2, h3, h4, h5⟩ := open_rows q ht hf hK hpos hv h
  refine ⟨A, n, c, ns, rfl, ⟨h3, h1, h2, fun hA => ?_⟩, h4, h5⟩
  subst hA
  obtain ⟨fuel, hx⟩ := h
  rcases Go.Deep.open_slice ht hx with ⟨h0, _⟩ | ⟨a, len, cap, m, q', D, Pl, hcs, _⟩
  · have h0' : Value.slice none n c = .slice none 0 0 := by simpa [Value.cells] using h0
    injection h0'
  · simp [Value.cells] at hcs
end Go.Proofs.Ytfdphpmcgidmiaa

/- An argument that is a struct of a slice of flat structs and an int, opened. No condition. -/
namespace Go.Proofs.Ytfdphpmcgidmiaa
open Go.ChangeShapes Go.WideShapes Go.ChangeAt Go.RowKit Go.Sort
set_option linter.unusedSimpArgs false
set_option linter.unusedVariables false
variable {H : Type} {enc : TypeId × Value → H} {P : Program}
theorem rows_of_trod {w : World} {base : Nat} {spare : Nat → Bool} {held : Bool} {t e : TypeId} {fuel : Nat} {cs : List Value} {x : DataW H × List MemPlace} (q : Nat) {K : Nat} (ht : P.underlying t = some (.slice e)) (hf : flatB P q e = true) (hK : P.cellsOf e = K) (hpos : 0 < K)
    (hx : DataW.trod enc P w base spare held fuel t cs = some x) :
    ∃ (A : Option Addr) (n c : Nat) (ns : List Int), cs = [.slice A n c] ∧ Sl w w.heap.size K A n c (ns.map (Value.int .i64)) ∧ ns.length = n * K ∧ ∀ m ∈ ns, (Lit.int .i64 m).wf = true := by
  subst hK
  rcases Go.Deep.open_slice ht hx with ⟨rfl, _⟩ | ⟨a, n, c, m, q', D, Pl, rfl, hb, hl, hm, hmm, _, hi⟩
  · exact ⟨none, 0, 0, [], rfl, Sl.nil0 _ _ _, by simp, by simp⟩
  · have hnm : n ≤ m := by rw [hmm]; split <;> omega
    have key : ∀ i, i ≤ n → ∃ ns : List Int, ns.length = i * P.cellsOf e ∧ (∀ j u, (ns.map (Value.int .i64))[j]? = some u → w.cell? (a.add j) = some u) ∧ ∀ m ∈ ns, (Lit.int .i64 m).wf = true := by
      intro i
      induction i with
      | zero => exact fun _ => ⟨[], by simp, by simp, by simp⟩
      | succ i ih =>
        intro hin
        obtain ⟨ns, n1, n2, n3⟩ := ih (by omega)
        obtain ⟨cs', hc, htr⟩ := hi i (by omega)
        obtain ⟨_, hcl, hat⟩ := World.cells?_some hc
        obtain ⟨ms, e1, e2⟩ := ints_of_cells (flat_cell q hf htr)
        refine ⟨ns ++ ms, ?_, fun j u hu => ?_, fun x hx => ?_⟩
        · have hml : ms.length = P.cellsOf e := by rw [← hcl, e1]; simp
          rw [List.length_append, n1, hml, Nat.add_mul, Nat.one_mul]
        · rw [List.map_append] at hu
          by_cases hj : j < ns.length
          · rw [List.getElem?_append_left (by simpa using hj)] at hu
            exact n2 j u hu
          · rw [List.getElem?_append_right (by simpa using hj)] at hu
            have hjl : j - ns.length < P.cellsOf e := by
              have := (List.getElem?_eq_some_iff.1 hu).1
              rw [List.length_map] at this
              rw [← e1, hcl] at this
              simpa using this
            have := hat (j - ns.length) hjl
            rw [add_plus, n1] at this
            rw [show i * P.cellsOf e + (j - i * P.cellsOf e) = j from by omega] at this
            rw [this, e1, ← n1]
            simpa using hu
        · rcases List.mem_append.1 hx with hx | hx
          · exact n3 x hx
          · exact e2 x hx
    obtain ⟨ns, n1, n2, n3⟩ := key n (Nat.le_refl _)
    refine ⟨some a, n, c, ns, rfl, ⟨⟨by simpa using n1, fun hn => ⟨a, rfl, ?_, n2⟩⟩, hl, hm, fun h => by cases h⟩, n1, n3⟩
    have h0 : 0 < ns.length := by rw [n1]; exact Nat.mul_pos hn hpos
    have := n2 0 (.int .i64 ns[0]) (by simp)
    rw [add_zero_] at this
    exact block_lt_of_cell this
theorem open_hdr {w : World} {base b0 : Nat} {r : Reach} {spare : Nat → Bool} {held : Bool} {t e : TypeId} {f0 f1 : Field} {v : Value} {d : DataW H} {p : List MemPlace} (q : Nat) {K : Nat} (hs : P.underlying t = some (.struct #[f0, f1])) (hfo : (f0.offset == 0 && P.cellsOf f0.type == 1 && f1.offset == 1 && P.cellsOf f1.type == 1 && P.cellsOf t == 2) = true)
    (ht : P.underlying f0.type = some (.slice e)) (hi : P.underlying f1.type = some (.int .i64)) (hf : flatB P q e = true) (hK : P.cellsOf e = K) (hpos : 0 < K)
    (hv : Value.okWide P w r b0 t v) (h : DataW.Trod enc P w base spare held t v d p) :
    ∃ (A : Option Addr) (n c : Nat) (ns : List Int) (a : Int), v = .agg #[.slice A n c, .int .i64 a] ∧ Sl w w.heap.size K A n c (ns.map (Value.int .i64)) ∧ ns.length = n * K ∧ (∀ m ∈ ns, (Lit.int .i64 m).wf = true) ∧ (Lit.int .i64 a).wf = true := by
  simp only [Bool.and_eq_true, beq_iff_eq] at hfo
  obtain ⟨⟨⟨⟨o0, k0⟩, o1⟩, k1⟩, kt⟩ := hfo
  obtain ⟨cs, rfl, hsz⟩ := okWide_struct hs hv
  obtain ⟨fuel, hx⟩ := h
  obtain ⟨y0, y1, n, _, hl, t0, t1⟩ := trod_struct2 hs hx
  rw [o0, k0] at t0
  rw [o1, k1] at t1
  obtain ⟨l⟩ := cs
  rw [kt] at hsz
  have hl2 : l.length = 2 := hsz
  match l, hl2 with
  | [c0, c1], _ =>
    have e0 : ((Value.agg #[c0, c1]).cells.toList.drop 0).take 1 = [c0] := rfl
    have e1 : ((Value.agg #[c0, c1]).cells.toList.drop 1).take 1 = [c1] := rfl
    first | rw [e0] at t0 | (change DataW.trod enc P w base spare held n f0.type [c0] = some y0 at t0)
    first | rw [e1] at t1 | (change DataW.trod enc P w base spare held n f1.type [c1] = some y1 at t1)
    obtain ⟨A, n, c, ns, g1, g2, g3, g4⟩ := rows_of_trod q ht hf hK hpos t0
    obtain ⟨a, h1, _, h3⟩ := DataW.trod_int hi t1
    injection g1 with g1
    injection h1 with h1
    subst g1
    subst h1
    exact ⟨A, n, c, ns, a, rfl, g2, g3, g4, h3⟩
end Go.Proofs.Ytfdphpmcgidmiaa

/- An argument that is a struct of two slices of flat structs and of two ints (api.Plan), opened. No condition. -/
namespace Go.Proofs.Ytfdphpmcgidmiaa
open Go.ChangeShapes Go.WideShapes Go.ChangeAt Go.RowKit Go.Sort
set_option linter.unusedSimpArgs false
set_option linter.unusedVariables false
variable {H : Type} {enc : TypeId × Value → H} {P : Program}
theorem open_plan {w : World} {base b0 : Nat} {r : Reach} {spare : Nat → Bool} {held : Bool} {t e0 e1 : TypeId} {f0 f1 f2 f3 : Field} {v : Value} {d : DataW H} {p : List MemPlace} (q : Nat) {K0 K1 : Nat} (hs : P.underlying t = some (.struct #[f0, f1, f2, f3]))
    (hfo : (f0.offset == 0 && P.cellsOf f0.type == 1 && f1.offset == 1 && P.cellsOf f1.type == 1 && f2.offset == 2 && P.cellsOf f2.type == 1 && f3.offset == 3 && P.cellsOf f3.type == 1 && P.cellsOf t == 4) = true)
    (ht0 : P.underlying f0.type = some (.slice e0)) (ht1 : P.underlying f1.type = some (.slice e1)) (hi2 : P.underlying f2.type = some (.int .i64)) (hi3 : P.underlying f3.type = some (.int .i64)) (hf0 : flatB P q e0 = true) (hf1 : flatB P q e1 = true) (hK0 : P.cellsOf e0 = K0) (hpos0 : 0 < K0) (hK1 : P.cellsOf e1 = K1) (hpos1 : 0 < K1)
    (hv : Value.okWide P w r b0 t v) (h : DataW.Trod enc P w base spare held t v d p) :
    ∃ (A : Option Addr) (n c : Nat) (ns : List Int) (B : Option Addr) (m k : Nat) (ms : List Int) (x y : Int), v = .agg #[.slice A n c, .slice B m k, .int .i64 x, .int .i64 y] ∧
      Sl w w.heap.size K0 A n c (ns.map (Value.int .i64)) ∧ ns.length = n * K0 ∧ (∀ u ∈ ns, (Lit.int .i64 u).wf = true) ∧
      Sl w w.heap.size K1 B m k (ms.map (Value.int .i64)) ∧ ms.length = m * K1 ∧ (∀ u ∈ ms, (Lit.int .i64 u).wf = true) ∧ (Lit.int .i64 x).wf = true ∧ (Lit.int .i64 y).wf = true := by
  simp only [Bool.and_eq_true, beq_iff_eq] at hfo
  obtain ⟨⟨⟨⟨⟨⟨⟨⟨o0, k0⟩, o1⟩, k1⟩, o2⟩, k2⟩, o3⟩, k3⟩, kt⟩ := hfo
  obtain ⟨cs, rfl, hsz⟩ := okWide_struct hs hv
  obtain ⟨fuel, hx⟩ := h
  obtain ⟨y0, y1, y2, y3, n, _, hl, t0, t1, t2, t3⟩ := Go.Joins.trod_struct4 hs hx
  rw [o0, k0] at t0
  rw [o1, k1] at t1
  rw [o2, k2] at t2
  rw [o3, k3] at t3
  obtain ⟨l⟩ := cs
  rw [kt] at hsz
  have hl2 : l.length = 4 := hsz
  match l, hl2 with
  | [c0, c1, c2, c3], _ =>
    change DataW.trod enc P w base spare held n f0.type [c0] = some y0 at t0
    change DataW.trod enc P w base spare held n f1.type [c1] = some y1 at t1
    change DataW.trod enc P w base spare held n f2.type [c2] = some y2 at t2
    change DataW.trod enc P w base spare held n f3.type [c3] = some y3 at t3
    obtain ⟨A, n0, c, ns, g1, g2, g3, g4⟩ := rows_of_trod q ht0 hf0 hK0 hpos0 t0
    obtain ⟨B, m, k, ms, j1, j2, j3, j4⟩ := rows_of_trod q ht1 hf1 hK1 hpos1 t1
    obtain ⟨x, h1, _, h3⟩ := DataW.trod_int hi2 t2
    obtain ⟨y, i1, _, i3⟩ := DataW.trod_int hi3 t3
    injection g1 with g1
    injection j1 with j1
    injection h1 with h1
    injection i1 with i1
    subst g1 j1 h1 i1
    exact ⟨A, n0, c, ns, B, m, k, ms, x, y, rfl, g2, g3, g4, j2, j3, j4, h3, i3⟩
end Go.Proofs.Ytfdphpmcgidmiaa

/- A map that the call made, whatever its elements are: what it holds at each key, look-ups, stores. No condition. -/
namespace Go.Proofs.Ytfdphpmcgidmiaa
open Go.ChangeShapes Go.WideShapes Go.ChangeAt Go.RowKit Go.Sort
set_option linter.unusedSimpArgs false
set_option linter.unusedVariables false
open Go.Maps (Keyed)
set_option maxRecDepth 100000
def heldV (v : Value) : Option (DataW Value × List MemPlace) := some (.held v, [])
noncomputable def setS (S : Lit → Option Value) (kl : Lit) (v : Value) : Lit → Option Value := fun j => @ite _ (j = kl) (Classical.propDecidable _) (some v) (S j)
theorem setS_same (S : Lit → Option Value) (kl : Lit) (v : Value) : setS S kl v kl = some v := if_pos rfl
theorem setS_other (S : Lit → Option Value) {kl j : Lit} (v : Value) (h : j ≠ kl) : setS S kl v j = S j := if_neg h
/-- Block b is a map that the call made, of at most n stores, and holds S at each key. -/
def MapV (w : World) (k : TypeId) (b n : Nat) (S : Lit → Option Value) : Prop :=
  ∃ D : DataW Value, w.ownsMap Try.prog k heldV b n D ∧ ∀ kl, WideAt.IsKeyLit kl → Maps.has D kl = (S kl).isSome ∧ ∀ v, S kl = some v → ∀ z, D.atKey kl z = .held v
theorem MapV.made (w : World) (k : TypeId) : MapV (w.alloc (.map #[] 0)) k w.heap.size 0 (fun _ => none) :=
  ⟨.map [], World.ownsMap_made _ _ _ _, fun kl _ => ⟨rfl, fun v h => by cases h⟩⟩
theorem MapV.lt {w : World} {k : TypeId} {b n : Nat} {S : Lit → Option Value} (h : MapV w k b n S) : b < w.heap.size := let ⟨_, h, _⟩ := h; h.lt
theorem MapV.kept {w w' : World} {k : TypeId} {b n : Nat} {S : Lit → Option Value} {row : Option Nat} (h : MapV w k b n S) (hg : w.grownBy w' row) (hne : some b ≠ row) : MapV w' k b n S := let ⟨D, h1, h2⟩ := h; ⟨D, h1.kept hg hne, h2⟩
theorem MapV.below {w w' : World} {k : TypeId} {b n : Nat} {S : Lit → Option Value} (h : MapV w k b n S) (hb : Below w.heap.size w w') : MapV w' k b n S := h.kept (grown_of_below (row := none) hb) (by simp)
theorem MapV.alloc {w : World} {k : TypeId} {b n : Nat} {S : Lit → Option Value} (h : MapV w k b n S) (o : Obj) : MapV (w.alloc o) k b n S := let ⟨D, h1, h2⟩ := h; ⟨D, h1.alloc o, h2⟩
theorem MapV.drew {w : World} {k : TypeId} {b n : Nat} {S : Lit → Option Value} (h : MapV w k b n S) : MapV w.drew k b n S := h
theorem MapV.congr {w : World} {k : TypeId} {b n : Nat} {S S' : Lit → Option Value} (h : MapV w k b n S) (e : ∀ kl, S kl = S' kl) : MapV w k b n S' := by
  have : S = S' := funext e
  rw [← this]; exact h
theorem MapV.look {w : World} {k t e : TypeId} {b n : Nat} {S : Lit → Option Value} (h : MapV w k b n S) (K : Keyed Try.prog k) (ht : Try.prog.underlying t = some (.map k e)) {z : Value} (hz : (zeroValue e).run Try.prog w = .ok z w) {key : Value} {kl : Lit} (hkey : keyOf Try.prog k key = some kl) (hl : WideAt.IsKeyLit kl) :
    (Instr.lookup t (.map (some b)) key false).run Try.prog w = .ok ((S kl).getD z) w := by
  obtain ⟨D, h1, h2⟩ := h
  obtain ⟨v, ps, hrun, hv⟩ := h1.lookup K ht hz (z := z) (zd := .held z) (zp := []) rfl hkey
  obtain ⟨g1, g2⟩ := h2 kl hl
  simp only [heldV, Option.some.injEq, Prod.mk.injEq] at hv
  rw [hrun]
  cases hs : S kl with
  | none =>
    rw [hs] at g1
    rw [Maps.atKey_of_not_has g1] at hv
    injection hv.1 with hv
    rw [hv]; rfl
  | some x =>
    rw [g2 x hs] at hv
    injection hv.1 with hv
    rw [hv]; rfl
theorem MapV.look_ok {w : World} {k t e : TypeId} {b n : Nat} {S : Lit → Option Value} (h : MapV w k b n S) (K : Keyed Try.prog k) (ht : Try.prog.underlying t = some (.map k e)) {z : Value} (hz : (zeroValue e).run Try.prog w = .ok z w) {key : Value} {kl : Lit} (hkey : keyOf Try.prog k key = some kl) (hl : WideAt.IsKeyLit kl) :
    (Instr.lookup t (.map (some b)) key true).run Try.prog w = .ok (.tuple #[(S kl).getD z, .bool (S kl).isSome]) w := by
  obtain ⟨D, h1, h2⟩ := h
  obtain ⟨v, ps, hrun, hv⟩ := h1.look_ok K ht hz (z := z) (zd := .held z) (zp := []) rfl hkey
  obtain ⟨g1, g2⟩ := h2 kl hl
  simp only [heldV, Option.some.injEq, Prod.mk.injEq] at hv
  rw [hrun, g1]
  cases hs : S kl with
  | none =>
    rw [hs] at g1
    rw [Maps.atKey_of_not_has g1] at hv
    injection hv.1 with hv
    rw [hv]; rfl
  | some x =>
    rw [g2 x hs] at hv
    injection hv.1 with hv
    rw [hv]; rfl
theorem MapV.put {w : World} {k t e : TypeId} {b n : Nat} {S : Lit → Option Value} (h : MapV w k b n S) (K : Keyed Try.prog k) (ht : Try.prog.underlying t = some (.map k e)) (hn : n < maxLen) {key : Value} {kl : Lit} (hkey : keyOf Try.prog k key = some kl) (hl : WideAt.IsKeyLit kl) (v : Value) :
    ∃ w', (Instr.mapUpdate t (.map (some b)) key v).run Try.prog w = .ok () w' ∧ MapV w' k b (n + 1) (setS S kl v) ∧ w.grownBy w' (some b) := by
  obtain ⟨D, h1, h2⟩ := h
  have hm := h1.isMap
  obtain ⟨w', hrun, hown, ht2⟩ := h1.store K ht hn hkey (val := v) (d := .held v) (ps := []) rfl
  refine ⟨w', hrun, ⟨_, hown, fun j hj => ?_⟩, ht2.grown⟩
  by_cases e : j = kl
  · subst e
    rw [Maps.has_put_same hm hj]
    rw [setS_same]
    refine ⟨by simp, fun x hx z => ?_⟩
    rw [Maps.atKey_put_same hm hj]
    simp only [Option.some.injEq] at hx
    rw [hx]
  · rw [Maps.has_put_other e]
    rw [setS_other _ _ e]
    refine ⟨(h2 j hj).1, fun x hx z => ?_⟩
    rw [Maps.atKey_put_other e]
    exact (h2 j hj).2 x hx z
theorem MapV.len {w : World} {k t e : TypeId} {b n : Nat} {S : Lit → Option Value} (h : MapV w k b n S) (ht : Try.prog.underlying t = some (.map k e)) (ty : TypeId) :
    ∃ q : Nat, (Builtin.len_ #[t] ty #[.map (some b)]).run Try.prog w = .ok (.int .i64 q) w ∧ q ≤ n ∧ ∀ kl, WideAt.IsKeyLit kl → (S kl).isSome = true → 0 < q := by
  obtain ⟨D, h1, h2⟩ := h
  refine ⟨_, h1.len ht ty, h1.size_le, fun kl hl hs => ?_⟩
  rw [← (h2 kl hl).1] at hs
  obtain ⟨es, rfl⟩ := h1.isMap
  rw [Maps.has_eq] at hs
  rw [Maps.size_eq]
  cases es with
  | nil => simp at hs
  | cons x r => simp
theorem keyI (k : Int) (hk : (Lit.int .i64 k).wf = true) : keyOf Try.prog 3 (.int .i64 k) = some (.int .i64 k) := Maps.keyOf_int_mk Try.underlying3 hk
theorem keyedV : Keyed Try.prog 3 := Maps.int_keyed Try.underlying3
theorem isKeyI (k : Int) : WideAt.IsKeyLit (.int .i64 k) := by simp [WideAt.IsKeyLit]
/-- 'make(map)', with a hint or without: the run. -/
theorem wpList_look_map {ops : Array Oper} {rest : List Oper} {o : Oper} {a : Act} {w : World} {Q : Exit → Act → World → Prop} (hg : o.guard = none) (m x : Operand) (t : TypeId) (hop : o.op = Op.lookup t m x false) (k e : TypeId) (b n : Nat) (S : Lit → Option Value)
    (hm : a.eval m = .map (some b)) (h : MapV w k b n S) (K : Keyed Try.prog k) (ht : Try.prog.underlying t = some (.map k e)) {z : Value} (hz : (zeroValue e).run Try.prog w = .ok z w) (key : Value) (kl : Lit) (hx : a.eval x = key) (hkey : keyOf Try.prog k key = some kl) (hl : WideAt.IsKeyLit kl)
    (v : Value) (hv : (S kl).getD z = v) (hK : wpList Try.prog ops Q rest (a.put o.dst v) w) : wpList Try.prog ops Q (o :: rest) a w := by
  refine wpList_plain hg fun K' hK' => ?_
  subst hv
  unfold Oper.wp
  simp [execOp, hop, hm, hx, h.look K ht hz hkey hl, Result.andThen]
  exact hK' _ _ hK
theorem wpList_lookok_map {ops : Array Oper} {rest : List Oper} {o : Oper} {a : Act} {w : World} {Q : Exit → Act → World → Prop} (hg : o.guard = none) (m x : Operand) (t : TypeId) (hop : o.op = Op.lookup t m x true) (k e : TypeId) (b n : Nat) (S : Lit → Option Value)
    (hm : a.eval m = .map (some b)) (h : MapV w k b n S) (K : Keyed Try.prog k) (ht : Try.prog.underlying t = some (.map k e)) {z : Value} (hz : (zeroValue e).run Try.prog w = .ok z w) (key : Value) (kl : Lit) (hx : a.eval x = key) (hkey : keyOf Try.prog k key = some kl) (hl : WideAt.IsKeyLit kl)
    (v : Value) (hv : (S kl).getD z = v) (c : Bool) (hc : (S kl).isSome = c) (hK : wpList Try.prog ops Q rest (a.put o.dst (.tuple #[v, .bool c])) w) : wpList Try.prog ops Q (o :: rest) a w := by
  refine wpList_plain hg fun K' hK' => ?_
  subst hv
  subst hc
  unfold Oper.wp
  simp [execOp, hop, hm, hx, h.look_ok K ht hz hkey hl, Result.andThen]
  exact hK' _ _ hK
theorem wpList_put_map {ops : Array Oper} {rest : List Oper} {o : Oper} {a : Act} {w : World} {Q : Exit → Act → World → Prop} (hg : o.guard = none) (m x y : Operand) (t : TypeId) (hop : o.op = Op.mapUpdate t m x y) (k e : TypeId) (b n : Nat) (S : Lit → Option Value)
    (hm : a.eval m = .map (some b)) (h : MapV w k b n S) (K : Keyed Try.prog k) (ht : Try.prog.underlying t = some (.map k e)) (hn : n < maxLen) (key : Value) (kl : Lit) (hx : a.eval x = key) (hkey : keyOf Try.prog k key = some kl) (hl : WideAt.IsKeyLit kl)
    (v : Value) (hy : a.eval y = v)
    (hK : ∀ w', MapV w' k b (n + 1) (setS S kl v) → w.grownBy w' (some b) → wpList Try.prog ops Q rest (a.put o.dst undef) w') : wpList Try.prog ops Q (o :: rest) a w := by
  refine wpList_plain hg fun K' hK' => ?_
  obtain ⟨w', hrun, h1, h2⟩ := h.put K ht hn hkey hl v
  unfold Oper.wp
  simp [execOp, hop, hm, hx, hy, hrun, Result.andThen]
  exact hK' _ _ (hK w' h1 h2)
end Go.Proofs.Ytfdphpmcgidmiaa

/- The document's own sameness of rows of ints. No condition. -/
namespace Go.Proofs.Ytfdphpmcgidmiaa
open Go.ChangeShapes Go.WideShapes Go.ChangeAt Go.RowKit Go.Sort
set_option linter.unusedSimpArgs false
set_option linter.unusedVariables false
theorem intAt {l : List Int} {k : Nat} (h : k < l.length) : (l.map (Value.int .i64))[k]? = some (.int .i64 (l.getD k 0)) := by
  rw [List.getElem?_map, List.getElem?_eq_getElem h, List.getD_eq_getElem?_getD, List.getElem?_eq_getElem h]; rfl
theorem Lst.atI {w : World} {B : Nat} {A : Option Addr} {n : Nat} {l : List Int} (h : Lst w B 1 A n (l.map (Value.int .i64))) (hl : l.length = n) {k : Nat} (hk : k < n) : ∃ ad, A = some ad ∧ ad.block < B ∧ w.cell? (ad.add k) = some (.int .i64 (l.getD k 0)) := by
  obtain ⟨ad, e, hb, hc⟩ := h.at_ (by omega)
  exact ⟨ad, e, hb, hc _ _ (intAt (by omega))⟩
theorem extI {a b : List Int} (hl : a.length = b.length) (h : ∀ i, i < a.length → a.getD i 0 = b.getD i 0) : a = b := by
  refine List.ext_getElem hl fun i h1 h2 => ?_
  have := h i h1
  rw [List.getD_eq_getElem?_getD, List.getElem?_eq_getElem h1, List.getD_eq_getElem?_getD, List.getElem?_eq_getElem h2] at this
  exact this
end Go.Proofs.Ytfdphpmcgidmiaa

/- IndexFunc and DeleteFunc at 28-rows, the closure with a state of its own. -/
namespace Go.Proofs.Ytfdphpmcgidmiaa.Kc
open Go.ChangeShapes Go.WideShapes Go.ChangeAt Go.RowKit Go.Sort
set_option linter.unusedSimpArgs false
set_option linter.unusedVariables false
theorem own_same {w w' : World} {base : Nat} {e : TypeId} {size g n c : Nat} {xs : List Value} (h : w.ownsRow base e size (.slice (some ⟨g, 0, none⟩) n c) n xs) (hh : w'.heap[g]? = w.heap[g]?) : w'.ownsRow base e size (.slice (some ⟨g, 0, none⟩) n c) n xs := by
  refine ⟨h.1, ?_⟩
  rcases h.2 with hx | ⟨g', cap, cur, h1, h2, h3, rest⟩
  · exact .inl hx
  · simp only [Value.slice.injEq, Option.some.injEq, Addr.mk.injEq, and_true, true_and] at h1
    obtain ⟨rfl, rfl⟩ := h1
    exact .inr ⟨g, c, cur, rfl, h2, hh.trans h3, rest⟩
/-- A closure that tells p of the k-th of d when it is asked in a world of state k, and leaves one of state k + 1; below base nothing turns, nor does block g0; the state holds on while g0 is written, and behind new blocks. -/
structure PredS (g : FuncId) (lb : Array Value) (g0 base : Nat) (d : List Co) (p : Co → Bool) (R : Nat → World → Prop) : Prop where
  run : ∀ vals w, (callFunc g vals).run Try.prog w = .ok (.enter g vals) w
  tells : ∀ k, k < d.length → ∀ W w', R k W → Below W.heap.size W w' → g0 < W.heap.size → base ≤ W.heap.size → Calls Try.prog g (#[.agg #[.int .i64 (gCo d k).id, .int .i64 (gCo d k).fr, .int .i64 (gCo d k).tn, .int .i64 (gCo d k).st, .int .i64 (gCo d k).en, .int .i64 (gCo d k).rt]] ++ lb) w' fun e w'' => e = .returned (.bool (p (gCo d k))) ∧ R (k + 1) w'' ∧ Below base w' w'' ∧ w''.heap[g0]? = w'.heap[g0]? ∧ (∀ b, W.heap.size ≤ b → b < w'.heap.size → w''.heap[b]? = w'.heap[b]?)
  stay : ∀ k w w', R k w → w.grownBy w' (some g0) → R k w'
def qNext (q n : Nat) : Nat := if q < n then q + 1 else n
set_option maxHeartbeats 1000000 in
set_option maxRecDepth 100000 in
theorem indexS (g0 n c : Nat) (d : List Co) (g : FuncId) (lb : Array Value) (base : Nat) (p : Co → Bool) (R : Nat → World → Prop) (w : World) (hd : d.length = n) (hn : n ≤ 1000000) (hown : w.ownsRow base 28 6 (.slice (some ⟨g0, 0, none⟩) n c) n (flatCo d)) (hgl : g0 < w.heap.size) (hbs : base ≤ w.heap.size) (hp : PredS g lb g0 base d p R) (hR : R 0 w) (q : Nat) (hq : q ≤ n) (hlow : ∀ j, j < q → p (gCo d j) = false) (hhit : q < n → p (gCo d q) = true) :
    Calls Try.prog 53 #[.slice (some ⟨g0, 0, none⟩) n c, .func (.func g) #[] lb] w fun e w' => e = .returned (.int .i64 (idxOf q n)) ∧ R (qNext q n) w' ∧ Below base w w' ∧ w'.heap[g0]? = w.heap[g0]? := by
  have HL := Lib.hid hlow
  have HH := Lib.hid hhit
  have HP := Lib.hid hp
  have HR := Lib.hid hR
  have HD := Lib.hid hd
  have hcf := hp.run
  clear hlow hhit hp hR
  go_enter Try.func53, Try.ntmps53
  go_wp2
  go_loopw [8] (fun i wr => ∃ k : Nat, k ≤ q ∧ i = .int .i64 k ∧ Hid (R k wr) ∧ Below base w wr ∧ Hid (wr.heap[g0]? = w.heap[g0]?)) (fun i _ => n - (intOf i).toNat)
  case atStart => exact ⟨0, by omega, rfl, HR.out, Below.refl _ _, rfl⟩
  case round =>
    obtain ⟨k, hk, rfl, HRk, hB, HG⟩ := hrel
    have hs := hB.size
    have hgw : g0 < wr.heap.size := by omega
    by_cases hkn : k < n
    · have hownk := own_same hown HG.out
      obtain ⟨c0, c1, c2, c3, c4, c5⟩ := ownCo_at hownk HD.out hkn
      have ht0 := HP.out.tells k (by have := HD.out; omega) wr wr HRk.out (Below.refl _ _) hgw (by omega)
      clear hownk
      by_cases hkq : k < q
      · have hf := HL.out k hkq
        rw [hf] at ht0
        have HT := Lib.hid ht0
        generalize gCo d k = x at *
        clear hf ht0
        go_wp2_with fail
        refine HT.out.mono ?_
        rintro e w1 ⟨rfl, hr1, hb1, hg1, _⟩
        have hB2 := hB.trans hb1
        have HR1 := Lib.hid hr1
        have HG1 : Hid (w1.heap[g0]? = w.heap[g0]?) := hg1.trans HG.out
        clear hb1 hB hr1 hg1 c0 c1 c2 c3 c4 c5 hs HT
        go_wp2
        go_roundw
        case rel => exact ⟨k + 1, by omega, by go_num, HR1.out, hB2, HG1⟩
        case measure => simp [intOf]; omega
      · obtain rfl : k = q := by omega
        have hf := HH.out hkn
        rw [hf] at ht0
        have HT := Lib.hid ht0
        generalize gCo d k = x at *
        clear hf ht0
        go_wp2_with fail
        refine HT.out.mono ?_
        rintro e w1 ⟨rfl, hr1, hb1, hg1, _⟩
        have hB2 := hB.trans hb1
        have HR1 := Lib.hid hr1
        have HG1 : Hid (w1.heap[g0]? = w.heap[g0]?) := hg1.trans HG.out
        clear hb1 hB hr1 hg1 c0 c1 c2 c3 c4 c5 hs HT
        go_wp2
        go_ret
        exact ⟨by rw [idxOf_yes hkn]; rfl, by unfold qNext; rw [if_pos hkn]; exact HR1.out, hB2, HG1.out⟩
    · go_wp2
      go_ret
      exact ⟨by rw [idxOf_no (by omega)]; rfl, by unfold qNext; rw [if_neg (by omega)]; (have e : n = k := by omega); rw [e]; exact HRk.out, hB, HG.out⟩
set_option maxRecDepth 100000 in
theorem index0 (A : Option Addr) (c : Nat) (g : FuncId) (lb : Array Value) (w : World) (hcf : ∀ vals w, (callFunc g vals).run Try.prog w = .ok (.enter g vals) w) :
    Calls Try.prog 53 #[.slice A 0 c, .func (.func g) #[] lb] w fun e w' => e = .returned (.int .i64 (-1)) ∧ w = w' := by
  go_enter Try.func53, Try.ntmps53
  go_wp2
  go_loop [8] (fun i => i = .int .i64 0) (fun _ => 0)
  case atStart => rfl
  case round =>
    subst hrel
    go_wp2
    go_ret
    exact ⟨rfl, rfl⟩
end Go.Proofs.Ytfdphpmcgidmiaa.Kc

/- Package contacts: Compare, overlap, has, the closures. No condition. -/
namespace Go.Proofs.Ytfdphpmcgidmiaa.Kc
open Go.ChangeShapes Go.WideShapes Go.ChangeAt Go.RowKit Go.Sort
set_option linter.unusedSimpArgs false
set_option linter.unusedVariables false
def cmpC (a b : Co) : Int := orF [cmpI a.fr b.fr, cmpI a.tn b.tn, cmpI a.st b.st, cmpI a.id b.id]
set_option maxHeartbeats 2000000 in
set_option maxRecDepth 100000 in
theorem cmpC_any (a b : Co) (w : World) : Calls Try.prog 75 #[.agg #[.int .i64 a.id, .int .i64 a.fr, .int .i64 a.tn, .int .i64 a.st, .int .i64 a.en, .int .i64 a.rt], .agg #[.int .i64 b.id, .int .i64 b.fr, .int .i64 b.tn, .int .i64 b.st, .int .i64 b.en, .int .i64 b.rt]] w fun e w' => e = .returned (.int .i64 (cmpC a b)) ∧ Below w.heap.size w w' := by
  obtain ⟨p, hp⟩ : ∃ p, cmpI a.fr b.fr = p := ⟨_, rfl⟩
  obtain ⟨q, hq⟩ : ∃ q, cmpI a.tn b.tn = q := ⟨_, rfl⟩
  obtain ⟨r, hr⟩ : ∃ r, cmpI a.st b.st = r := ⟨_, rfl⟩
  obtain ⟨s, hs⟩ : ∃ s, cmpI a.id b.id = s := ⟨_, rfl⟩
  have hfin : cmpC a b = orF [p, q, r, s] := by rw [← hp, ← hq, ← hr, ← hs]; rfl
  have HP := Lib.hid hp
  have HQ := Lib.hid hq
  have HR := Lib.hid hr
  have HS := Lib.hid hs
  rw [hfin]
  clear hp hq hr hs hfin
  go_enter Try.func75, Try.ntmps75
  go_wp2_with fail
  refine wp_region_still_tail 20 (by kernel_rfl) (by kernel_rfl) ?_
  change wpStill _ _ (World.drew _) (fun a' => wpList _ _ _ _ a' (World.drew _)) _ _
  simp only [List.take_succ_cons, List.take_zero, List.drop_succ_cons, List.drop_zero]
  repeat still_step
  still_call ((HP.out ▸ cmp_any a.fr b.fr _).mono fun _ _ h => ⟨h.1, h.2.symm⟩)
  repeat still_step
  still_call ((HQ.out ▸ cmp_any a.tn b.tn _).mono fun _ _ h => ⟨h.1, h.2.symm⟩)
  repeat still_step
  still_call ((HR.out ▸ cmp_any a.st b.st _).mono fun _ _ h => ⟨h.1, h.2.symm⟩)
  repeat still_step
  still_call ((HS.out ▸ cmp_any a.id b.id _).mono fun _ _ h => ⟨h.1, h.2.symm⟩)
  refine wpStill_nil ?_
  have hB : Below w.heap.size w (((w.alloc (.cells #[.int .i64 a.id, .int .i64 a.fr, .int .i64 a.tn, .int .i64 a.st, .int .i64 a.en, .int .i64 a.rt] 28)).alloc (.cells #[.int .i64 b.id, .int .i64 b.fr, .int .i64 b.tn, .int .i64 b.st, .int .i64 b.en, .int .i64 b.rt] 28)).drew) := by (repeat (first | exact Below.refl _ _ | refine Below.alloc ?_ (by first | omega | (simp; done) | (simp; omega)) _ | refine Below.setCell ?_ (by first | omega | (simp; done) | (simp; omega)) _ | refine Below.drew ?_))
  have hs := hB.size
  generalize (((w.alloc (.cells #[.int .i64 a.id, .int .i64 a.fr, .int .i64 a.tn, .int .i64 a.st, .int .i64 a.en, .int .i64 a.rt] 28)).alloc (.cells #[.int .i64 b.id, .int .i64 b.fr, .int .i64 b.tn, .int .i64 b.st, .int .i64 b.en, .int .i64 b.rt] 28)).drew) = w2 at *
  go_wp2_with fail
  have hX := Blok.new w2 3 #[.int .i64 p, .int .i64 q, .int .i64 r, .int .i64 s]
  refine (or_any w2.heap.size 4 4 [p, q, r, s] _ rfl (by omega) (fun k hk => by
    have hc := hX.cell k
    have hk2 : k = 0 ∨ k = 1 ∨ k = 2 ∨ k = 3 := by omega
    rcases hk2 with rfl | rfl | rfl | rfl <;> exact hc)).mono ?_
  rintro e w3 ⟨rfl, rfl⟩
  go_wp2
  go_ret
  exact ⟨rfl, hB.alloc hs _⟩
def ltC (a b : Co) : Prop := a.fr < b.fr ∨ a.fr = b.fr ∧ (a.tn < b.tn ∨ a.tn = b.tn ∧ (a.st < b.st ∨ a.st = b.st ∧ a.id < b.id))
theorem cmpI_spec (a b : Int) : (a < b ∧ cmpI a b = -1) ∨ (a = b ∧ cmpI a b = 0) ∨ (b < a ∧ cmpI a b = 1) := by
  rcases Int.lt_trichotomy a b with h | h | h
  · exact .inl ⟨h, cmpI_lt h⟩
  · exact .inr (.inl ⟨h, cmpI_zero.2 h⟩)
  · exact .inr (.inr ⟨h, cmpI_gt h⟩)
theorem cmpC_spec (a b : Co) : (ltC a b ∧ cmpC a b = -1) ∨ (a.fr = b.fr ∧ a.tn = b.tn ∧ a.st = b.st ∧ a.id = b.id ∧ cmpC a b = 0) ∨ (ltC b a ∧ cmpC a b = 1) := by
  unfold cmpC ltC
  rcases cmpI_spec a.fr b.fr with ⟨h1, e1⟩ | ⟨h1, e1⟩ | ⟨h1, e1⟩ <;> rcases cmpI_spec a.tn b.tn with ⟨h2, e2⟩ | ⟨h2, e2⟩ | ⟨h2, e2⟩ <;> rcases cmpI_spec a.st b.st with ⟨h3, e3⟩ | ⟨h3, e3⟩ | ⟨h3, e3⟩ <;> rcases cmpI_spec a.id b.id with ⟨h4, e4⟩ | ⟨h4, e4⟩ | ⟨h4, e4⟩ <;>
    simp only [e1, e2, e3, e4, orF] <;> simp <;> omega
def overC (a b : Co) : Bool := decide (a.fr = b.fr ∧ a.tn = b.tn ∧ a.st < b.en ∧ b.st < a.en)
set_option maxHeartbeats 2000000 in
set_option maxRecDepth 100000 in
theorem overC_any (a b : Co) (w : World) : Calls Try.prog 76 #[.agg #[.int .i64 a.id, .int .i64 a.fr, .int .i64 a.tn, .int .i64 a.st, .int .i64 a.en, .int .i64 a.rt], .agg #[.int .i64 b.id, .int .i64 b.fr, .int .i64 b.tn, .int .i64 b.st, .int .i64 b.en, .int .i64 b.rt]] w fun e w' => e = .returned (.bool (overC a b)) ∧ Below w.heap.size w w' := by
  obtain ⟨b1, e1⟩ : ∃ t, (a.fr == b.fr) = t := ⟨_, rfl⟩
  obtain ⟨b2, e2⟩ : ∃ t, (a.tn == b.tn) = t := ⟨_, rfl⟩
  obtain ⟨b3, e3⟩ : ∃ t, decide (a.st < b.en) = t := ⟨_, rfl⟩
  obtain ⟨b4, e4⟩ : ∃ t, decide (b.st < a.en) = t := ⟨_, rfl⟩
  have hres : overC a b = (b1 && (b2 && (b3 && b4))) := by rw [← e1, ← e2, ← e3, ← e4]; unfold overC; rw [Bool.eq_iff_iff]; simp
  rw [hres]
  clear hres
  cases b1 <;> cases b2 <;> cases b3 <;> cases b4
  all_goals
    go_enter Try.func76, Try.ntmps76
    go_wp2
    go_ret
    exact ⟨rfl, by (repeat (first | exact Below.refl _ _ | refine Below.alloc ?_ (by first | omega | (simp; done) | (simp; omega)) _ | refine Below.setCell ?_ (by first | omega | (simp; done) | (simp; omega)) _ | refine Below.drew ?_))⟩
set_option maxRecDepth 100000 in
theorem has1_any (x : Co) (id : Int) (g : Nat) (w : World) (hR : Blok w g 3 #[.int .i64 id]) : Calls Try.prog 81 #[.agg #[.int .i64 x.id, .int .i64 x.fr, .int .i64 x.tn, .int .i64 x.st, .int .i64 x.en, .int .i64 x.rt], .pointer (some ⟨g, 0, none⟩)] w fun e w' => e = .returned (.bool (x.id == id)) ∧ Below w.heap.size w w' := by
  have r0 : w.cell? ⟨g, 0, none⟩ = some (.int .i64 id) := hR.cell 0
  have hl := hR.lt
  clear hR
  go_enter Try.func81, Try.ntmps81
  go_wp2
  all_goals go_ret
  all_goals exact ⟨rfl, by (repeat (first | exact Below.refl _ _ | refine Below.alloc ?_ (by first | omega | (simp; done) | (simp; omega)) _ | refine Below.setCell ?_ (by first | omega | (simp; done) | (simp; omega)) _ | refine Below.drew ?_))⟩
set_option maxRecDepth 100000 in
theorem has_any (id : Int) (w : World) : Calls Try.prog 54 #[.int .i64 id] w fun e w' => ∃ g, e = .returned (.func (.func 81) #[] #[.pointer (some ⟨g, 0, none⟩)]) ∧ Blok w' g 3 #[.int .i64 id] ∧ w.heap.size ≤ g ∧ Below w.heap.size w w' := by
  go_enter Try.func54, Try.ntmps54
  go_wp2
  go_ret
  exact ⟨w.heap.size, rfl, Blok.new w _ _, Nat.le_refl _, by (repeat (first | exact Below.refl _ _ | refine Below.alloc ?_ (by first | omega | (simp; done) | (simp; omega)) _ | refine Below.setCell ?_ (by first | omega | (simp; done) | (simp; omega)) _ | refine Below.drew ?_))⟩
theorem pred_has (id : Int) (g : Nat) (row : Option Nat) (w : World) (hR : Blok w g 3 #[.int .i64 id]) (hr : row ≠ some g) : PredCo 81 #[.pointer (some ⟨g, 0, none⟩)] row w (fun x => x.id == id) :=
  ⟨enter_run Try.func81 rfl rfl, fun w' hg x => has1_any x id g w' (hR.grown hg (fun e => hr e.symm))⟩
theorem cmp_contacts (t : Co) (w : World) : CmpCo 75 #[] t w (fun x => cmpC x t) :=
  ⟨enter_run Try.func75 rfl rfl, fun w' _ x => cmpC_any x t w'⟩
end Go.Proofs.Ytfdphpmcgidmiaa.Kc

/- Package contacts: Same, Find, Delete, mayAdd. No condition. -/
namespace Go.Proofs.Ytfdphpmcgidmiaa.Kc
open Go.ChangeShapes Go.WideShapes Go.ChangeAt Go.RowKit Go.Sort
set_option linter.unusedSimpArgs false
set_option linter.unusedVariables false
def delCode (q n : Nat) : Int := if q = n then 6 else 0
set_option maxHeartbeats 1000000 in
set_option maxRecDepth 100000 in
theorem find_yes (A : Option Addr) (n c : Nat) (d : List Co) (id : Int) (w : World) (q : Nat) (hd : d.length = n) (hn : n ≤ 1000000) (h : Sl w w.heap.size 6 A n c (flatCo d)) (hqn : q < n) (hq : ∀ j, j < q → ((gCo d j).id == id) = false) (hh : ((gCo d q).id == id) = true) :
    Calls Try.prog 26 #[.slice A n c, .int .i64 id] w fun e w' => e = .returned (.tuple #[.agg #[.int .i64 (gCo d q).id, .int .i64 (gCo d q).fr, .int .i64 (gCo d q).tn, .int .i64 (gCo d q).st, .int .i64 (gCo d q).en, .int .i64 (gCo d q).rt], .bool true]) ∧ Below w.heap.size w w' := by
  obtain ⟨ad, rfl, -⟩ := h.lst.atCo hd hqn
  obtain ⟨x, hx⟩ : ∃ x, gCo d q = x := ⟨_, rfl⟩
  rw [hx]
  have hBa : Below w.heap.size w (w.alloc (.cells #[.int .i64 0, .int .i64 0, .int .i64 0, .int .i64 0, .int .i64 0, .int .i64 0] 28)) := by (repeat (first | exact Below.refl _ _ | refine Below.alloc ?_ (by first | omega | (simp; done) | (simp; omega)) _ | refine Below.setCell ?_ (by first | omega | (simp; done) | (simp; omega)) _ | refine Below.drew ?_))
  have hX := Blok.new w 28 #[.int .i64 0, .int .i64 0, .int .i64 0, .int .i64 0, .int .i64 0, .int .i64 0]
  have hs := h.up hBa
  have hcap := h.cap
  have HD := Lib.hid hd
  have HQ := Lib.hid hq
  have HH := Lib.hid hh
  have HX := Lib.hid hx
  clear h hd hq hh hx
  go_enter Try.func26, Try.ntmps26
  go_wp2_with fail
  generalize w.alloc (.cells #[.int .i64 0, .int .i64 0, .int .i64 0, .int .i64 0, .int .i64 0, .int .i64 0] 28) = w2 at *
  refine (has_any id w2).mono ?_
  rintro e w3 ⟨g, rfl, hG, hg0, hbb⟩
  replace hs := hs.up hbb
  replace hX := hX.below hbb hX.lt
  replace hBa := hBa.trans (hbb.mono hBa.size)
  clear hbb hg0
  go_wp2_with fail
  refine (indexCo (some ad) n c d _ _ none _ w3 HD.out hn hs (pred_has id g none w3 hG (by simp)) q (by omega) HQ.out (fun _ => HH.out)).mono ?_
  rintro e w5 ⟨rfl, hb5⟩
  rw [idxOf_yes hqn]
  replace hs := hs.up hb5
  replace hX := hX.below hb5 hX.lt
  replace hBa := hBa.trans (hb5.mono hBa.size)
  clear hb5 hG
  obtain ⟨ad', he, hab, c0, c1, c2, c3, c4, c5⟩ := hs.lst.atCo HD.out hqn
  injection he with he
  subst he
  rw [HX.out] at c0 c1 c2 c3 c4 c5
  have r0 : w5.cell? ⟨w.heap.size, 0, none⟩ = some (.int .i64 0) := hX.cell 0
  have r1 : w5.cell? ⟨w.heap.size, 1, none⟩ = some (.int .i64 0) := hX.cell 1
  have r2 : w5.cell? ⟨w.heap.size, 2, none⟩ = some (.int .i64 0) := hX.cell 2
  have r3 : w5.cell? ⟨w.heap.size, 3, none⟩ = some (.int .i64 0) := hX.cell 3
  have r4 : w5.cell? ⟨w.heap.size, 4, none⟩ = some (.int .i64 0) := hX.cell 4
  have r5 : w5.cell? ⟨w.heap.size, 5, none⟩ = some (.int .i64 0) := hX.cell 5
  have f0 := hX.free 0
  have f1 := hX.free 1
  have f2 := hX.free 2
  have f3 := hX.free 3
  have f4 := hX.free 4
  have f5 := hX.free 5
  have hlt := hX.lt
  have hq0 : (0 : Int) ≤ (q : Int) := by omega
  have hqI : (q : Int) < (n : Int) := by omega
  have HXX := Lib.hid hX
  clear hs hX
  go_wp2
  have hX := HXX.out
  clear r0 r1 r2 r3 r4 r5
  have hF : Blok ((((((w5.setCell ⟨w.heap.size, 0, none⟩ (.int .i64 x.id)).setCell ⟨w.heap.size, 1, none⟩ (.int .i64 x.fr)).setCell ⟨w.heap.size, 2, none⟩ (.int .i64 x.tn)).setCell ⟨w.heap.size, 3, none⟩ (.int .i64 x.st)).setCell ⟨w.heap.size, 4, none⟩ (.int .i64 x.en)).setCell ⟨w.heap.size, 5, none⟩ (.int .i64 x.rt)) w.heap.size 28 #[.int .i64 x.id, .int .i64 x.fr, .int .i64 x.tn, .int .i64 x.st, .int .i64 x.en, .int .i64 x.rt] := by have h := ((((((hX.set_ 0 (.int .i64 x.id)).set_ 1 (.int .i64 x.fr)).set_ 2 (.int .i64 x.tn)).set_ 3 (.int .i64 x.st)).set_ 4 (.int .i64 x.en)).set_ 5 (.int .i64 x.rt)); simpa using h
  have hle0 : w.heap.size ≤ w.heap.size := by first | exact Nat.le_refl _ | omega
  have hWf : Below w.heap.size w ((((((w5.setCell ⟨w.heap.size, 0, none⟩ (.int .i64 x.id)).setCell ⟨w.heap.size, 1, none⟩ (.int .i64 x.fr)).setCell ⟨w.heap.size, 2, none⟩ (.int .i64 x.tn)).setCell ⟨w.heap.size, 3, none⟩ (.int .i64 x.st)).setCell ⟨w.heap.size, 4, none⟩ (.int .i64 x.en)).setCell ⟨w.heap.size, 5, none⟩ (.int .i64 x.rt)) := ((((((hBa.setCell (p := ⟨w.heap.size, 0, none⟩) hle0 (.int .i64 x.id)).setCell (p := ⟨w.heap.size, 1, none⟩) hle0 (.int .i64 x.fr)).setCell (p := ⟨w.heap.size, 2, none⟩) hle0 (.int .i64 x.tn)).setCell (p := ⟨w.heap.size, 3, none⟩) hle0 (.int .i64 x.st)).setCell (p := ⟨w.heap.size, 4, none⟩) hle0 (.int .i64 x.en)).setCell (p := ⟨w.heap.size, 5, none⟩) hle0 (.int .i64 x.rt))
  have hlF := hF.lt
  generalize ((((((w5.setCell ⟨w.heap.size, 0, none⟩ (.int .i64 x.id)).setCell ⟨w.heap.size, 1, none⟩ (.int .i64 x.fr)).setCell ⟨w.heap.size, 2, none⟩ (.int .i64 x.tn)).setCell ⟨w.heap.size, 3, none⟩ (.int .i64 x.st)).setCell ⟨w.heap.size, 4, none⟩ (.int .i64 x.en)).setCell ⟨w.heap.size, 5, none⟩ (.int .i64 x.rt)) = wf at *
  have r0 : wf.cell? ⟨w.heap.size, 0, none⟩ = some (.int .i64 x.id) := hF.cell 0
  have r1 : wf.cell? ⟨w.heap.size, 1, none⟩ = some (.int .i64 x.fr) := hF.cell 1
  have r2 : wf.cell? ⟨w.heap.size, 2, none⟩ = some (.int .i64 x.tn) := hF.cell 2
  have r3 : wf.cell? ⟨w.heap.size, 3, none⟩ = some (.int .i64 x.st) := hF.cell 3
  have r4 : wf.cell? ⟨w.heap.size, 4, none⟩ = some (.int .i64 x.en) := hF.cell 4
  have r5 : wf.cell? ⟨w.heap.size, 5, none⟩ = some (.int .i64 x.rt) := hF.cell 5
  refine bodyPost_ret (v := .tuple #[.agg #[.int .i64 x.id, .int .i64 x.fr, .int .i64 x.tn, .int .i64 x.st, .int .i64 x.en, .int .i64 x.rt], .bool true]) (by simp [results, Try.results26, go_sem, r0, r1, r2, r3, r4, r5, hlF]) rfl ?_
  exact ⟨rfl, hWf⟩
set_option maxHeartbeats 1000000 in
set_option maxRecDepth 100000 in
theorem find_no (A : Option Addr) (n c : Nat) (d : List Co) (id : Int) (w : World) (hd : d.length = n) (hn : n ≤ 1000000) (h : Sl w w.heap.size 6 A n c (flatCo d)) (hq : ∀ j, j < n → ((gCo d j).id == id) = false) :
    Calls Try.prog 26 #[.slice A n c, .int .i64 id] w fun e w' => e = .returned (.tuple #[.agg #[.int .i64 0, .int .i64 0, .int .i64 0, .int .i64 0, .int .i64 0, .int .i64 0], .bool false]) ∧ Below w.heap.size w w' := by
  have hBa : Below w.heap.size w (w.alloc (.cells #[.int .i64 0, .int .i64 0, .int .i64 0, .int .i64 0, .int .i64 0, .int .i64 0] 28)) := by (repeat (first | exact Below.refl _ _ | refine Below.alloc ?_ (by first | omega | (simp; done) | (simp; omega)) _ | refine Below.setCell ?_ (by first | omega | (simp; done) | (simp; omega)) _ | refine Below.drew ?_))
  have hX := Blok.new w 28 #[.int .i64 0, .int .i64 0, .int .i64 0, .int .i64 0, .int .i64 0, .int .i64 0]
  have hs := h.up hBa
  have HD := Lib.hid hd
  have HQ := Lib.hid hq
  clear h hd hq
  go_enter Try.func26, Try.ntmps26
  go_wp2_with fail
  generalize w.alloc (.cells #[.int .i64 0, .int .i64 0, .int .i64 0, .int .i64 0, .int .i64 0, .int .i64 0] 28) = w2 at *
  refine (has_any id w2).mono ?_
  rintro e w3 ⟨g, rfl, hG, hg0, hbb⟩
  replace hs := hs.up hbb
  replace hX := hX.below hbb hX.lt
  replace hBa := hBa.trans (hbb.mono hBa.size)
  clear hbb hg0
  go_wp2_with fail
  refine (indexCo A n c d _ _ none _ w3 HD.out hn hs (pred_has id g none w3 hG (by simp)) n (Nat.le_refl _) HQ.out (fun h => by omega)).mono ?_
  rintro e w5 ⟨rfl, hb5⟩
  rw [idxOf_no (by omega : ¬ n < n)]
  replace hX := hX.below hb5 hX.lt
  replace hBa := hBa.trans (hb5.mono hBa.size)
  clear hb5 hG hs
  have r0 : w5.cell? ⟨w.heap.size, 0, none⟩ = some (.int .i64 0) := hX.cell 0
  have r1 : w5.cell? ⟨w.heap.size, 1, none⟩ = some (.int .i64 0) := hX.cell 1
  have r2 : w5.cell? ⟨w.heap.size, 2, none⟩ = some (.int .i64 0) := hX.cell 2
  have r3 : w5.cell? ⟨w.heap.size, 3, none⟩ = some (.int .i64 0) := hX.cell 3
  have r4 : w5.cell? ⟨w.heap.size, 4, none⟩ = some (.int .i64 0) := hX.cell 4
  have r5 : w5.cell? ⟨w.heap.size, 5, none⟩ = some (.int .i64 0) := hX.cell 5
  have f0 := hX.free 0
  have f1 := hX.free 1
  have f2 := hX.free 2
  have f3 := hX.free 3
  have f4 := hX.free 4
  have f5 := hX.free 5
  have hlt := hX.lt
  have HXX := Lib.hid hX
  clear hX
  go_wp2
  have hX := HXX.out
  clear r0 r1 r2 r3 r4 r5
  have hF : Blok ((((((w5.setCell ⟨w.heap.size, 0, none⟩ (.int .i64 0)).setCell ⟨w.heap.size, 1, none⟩ (.int .i64 0)).setCell ⟨w.heap.size, 2, none⟩ (.int .i64 0)).setCell ⟨w.heap.size, 3, none⟩ (.int .i64 0)).setCell ⟨w.heap.size, 4, none⟩ (.int .i64 0)).setCell ⟨w.heap.size, 5, none⟩ (.int .i64 0)) w.heap.size 28 #[.int .i64 0, .int .i64 0, .int .i64 0, .int .i64 0, .int .i64 0, .int .i64 0] := by have h := ((((((hX.set_ 0 (.int .i64 0)).set_ 1 (.int .i64 0)).set_ 2 (.int .i64 0)).set_ 3 (.int .i64 0)).set_ 4 (.int .i64 0)).set_ 5 (.int .i64 0)); simpa using h
  have hle0 : w.heap.size ≤ w.heap.size := by first | exact Nat.le_refl _ | omega
  have hWf : Below w.heap.size w ((((((w5.setCell ⟨w.heap.size, 0, none⟩ (.int .i64 0)).setCell ⟨w.heap.size, 1, none⟩ (.int .i64 0)).setCell ⟨w.heap.size, 2, none⟩ (.int .i64 0)).setCell ⟨w.heap.size, 3, none⟩ (.int .i64 0)).setCell ⟨w.heap.size, 4, none⟩ (.int .i64 0)).setCell ⟨w.heap.size, 5, none⟩ (.int .i64 0)) := ((((((hBa.setCell (p := ⟨w.heap.size, 0, none⟩) hle0 (.int .i64 0)).setCell (p := ⟨w.heap.size, 1, none⟩) hle0 (.int .i64 0)).setCell (p := ⟨w.heap.size, 2, none⟩) hle0 (.int .i64 0)).setCell (p := ⟨w.heap.size, 3, none⟩) hle0 (.int .i64 0)).setCell (p := ⟨w.heap.size, 4, none⟩) hle0 (.int .i64 0)).setCell (p := ⟨w.heap.size, 5, none⟩) hle0 (.int .i64 0))
  have hlF := hF.lt
  generalize ((((((w5.setCell ⟨w.heap.size, 0, none⟩ (.int .i64 0)).setCell ⟨w.heap.size, 1, none⟩ (.int .i64 0)).setCell ⟨w.heap.size, 2, none⟩ (.int .i64 0)).setCell ⟨w.heap.size, 3, none⟩ (.int .i64 0)).setCell ⟨w.heap.size, 4, none⟩ (.int .i64 0)).setCell ⟨w.heap.size, 5, none⟩ (.int .i64 0)) = wf at *
  have r0 : wf.cell? ⟨w.heap.size, 0, none⟩ = some (.int .i64 0) := hF.cell 0
  have r1 : wf.cell? ⟨w.heap.size, 1, none⟩ = some (.int .i64 0) := hF.cell 1
  have r2 : wf.cell? ⟨w.heap.size, 2, none⟩ = some (.int .i64 0) := hF.cell 2
  have r3 : wf.cell? ⟨w.heap.size, 3, none⟩ = some (.int .i64 0) := hF.cell 3
  have r4 : wf.cell? ⟨w.heap.size, 4, none⟩ = some (.int .i64 0) := hF.cell 4
  have r5 : wf.cell? ⟨w.heap.size, 5, none⟩ = some (.int .i64 0) := hF.cell 5
  refine bodyPost_ret (v := .tuple #[.agg #[.int .i64 0, .int .i64 0, .int .i64 0, .int .i64 0, .int .i64 0, .int .i64 0], .bool false]) (by simp [results, Try.results26, go_sem, r0, r1, r2, r3, r4, r5, hlF]) rfl ?_
  exact ⟨rfl, hWf⟩
def okC (r : Co) : Bool := contactB r.id r.fr r.tn r.st r.en r.rt
def mayC (d : List Co) (r : Co) : Int := if okC r = false then 1 else if 4096 ≤ d.length then 3 else if d.any (fun o => o.id == r.id) = true then 4 else if d.any (fun o => overC o r) = true then 5 else 0
theorem okC_call (r : Co) (w : World) (b : Bool) (h : okC r = b) : Calls Try.prog 33 #[.agg #[.int .i64 r.id, .int .i64 r.fr, .int .i64 r.tn, .int .i64 r.st, .int .i64 r.en, .int .i64 r.rt]] w fun e w' => e = .returned (.bool b) ∧ Below w.heap.size w w' := contact_is b h w
end Go.Proofs.Ytfdphpmcgidmiaa.Kc

/- Package contacts: Add, Change. No condition. -/
namespace Go.Proofs.Ytfdphpmcgidmiaa.Kc
open Go.ChangeShapes Go.WideShapes Go.ChangeAt Go.RowKit Go.Sort
set_option linter.unusedSimpArgs false
set_option linter.unusedVariables false
def withRt (p : Co) (x : Int) : Co := ⟨p.id, p.fr, p.tn, p.st, p.en, x⟩
theorem flatCo_rt : ∀ (d : List Co) (i : Nat) (x : Int), i < d.length → (flatCo d).set (i * 6 + 5) (.int .i64 x) = flatCo (d.set i (withRt (gCo d i) x))
  | p :: d, 0, x, _ => rfl
  | p :: d, i + 1, x, h => by
    rw [flatCo_cons, show (i + 1) * 6 + 5 = i * 6 + 5 + 1 + 1 + 1 + 1 + 1 + 1 from by omega]
    simp only [List.set_cons_succ]
    rw [flatCo_rt d i x (by simpa using h)]
    rfl
end Go.Proofs.Ytfdphpmcgidmiaa.Kc

/- Package contacts: Right. No condition. -/
namespace Go.Proofs.Ytfdphpmcgidmiaa.Kc
open Go.ChangeShapes Go.WideShapes Go.ChangeAt Go.RowKit Go.Sort
set_option linter.unusedSimpArgs false
set_option linter.unusedVariables false
theorem run_makeMap_hint {P : Program} (t k e : TypeId) (kd : IntKind) (n : Int) (ht : P.underlying t = some (.map k e)) (w : World) :
    (Instr.makeMap t (some (.int kd n))).run P w = .ok (.map (some w.heap.size)) (w.alloc (.map #[] 0)) := by
  simp [Instr.makeMap, run_underlying ht]; rfl
def idIn (l : List Co) (id : Int) : Bool := l.any (fun o => o.id == id)
def stepC (d : List Co) (i : Nat) : Bool := okC (gCo d i) && !idIn (d.take i) (gCo d i).id && (i == 0 || (decide (cmpC (gCo d (i - 1)) (gCo d i) < 0) && !overC (gCo d (i - 1)) (gCo d i)))
def rightC (d : List Co) : Bool := decide (d.length ≤ 4096) && (List.range d.length).all (stepC d)
theorem rightC_true {d : List Co} : rightC d = true ↔ d.length ≤ 4096 ∧ ∀ i, i < d.length → stepC d i = true := by
  simp [rightC, List.all_eq_true]
theorem rightC_false {d : List Co} {i : Nat} (hi : i < d.length) (h : stepC d i = false) : rightC d = false := by
  rw [Bool.eq_false_iff]
  intro e
  rw [(rightC_true.1 e).2 i hi] at h
  cases h
theorem okC_wf {x : Co} (h : okC x = true) : (Lit.int .i64 x.id).wf = true := by
  unfold okC contactB inB at h
  simp only [Bool.and_eq_true, decide_eq_true_eq] at h
  exact wfI (by omega)
theorem idIn_next {d : List Co} {k : Nat} (h : k < d.length) (j : Int) : idIn (d.take (k + 1)) j = (if j = (gCo d k).id then true else idIn (d.take k) j) := by
  unfold idIn
  rw [take_nextCo h, List.any_append]
  by_cases e : j = (gCo d k).id
  · subst e; simp
  · rw [if_neg e]; simp; intro e2; exact absurd e2.symm e
set_option maxHeartbeats 4000000 in
set_option maxRecDepth 100000 in
theorem right_any (A : Option Addr) (n c : Nat) (d : List Co) (w : World) (hd : d.length = n) (hn : n ≤ 1000000) (h : Sl w w.heap.size 6 A n c (flatCo d)) :
    Calls Try.prog 46 #[.slice A n c] w fun e w' => e = .returned (.bool (rightC d)) ∧ Below w.heap.size w w' := by
  have HD := Lib.hid hd
  by_cases hbig : 4096 < n
  · have hf : rightC d = false := by
      rw [Bool.eq_false_iff]; intro e; have := (rightC_true.1 e).1; omega
    have HF := Lib.hid hf
    clear hf hd
    go_enter Try.func46, Try.ntmps46
    go_wp2
    go_ret
    exact ⟨by rw [HF.out]; rfl, Below.refl _ _⟩
  · clear hd
    have hmk := run_makeMap_hint (P := Try.prog) 85 3 4 .i64 (n : Int) Try.underlying85 w
    obtain ⟨b0, hb0⟩ : ∃ b0, w.heap.size = b0 := ⟨_, rfl⟩
    rw [hb0] at hmk
    have HB0 := Lib.hid hb0
    have hS0 := SetW.made w
    rw [hb0] at hS0
    have hB0 : Below w.heap.size w (w.alloc (.map #[] 0)) := (Below.refl _ _).alloc (Nat.le_refl _) _
    have h0 := h.below hB0
    clear hb0 h
    go_enter Try.func46, Try.ntmps46
    go_wp2
    clear hmk
    go_loopw [14] (fun i wr => ∃ k : Nat, k ≤ n ∧ i = .int .i64 k ∧ Hid (∀ j, j < k → stepC d j = true) ∧ Below w.heap.size w wr ∧ SetW wr b0 k (idIn (d.take k)) ∧ Hid (Sl wr w.heap.size 6 A n c (flatCo d))) (fun i _ => n - (intOf i).toNat)
    case atStart => exact ⟨0, by omega, rfl, (fun j hj => by omega), hB0, hS0.congr (fun k _ => by simp [idIn]), h0⟩
    case round =>
      clear hB0 hS0 h0
      obtain ⟨k, hk, rfl, HQ, hB, hS, HL⟩ := hrel
      by_cases hkn : k < n
      · obtain ⟨ad, rfl, hab, c0, c1, c2, c3, c4, c5⟩ := HL.out.lst.atCo HD.out hkn
        have hsw := hB.size
        obtain ⟨x, hx⟩ : ∃ x, gCo d k = x := ⟨_, rfl⟩
        rw [hx] at c0 c1 c2 c3 c4 c5
        have HX := Lib.hid hx
        clear hx
        have hBa : Below wr.heap.size wr (wr.alloc (.cells #[.int .i64 x.id, .int .i64 x.fr, .int .i64 x.tn, .int .i64 x.st, .int .i64 x.en, .int .i64 x.rt] 28)) := by (repeat (first | exact Below.refl _ _ | refine Below.alloc ?_ (by first | omega | (simp; done) | (simp; omega)) _ | refine Below.setCell ?_ (by first | omega | (simp; done) | (simp; omega)) _ | refine Below.drew ?_))
        have hX := Blok.new wr 28 #[.int .i64 x.id, .int .i64 x.fr, .int .i64 x.tn, .int .i64 x.st, .int .i64 x.en, .int .i64 x.rt]
        have hB2 := hB.trans (hBa.mono hB.size)
        have hS2 := hS.below hBa
        have hL2 := HL.out.below (hBa.mono hB.size)
        have hbn : b0 ≠ wr.heap.size := fun e => by have := hS.lt; omega
        go_wp2_with fail
        clear c0 c1 c2 c3 c4 c5 hB hS HL hBa
        generalize wr.alloc (.cells #[.int .i64 x.id, .int .i64 x.fr, .int .i64 x.tn, .int .i64 x.st, .int .i64 x.en, .int .i64 x.rt] 28) = wx at *
        generalize wr.heap.size = bb at *
        cases ho : okC x with
        | false =>
          have HO := Lib.hid ho
          have hf : rightC d = false := rightC_false (i := k) (by have := HD.out; omega) (by unfold stepC; rw [HX.out, ho]; rfl)
          have HF := Lib.hid hf
          clear ho hf hS2 hL2 hX
          refine (okC_call x _ false HO.out).mono ?_
          rintro e w3 ⟨rfl, hb3⟩
          replace hB2 := hB2.trans (hb3.mono hB2.size)
          clear hb3
          go_wp2
          go_ret
          exact ⟨by rw [HF.out]; rfl, hB2⟩
        | true =>
          have HO := Lib.hid ho
          have hwf := okC_wf ho
          obtain ⟨s, hsn⟩ : ∃ s, idIn (d.take k) x.id = s := ⟨_, rfl⟩
          have HSN := Lib.hid hsn
          clear ho hsn
          refine (okC_call x _ true HO.out).mono ?_
          rintro e w3 ⟨rfl, hb3⟩
          have hS3 := hS2.below hb3
          have hX3 := hX.below hb3 hX.lt
          have hL3 := hL2.below (hb3.mono hB2.size)
          have hB3 := hB2.trans (hb3.mono hB2.size)
          have hs3 := hB3.size
          clear hb3 hS2 hX hL2 hB2 hsw
          have hlk := hS3.look hwf
          rw [HSN.out] at hlk
          have x0 : w3.cell? ⟨bb, 0, none⟩ = some (.int .i64 x.id) := hX3.cell 0
          have hbl := hX3.lt
          cases s with
          | true =>
            have hf : rightC d = false := rightC_false (i := k) (by have := HD.out; omega) (by unfold stepC; rw [HX.out, HSN.out]; simp)
            have HF := Lib.hid hf
            clear hf hS3 hL3 hX3
            go_wp2
            go_ret
            exact ⟨by rw [HF.out]; rfl, hB3⟩
          | false =>
            go_wp2_with (at_mapUpdate; refine wpList_put_set rfl _ _ _ rfl b0 k _ x.id true rfl hS3 (by unfold maxLen; omega) rfl hwf rfl ?_; intro w4 hS4 hg4)
            try simp only [Act.put, List.setIfInBounds_toArray, List.set_cons_succ, List.set_cons_zero]
            clear hlk x0
            have hX4 := hX3.grown hg4 (fun e => hbn (by simpa using e.symm))
            have hB4 : Below w.heap.size w w4 := hB3.grown hg4 hs3 (fun j hj => by have := HB0.out; simp at hj; omega)
            have hL4 : Sl w4 w.heap.size 6 (some ad) n c (flatCo d) := hL3.below (Below.grown (Below.refl _ _) hg4 hs3 (fun j hj => by have := HB0.out; simp at hj; omega))
            have hS5 : SetW w4 b0 (k + 1) (idIn (d.take (k + 1))) := hS4.congr (fun j _ => by rw [idIn_next (by have := HD.out; omega), HX.out])
            have hs4 := hB4.size
            have hbl4 := hX4.lt
            have habw : ad.block < w4.heap.size := by omega
            have x0 : w4.cell? ⟨bb, 0, none⟩ = some (.int .i64 x.id) := hX4.cell 0
            have x1 : w4.cell? ⟨bb, 1, none⟩ = some (.int .i64 x.fr) := hX4.cell 1
            have x2 : w4.cell? ⟨bb, 2, none⟩ = some (.int .i64 x.tn) := hX4.cell 2
            have x3 : w4.cell? ⟨bb, 3, none⟩ = some (.int .i64 x.st) := hX4.cell 3
            have x4 : w4.cell? ⟨bb, 4, none⟩ = some (.int .i64 x.en) := hX4.cell 4
            have x5 : w4.cell? ⟨bb, 5, none⟩ = some (.int .i64 x.rt) := hX4.cell 5
            clear hS3 hS4 hg4 hX3 hL3 hB3 hs3 hbl hX4
            have hcase : k = 0 ∨ ∃ p, k = p + 1 := by cases k with | zero => exact .inl rfl | succ p => exact .inr ⟨p, rfl⟩
            rcases hcase with rfl | ⟨p, rfl⟩
            · have hd0 : decide (((0 : Nat) : Int) > 0) = false := by simp
              have hN : ∀ j, j < 0 + 1 → stepC d j = true := fun j hj => by
                obtain rfl : j = 0 := by omega
                unfold stepC
                rw [HX.out, HO.out, HSN.out]; rfl
              have HN := Lib.hid hN
              clear hN
              have HS5 := Lib.hid hS5
              have HL4 := Lib.hid hL4
              clear hS5 hL4
              have q_x0 := fun d os => cell_regrown x0 d os
              have q_x1 := fun d os => cell_regrown x1 d os
              have q_x2 := fun d os => cell_regrown x2 d os
              have q_x3 := fun d os => cell_regrown x3 d os
              have q_x4 := fun d os => cell_regrown x4 d os
              have q_x5 := fun d os => cell_regrown x5 d os
              try simp only [List.append]
              first | refine wp_region_text_below ?_ | refine wp_region_quiet_below (by kernel_rfl) (by kernel_rfl) ?_
              repeat (go_big_quiet_step ((fail)))
              refine wpQuiet_nil ?_
              intro _ hqw
              obtain ⟨pq, hqw⟩ := hqw
              subst hqw
              clear q_x0 q_x1 q_x2 q_x3 q_x4 q_x5
              have hbel := below_regrown w4 pq.d pq.os
              replace hB4 := hB4.trans (hbel.mono hs4)
              have hS6 := HS5.out.below hbel
              have hL6 := HL4.out.below (hbel.mono hs4)
              clear hbel x0 x1 x2 x3 x4 x5 HS5 HL4
              generalize grow (redrawn w4 pq.d) pq.os = wq at *
              go_wp2
              go_roundw
              case rel => exact ⟨0 + 1, by omega, by go_num, HN.out, hB4, hS6, hL6⟩
              case measure => simp [intOf]; omega
            · have hd0 : decide (((p + 1 : Nat) : Int) > 0) = true := decide_eq_true (by omega)
              obtain ⟨ad', hae, hab', z0, z1, z2, z3, z4, z5⟩ := hL4.lst.atCo HD.out (k := p) (by omega)
              injection hae with hae
              subst hae
              obtain ⟨z, hz⟩ : ∃ z, gCo d p = z := ⟨_, rfl⟩
              rw [hz] at z0 z1 z2 z3 z4 z5
              obtain ⟨y, hy⟩ : ∃ y, cmpC z x = y := ⟨_, rfl⟩
              obtain ⟨v, hv⟩ : ∃ v, overC z x = v := ⟨_, rfl⟩
              have hst : stepC d (p + 1) = (decide (y < 0) && !v) := by
                unfold stepC
                rw [Nat.add_sub_cancel, HX.out, hz, hy, hv, HO.out, HSN.out]; simp
              have HY := Lib.hid hy
              have HV := Lib.hid hv
              have HST := Lib.hid hst
              have HS5 := Lib.hid hS5
              have HL4 := Lib.hid hL4
              clear hz hy hv hst hS5 hL4
              by_cases hy0 : y < 0
              · have hdy : decide (0 ≤ y) = false := by simp; omega
                cases v
                · have hN : ∀ j, j < p + 1 + 1 → stepC d j = true := fun j hj => by
                    by_cases e : j = p + 1
                    · rw [e, HST.out]; simp [hy0]
                    · exact HQ.out j (by omega)
                  have HN := Lib.hid hN
                  clear hN
                  have q_x0 := fun d os => cell_regrown x0 d os
                  have q_x1 := fun d os => cell_regrown x1 d os
                  have q_x2 := fun d os => cell_regrown x2 d os
                  have q_x3 := fun d os => cell_regrown x3 d os
                  have q_x4 := fun d os => cell_regrown x4 d os
                  have q_x5 := fun d os => cell_regrown x5 d os
                  have q_z0 := fun d os => cell_regrown z0 d os
                  have q_z1 := fun d os => cell_regrown z1 d os
                  have q_z2 := fun d os => cell_regrown z2 d os
                  have q_z3 := fun d os => cell_regrown z3 d os
                  have q_z4 := fun d os => cell_regrown z4 d os
                  have q_z5 := fun d os => cell_regrown z5 d os
                  try simp only [List.append]
                  first | refine wp_region_text_below ?_ | refine wp_region_quiet_below (by kernel_rfl) (by kernel_rfl) ?_
                  repeat (go_big_quiet_step ((first | (go_at_call 75; with_reducible exact Calls.regrown_of (HY.out ▸ cmpC_any z x _)) | (go_at_call 76; with_reducible exact Calls.regrown_of (HV.out ▸ overC_any z x _)))))
                  refine wpQuiet_nil ?_
                  intro _ hqw
                  obtain ⟨pq, hqw⟩ := hqw
                  subst hqw
                  clear q_x0 q_x1 q_x2 q_x3 q_x4 q_x5 q_z0 q_z1 q_z2 q_z3 q_z4 q_z5
                  have hbel := below_regrown w4 pq.d pq.os
                  replace hB4 := hB4.trans (hbel.mono hs4)
                  have hS6 := HS5.out.below hbel
                  have hL6 := HL4.out.below (hbel.mono hs4)
                  clear hbel x0 x1 x2 x3 x4 x5 z0 z1 z2 z3 z4 z5 HS5 HL4
                  generalize grow (redrawn w4 pq.d) pq.os = wq at *
                  go_wp2
                  go_roundw
                  case rel => exact ⟨(p + 1) + 1, by omega, by go_num, HN.out, hB4, hS6, hL6⟩
                  case measure => simp [intOf]; omega
                · have hf : rightC d = false := rightC_false (i := p + 1) (by have := HD.out; omega) (by rw [HST.out]; simp)
                  have HF := Lib.hid hf
                  clear hf
                  have q_x0 := fun d os => cell_regrown x0 d os
                  have q_x1 := fun d os => cell_regrown x1 d os
                  have q_x2 := fun d os => cell_regrown x2 d os
                  have q_x3 := fun d os => cell_regrown x3 d os
                  have q_x4 := fun d os => cell_regrown x4 d os
                  have q_x5 := fun d os => cell_regrown x5 d os
                  have q_z0 := fun d os => cell_regrown z0 d os
                  have q_z1 := fun d os => cell_regrown z1 d os
                  have q_z2 := fun d os => cell_regrown z2 d os
                  have q_z3 := fun d os => cell_regrown z3 d os
                  have q_z4 := fun d os => cell_regrown z4 d os
                  have q_z5 := fun d os => cell_regrown z5 d os
                  try simp only [List.append]
                  first | refine wp_region_text_below ?_ | refine wp_region_quiet_below (by kernel_rfl) (by kernel_rfl) ?_
                  repeat (go_big_quiet_step ((first | (go_at_call 75; with_reducible exact Calls.regrown_of (HY.out ▸ cmpC_any z x _)) | (go_at_call 76; with_reducible exact Calls.regrown_of (HV.out ▸ overC_any z x _)))))
                  refine wpQuiet_nil ?_
                  intro _ hqw
                  obtain ⟨pq, hqw⟩ := hqw
                  subst hqw
                  clear q_x0 q_x1 q_x2 q_x3 q_x4 q_x5 q_z0 q_z1 q_z2 q_z3 q_z4 q_z5
                  have hbel := below_regrown w4 pq.d pq.os
                  replace hB4 := hB4.trans (hbel.mono hs4)
                  clear hbel x0 x1 x2 x3 x4 x5 z0 z1 z2 z3 z4 z5 HS5 HL4
                  generalize grow (redrawn w4 pq.d) pq.os = wq at *
                  go_wp2
                  go_ret
                  exact ⟨by rw [HF.out]; rfl, hB4⟩
              · have hdy : decide (0 ≤ y) = true := by simp; omega
                have hf : rightC d = false := rightC_false (i := p + 1) (by have := HD.out; omega) (by rw [HST.out]; simp [hy0])
                have HF := Lib.hid hf
                clear hf
                have q_x0 := fun d os => cell_regrown x0 d os
                have q_x1 := fun d os => cell_regrown x1 d os
                have q_x2 := fun d os => cell_regrown x2 d os
                have q_x3 := fun d os => cell_regrown x3 d os
                have q_x4 := fun d os => cell_regrown x4 d os
                have q_x5 := fun d os => cell_regrown x5 d os
                have q_z0 := fun d os => cell_regrown z0 d os
                have q_z1 := fun d os => cell_regrown z1 d os
                have q_z2 := fun d os => cell_regrown z2 d os
                have q_z3 := fun d os => cell_regrown z3 d os
                have q_z4 := fun d os => cell_regrown z4 d os
                have q_z5 := fun d os => cell_regrown z5 d os
                try simp only [List.append]
                first | refine wp_region_text_below ?_ | refine wp_region_quiet_below (by kernel_rfl) (by kernel_rfl) ?_
                repeat (go_big_quiet_step ((first | (go_at_call 75; with_reducible exact Calls.regrown_of (HY.out ▸ cmpC_any z x _)) | (go_at_call 76; with_reducible exact Calls.regrown_of (HV.out ▸ overC_any z x _)))))
                refine wpQuiet_nil ?_
                intro _ hqw
                obtain ⟨pq, hqw⟩ := hqw
                subst hqw
                clear q_x0 q_x1 q_x2 q_x3 q_x4 q_x5 q_z0 q_z1 q_z2 q_z3 q_z4 q_z5
                have hbel := below_regrown w4 pq.d pq.os
                replace hB4 := hB4.trans (hbel.mono hs4)
                clear hbel x0 x1 x2 x3 x4 x5 z0 z1 z2 z3 z4 z5 HS5 HL4
                generalize grow (redrawn w4 pq.d) pq.os = wq at *
                go_wp2
                go_ret
                exact ⟨by rw [HF.out]; rfl, hB4⟩
      · obtain rfl : k = n := by omega
        have hr : rightC d = true := rightC_true.2 ⟨by have := HD.out; omega, fun i hi => HQ.out i (by have := HD.out; omega)⟩
        have HR := Lib.hid hr
        clear hr
        go_wp2
        go_ret
        exact ⟨by rw [HR.out]; rfl, hB⟩
end Go.Proofs.Ytfdphpmcgidmiaa.Kc

/- Package contacts: Expire's closure, which notes who goes. No condition. -/
namespace Go.Proofs.Ytfdphpmcgidmiaa.Kc
open Go.ChangeShapes Go.WideShapes Go.ChangeAt Go.RowKit Go.Sort
set_option linter.unusedSimpArgs false
set_option linter.unusedVariables false
def overE (now : Int) (x : Co) : Bool := decide (x.en ≤ now)
def goneL (d : List Co) (now : Int) : List Int := (d.filter (overE now)).map (fun x => x.id)
theorem goneL_next {d : List Co} {k : Nat} (now : Int) (h : k < d.length) : goneL (d.take (k + 1)) now = goneL (d.take k) now ++ if overE now (gCo d k) = true then [(gCo d k).id] else [] := by
  unfold goneL
  rw [take_nextCo h, List.filter_append, List.map_append]
  congr 1
  cases h2 : overE now (gCo d k) <;> simp [List.filter_cons, h2]
theorem goneL_len (d : List Co) (now : Int) (k : Nat) : (goneL (d.take k) now).length ≤ k := by
  unfold goneL
  rw [List.length_map]
  have := List.length_filter_le (overE now) (d.take k)
  rw [List.length_take] at this
  omega
theorem infoI : (Try.prog.info? 3).map (fun i => (i.zero, i.size, i.bytes)) = some (some (.int .i64 0), 1, 8) := by kernel_rfl
/-- Who has gone till now, as the closure keeps it. -/
def GoneS (gN gg g0 : Nat) (now : Int) (l : List Int) (W : World) : Prop :=
  Blok W gN 3 #[.int .i64 now] ∧ ∃ v, Blok W gg 80 #[v] ∧ W.ownsRow (gg + 1) 3 1 v l.length (l.map (Value.int .i64)) ∧ v.ownBlock ≠ some g0
def GoneR (gN gg g0 : Nat) (now : Int) (d : List Co) (k : Nat) (W : World) : Prop := GoneS gN gg g0 now (goneL (d.take k) now) W
def SameFrom (W w w' : World) : Prop := ∀ b, W.heap.size ≤ b → b < w.heap.size → w'.heap[b]? = w.heap[b]?
def SameAt (g0 : Nat) (w w' : World) : Prop := w'.heap[g0]? = w.heap[g0]?
theorem ints_one (l : List Int) : ∀ u ∈ l.map (Value.int .i64), u.oneCell' = true := by
  intro u hu
  obtain ⟨x, _, rfl⟩ := List.mem_map.1 hu
  rfl
end Go.Proofs.Ytfdphpmcgidmiaa.Kc

/- Package contacts: Expire. No condition. -/
namespace Go.Proofs.Ytfdphpmcgidmiaa.Kc
open Go.ChangeShapes Go.WideShapes Go.ChangeAt Go.RowKit Go.Sort
set_option linter.unusedSimpArgs false
set_option linter.unusedVariables false
def leftC (d : List Co) (now : Int) : List Co := d.filter (fun x => !overE now x)
/-- What Expire's inner call leaves. -/
def DelPost (base0 gg : Nat) (now : Int) (d : List Co) (w : World) (e : Ending) (w' : World) : Prop :=
  ∃ v u, e = .returned v ∧ w'.ownsRow base0 28 6 v (leftC d now).length (flatCo (leftC d now)) ∧ Blok w' gg 80 #[u] ∧ w'.ownsRow (gg + 1) 3 1 u (goneL d now).length ((goneL d now).map (Value.int .i64)) ∧ Below base0 w w'
end Go.Proofs.Ytfdphpmcgidmiaa.Kc

/- Layer 6's small case comes out right. No condition. -/
namespace Go.Proofs.Ytfdphpmcgidmiaa.Kc
open Go.ChangeShapes Go.WideShapes Go.ChangeAt Go.RowKit Go.Sort
set_option linter.unusedSimpArgs false
set_option linter.unusedVariables false
theorem own_below {w w' : World} {base : Nat} {e : TypeId} {size n : Nat} {v : Value} {xs : List Value} (h : w.ownsRow base e size v n xs) (hb : Below w.heap.size w w') : w'.ownsRow base e size v n xs :=
  h.kept (grown_of_below (row := some w.heap.size) hb) (.inr (fun e => by have := (h.lt _ e).2; omega))
theorem add_first {d : List Co} {r : Co} {n i : Nat} (q : Nat) (hi : i ≤ n) (h1 : i = 0 ∨ cmpC (gCo d (i - 1)) r < 0) (h2 : i = n ∨ 0 ≤ cmpC (gCo d i) r) (hq : ∀ j, j ≤ n → (j = 0 ∨ cmpC (gCo d (j - 1)) r < 0) → (j = n ∨ 0 ≤ cmpC (gCo d j) r) → j = q) : i = q := hq i hi h1 h2
end Go.Proofs.Ytfdphpmcgidmiaa.Kc

/- Right tables of contacts: their order, who is found, one more, one less. No condition. -/
namespace Go.Proofs.Ytfdphpmcgidmiaa.Kc
open Go.ChangeShapes Go.WideShapes Go.ChangeAt Go.RowKit Go.Sort
set_option linter.unusedSimpArgs false
set_option linter.unusedVariables false
theorem gCo_elem {d : List Co} {i : Nat} (h : i < d.length) : gCo d i = d[i] := gCo_eq h
theorem mem_gCo {d : List Co} {y : Co} (h : y ∈ d) : ∃ j, j < d.length ∧ gCo d j = y := by
  obtain ⟨j, hj, e⟩ := List.mem_iff_getElem.1 h
  exact ⟨j, hj, by rw [gCo_eq hj, e]⟩
theorem ltC_trans {a b c : Co} (h1 : ltC a b) (h2 : ltC b c) : ltC a c := by unfold ltC at *; omega
theorem cmpC_lt {a b : Co} : cmpC a b < 0 ↔ ltC a b := by
  rcases cmpC_spec a b with ⟨h, e⟩ | ⟨h1, h2, h3, h4, e⟩ | ⟨h, e⟩
  · rw [e]; exact ⟨fun _ => h, fun _ => by omega⟩
  · rw [e]; unfold ltC; omega
  · rw [e]; unfold ltC at *; omega
theorem right_step {d : List Co} (h : rightC d = true) {i : Nat} (hi : i < d.length) : okC (gCo d i) = true ∧ idIn (d.take i) (gCo d i).id = false ∧ (i ≠ 0 → ltC (gCo d (i - 1)) (gCo d i) ∧ overC (gCo d (i - 1)) (gCo d i) = false) := by
  have := (rightC_true.1 h).2 i hi
  unfold stepC at this
  simp only [Bool.and_eq_true, Bool.or_eq_true, Bool.not_eq_true', beq_iff_eq, decide_eq_true_eq] at this
  refine ⟨this.1.1, this.1.2, fun h0 => ?_⟩
  rcases this.2 with h1 | ⟨h1, h2⟩
  · exact absurd h1 h0
  · exact ⟨cmpC_lt.1 h1, h2⟩
theorem right_ok {d : List Co} (h : rightC d = true) : ∀ x ∈ d, okC x = true := fun x hx => by
  obtain ⟨j, hj, rfl⟩ := mem_gCo hx
  exact (right_step h hj).1
theorem right_lt {d : List Co} (h : rightC d = true) : ∀ (j i : Nat), i < j → j < d.length → ltC (gCo d i) (gCo d j)
  | 0, i, h1, _ => by omega
  | j + 1, i, h1, h2 => by
    have hs := ((right_step h h2).2.2 (by omega)).1
    rw [Nat.add_sub_cancel] at hs
    by_cases e : i = j
    · rw [e]; exact hs
    · exact ltC_trans (right_lt h j i (by omega) (by omega)) hs
theorem right_ids {d : List Co} (h : rightC d = true) {i j : Nat} (hij : i < j) (hj : j < d.length) : (gCo d i).id ≠ (gCo d j).id := by
  have h1 := (right_step h hj).2.1
  unfold idIn at h1
  rw [List.any_eq_false] at h1
  intro e
  exact h1 (gCo d i) (by rw [gCo_eq (by omega : i < d.length)]; exact List.mem_take_iff_getElem.2 ⟨i, by omega, rfl⟩) (by simp [e])
/-- Of two places that fit, none is left of the other. -/
theorem place_le {d : List Co} {r : Co} (h : rightC d = true) {i j : Nat} (hi : i ≤ d.length) (hj : j ≤ d.length) (h1 : i = 0 ∨ cmpC (gCo d (i - 1)) r < 0) (h2 : j = d.length ∨ 0 ≤ cmpC (gCo d j) r) : i ≤ j := by
  by_cases hlt : j < i
  · exfalso
    rcases h1 with h1 | h1
    · omega
    · rcases h2 with h2 | h2
      · omega
      · have l1 := cmpC_lt.1 h1
        by_cases e : j = i - 1
        · rw [← e] at h1; omega
        · have l2 := ltC_trans (right_lt h (i - 1) j (by omega) (by omega)) l1
          have := cmpC_lt.2 l2
          omega
  · omega
def insC (d : List Co) (i : Nat) (r : Co) : List Co := d.take i ++ [r] ++ d.drop i
theorem insC_length {d : List Co} {i : Nat} (r : Co) (hi : i ≤ d.length) : (insC d i r).length = d.length + 1 := by
  unfold insC
  simp only [List.length_append, List.length_take, List.length_drop, List.length_cons, List.length_nil]
  omega
theorem insC_filter {d : List Co} {i : Nat} (x : Co) (p : Co → Bool) (hd : ∀ y ∈ d, p y = true) (hx : p x = false) : (insC d i x).filter p = d := by
  unfold insC
  rw [List.filter_append, List.filter_append, List.filter_eq_self.2 (fun y hy => hd y (List.mem_of_mem_take hy)), List.filter_eq_self.2 (fun y hy => hd y (List.mem_of_mem_drop hy)), List.filter_cons, if_neg (by simp [hx])]
  simp
theorem may_ok {d : List Co} {r : Co} (hm : mayC d r = 0) : okC r = true ∧ d.length < 4096 ∧ (∀ y ∈ d, (y.id == r.id) = false) ∧ ∀ y ∈ d, overC y r = false := by
  unfold mayC at hm
  split at hm
  · cases hm
  · split at hm
    · cases hm
    · split at hm
      · cases hm
      · split at hm
        · cases hm
        · rename_i h1 h2 h3 h4
          refine ⟨by simpa using h1, by omega, fun y hy => ?_, fun y hy => ?_⟩
          · cases e : (y.id == r.id)
            · rfl
            · exact absurd (List.any_eq_true.2 ⟨y, hy, e⟩) h3
          · cases e : overC y r
            · rfl
            · exact absurd (List.any_eq_true.2 ⟨y, hy, e⟩) h4
theorem may_twice {d : List Co} {r : Co} {i : Nat} (hm : mayC d r = 0) (hi : i ≤ d.length) (hl : d.length < 4095) : mayC (insC d i r) r = 4 := by
  obtain ⟨h1, _, _, _⟩ := may_ok hm
  unfold mayC
  rw [if_neg (by rw [h1]; simp), insC_length r hi, if_neg (by omega), if_pos (by unfold insC; simp)]
end Go.Proofs.Ytfdphpmcgidmiaa.Kc

/- What is right stays right; Add, Delete, Change and Find of a right table, in one form. No condition. -/
namespace Go.Proofs.Ytfdphpmcgidmiaa.Kc
open Go.ChangeShapes Go.WideShapes Go.ChangeAt Go.RowKit Go.Sort
set_option linter.unusedSimpArgs false
set_option linter.unusedVariables false
theorem okC_span {x : Co} (h : okC x = true) : x.st < x.en := by
  unfold okC contactB spanB at h
  simp only [Bool.and_eq_true, decide_eq_true_eq] at h
  omega
def befC (a b : Co) : Prop := ltC a b ∧ a.id ≠ b.id ∧ (a.fr = b.fr → a.tn = b.tn → a.en ≤ b.st)
theorem over_bef {a b : Co} (ha : okC a = true) (hb : okC b = true) (hl : ltC a b) (ho : overC a b = false) : a.fr = b.fr → a.tn = b.tn → a.en ≤ b.st := by
  have h1 := okC_span ha
  have h2 := okC_span hb
  unfold overC at ho
  rw [decide_eq_false_iff_not] at ho
  unfold ltC at hl
  intro e1 e2
  by_cases hx : a.en ≤ b.st
  · exact hx
  · exact absurd ⟨e1, e2, by omega, by omega⟩ ho
theorem right_bef {d : List Co} (h : rightC d = true) : ∀ (j i : Nat), i < j → j < d.length → befC (gCo d i) (gCo d j)
  | 0, i, h1, _ => by omega
  | j + 1, i, h1, h2 => by
    have hs := (right_step h h2).2.2 (by omega)
    rw [Nat.add_sub_cancel] at hs
    have hok1 := (right_step h h2).1
    have hok2 := (right_step h (by omega : j < d.length)).1
    have hn := over_bef hok2 hok1 hs.1 hs.2
    have hid := right_ids h h1 h2
    refine ⟨right_lt h _ _ h1 h2, hid, ?_⟩
    by_cases e : i = j
    · rw [e]; exact hn
    · have hp := right_bef h j i (by omega) (by omega)
      intro e1 e2
      have hl1 := hp.1
      have hl2 := hs.1
      have s1 := okC_span hok2
      have f1 : (gCo d i).fr = (gCo d j).fr := by unfold ltC at hl1 hl2; omega
      have f2 : (gCo d i).tn = (gCo d j).tn := by unfold ltC at hl1 hl2; omega
      have g1 := hp.2.2 f1 f2
      have g2 := hn (by omega) (by omega)
      omega
theorem bef_pairwise {d : List Co} (h : rightC d = true) : d.Pairwise befC := by
  rw [List.pairwise_iff_getElem]
  intro i j hi hj hij
  have := right_bef h j i hij hj
  rw [gCo_eq hi, gCo_eq hj] at this
  exact this
theorem right_of {d : List Co} (hn : d.length ≤ 4096) (hok : ∀ x ∈ d, okC x = true) (hs : d.Pairwise befC) : rightC d = true := by
  rw [rightC_true]
  refine ⟨hn, fun i hi => ?_⟩
  have hpw := List.pairwise_iff_getElem.1 hs
  unfold stepC
  rw [hok _ (gCo_mem hi), Bool.true_and]
  have h1 : idIn (d.take i) (gCo d i).id = false := by
    unfold idIn
    rw [List.any_eq_false]
    intro x hx
    obtain ⟨j, hj, rfl⟩ := List.mem_take_iff_getElem.1 hx
    have := (hpw j i (by omega) hi (by omega)).2.1
    rw [gCo_eq hi]
    simpa using this
  rw [h1]
  by_cases h0 : i = 0
  · simp [h0]
  · have hb := hpw (i - 1) i (by omega) hi (by omega)
    rw [← gCo_eq hi, ← gCo_eq (by omega : i - 1 < d.length)] at hb
    have hc := cmpC_lt.2 hb.1
    have ho : overC (gCo d (i - 1)) (gCo d i) = false := by
      unfold overC
      rw [decide_eq_false_iff_not]
      rintro ⟨e1, e2, e3, e4⟩
      have := hb.2.2 e1 e2
      omega
    rw [ho]
    simp [hc]
theorem right_filter {d : List Co} (h : rightC d = true) (p : Co → Bool) : rightC (d.filter p) = true :=
  right_of (Nat.le_trans (List.length_filter_le _ _) (rightC_true.1 h).1) (fun x hx => right_ok h x (List.mem_filter.1 hx).1) ((bef_pairwise h).filter p)
theorem right_ins {d : List Co} {r : Co} {i : Nat} (h : rightC d = true) (hm : mayC d r = 0) (hi : i ≤ d.length) (h1 : i = 0 ∨ cmpC (gCo d (i - 1)) r < 0) (h2 : i = d.length ∨ 0 ≤ cmpC (gCo d i) r) : rightC (insC d i r) = true := by
  obtain ⟨hok, hlen, hfr, hov⟩ := may_ok hm
  have hbef : ∀ a ∈ d.take i, befC a r := fun a ha => by
    obtain ⟨j, hj, rfl⟩ := List.mem_take_iff_getElem.1 ha
    have hjd : j < d.length := by omega
    have hl : ltC (gCo d (i - 1)) r := by
      rcases h1 with h1 | h1
      · omega
      · exact cmpC_lt.1 h1
    have hl2 : ltC (gCo d j) r := by
      by_cases e : j = i - 1
      · rw [e]; exact hl
      · exact ltC_trans (right_lt h (i - 1) j (by omega) (by omega)) hl
    rw [← gCo_eq hjd]
    exact ⟨hl2, by simpa using hfr _ (gCo_mem hjd), over_bef (right_ok h _ (gCo_mem hjd)) hok hl2 (hov _ (gCo_mem hjd))⟩
  have haft : ∀ b ∈ d.drop i, befC r b := fun b hb => by
    obtain ⟨j, hj, rfl⟩ := List.mem_drop_iff_getElem.1 hb
    have hjd : i + j < d.length := by omega
    have hl : ltC r (gCo d i) := by
      rcases h2 with h2 | h2
      · omega
      · rcases cmpC_spec (gCo d i) r with ⟨_, e⟩ | ⟨_, _, _, e4, _⟩ | ⟨hl, _⟩
        · omega
        · have := hfr _ (gCo_mem (by omega : i < d.length))
          rw [e4] at this
          simp at this
        · exact hl
    have hl2 : ltC r (gCo d (i + j)) := by
      by_cases e : j = 0
      · subst e; exact hl
      · exact ltC_trans hl (right_lt h (i + j) i (by omega) hjd)
    rw [← gCo_eq hjd]
    have hb2 := okC_span (right_ok h _ (gCo_mem hjd))
    have hr2 := okC_span hok
    refine ⟨hl2, fun e => by have := hfr _ (gCo_mem hjd); rw [← e] at this; simp at this, fun e1 e2 => ?_⟩
    have ho := hov _ (gCo_mem hjd)
    unfold overC at ho
    rw [decide_eq_false_iff_not] at ho
    unfold ltC at hl2
    by_cases hx : r.en ≤ (gCo d (i + j)).st
    · exact hx
    · exact absurd ⟨e1.symm, e2.symm, by omega, by omega⟩ ho
  refine right_of (by rw [insC_length r hi]; omega) (fun x hx => ?_) ?_
  · unfold insC at hx
    simp only [List.mem_append, List.mem_singleton] at hx
    rcases hx with (hx | rfl) | hx
    · exact right_ok h x (List.mem_of_mem_take hx)
    · exact hok
    · exact right_ok h x (List.mem_of_mem_drop hx)
  · unfold insC
    have hp := bef_pairwise h
    rw [← List.take_append_drop i d, List.pairwise_append] at hp
    rw [List.append_assoc, List.pairwise_append]
    refine ⟨hp.1, ?_, fun a ha b hb => ?_⟩
    · rw [List.singleton_append, List.pairwise_cons]
      exact ⟨haft, hp.2.1⟩
    · rw [List.singleton_append, List.mem_cons] at hb
      rcases hb with rfl | hb
      · exact hbef a ha
      · exact hp.2.2 a ha b hb
theorem gCo_set {d : List Co} {q j : Nat} (x : Co) (hj : j < d.length) : gCo (d.set q x) j = if q = j then x else gCo d j := by
  rw [gCo_eq (by rw [List.length_set]; exact hj), List.getElem_set, gCo_eq hj]
theorem okC_rt {x : Co} {o : Int} (h : okC x = true) (h0 : inB o 1 2147483647 = true) : okC (withRt x o) = true := by
  unfold okC contactB at h ⊢
  simp only [withRt, Bool.and_eq_true] at h ⊢
  exact ⟨h.1, h0⟩
theorem right_set {d : List Co} {q : Nat} {o : Int} (h : rightC d = true) (hq : q < d.length) (h0 : inB o 1 2147483647 = true) : rightC (d.set q (withRt (gCo d q) o)) = true := by
  refine right_of (by rw [List.length_set]; exact (rightC_true.1 h).1) (fun x hx => ?_) ?_
  · obtain ⟨j, hj, rfl⟩ := mem_gCo hx
    rw [List.length_set] at hj
    rw [gCo_set _ hj]
    split
    · exact okC_rt (right_ok h _ (gCo_mem hq)) h0
    · exact right_ok h _ (gCo_mem hj)
  · rw [List.pairwise_iff_getElem]
    intro i j hi hj hij
    rw [List.length_set] at hi hj
    have hb := right_bef h j i hij hj
    have hi2 := gCo_set (d := d) (q := q) (withRt (gCo d q) o) hi
    have hj2 := gCo_set (d := d) (q := q) (withRt (gCo d q) o) hj
    rw [gCo_eq (by rw [List.length_set]; exact hi)] at hi2
    rw [gCo_eq (by rw [List.length_set]; exact hj)] at hj2
    rw [hi2, hj2]
    by_cases e1 : q = i
    · subst e1
      rw [if_pos rfl, if_neg (by omega)]
      exact hb
    · rw [if_neg e1]
      by_cases e2 : q = j
      · subst e2
        rw [if_pos rfl]
        exact hb
      · rw [if_neg e2]
        exact hb
/-- Who is found by an ID. -/
def foundC (d : List Co) (id : Int) : Co := (d.find? (fun x => x.id == id)).getD ⟨0, 0, 0, 0, 0, 0⟩
theorem found_mem {d : List Co} {id : Int} (h : idIn d id = true) : foundC d id ∈ d ∧ (foundC d id).id = id := by
  unfold foundC
  cases e : d.find? (fun x => x.id == id) with
  | none =>
    rw [List.find?_eq_none] at e
    unfold idIn at h
    obtain ⟨x, hx, hx2⟩ := List.any_eq_true.1 h
    exact absurd hx2 (e x hx)
  | some y =>
    exact ⟨List.mem_of_find?_eq_some e, by simpa using List.find?_some e⟩
theorem idIn_mem {d : List Co} {x : Co} (h : x ∈ d) : idIn d x.id = true := List.any_eq_true.2 ⟨x, h, by simp⟩
theorem found_of {d : List Co} {x : Co} (h : rightC d = true) (hx : x ∈ d) : foundC d x.id = x := by
  obtain ⟨h1, h2⟩ := found_mem (idIn_mem hx)
  obtain ⟨i, hi, e1⟩ := mem_gCo h1
  obtain ⟨j, hj, e2⟩ := mem_gCo hx
  rw [← e1, ← e2] at h2
  by_cases e : i = j
  · rw [← e1, ← e2, e]
  · rcases Nat.lt_or_gt_of_ne e with hlt | hlt
    · exact absurd h2 (right_ids h hlt hj)
    · exact absurd h2.symm (right_ids h hlt hi)
theorem found_none {d : List Co} {id : Int} (h : idIn d id = false) : foundC d id = ⟨0, 0, 0, 0, 0, 0⟩ := by
  unfold foundC
  have : d.find? (fun x => x.id == id) = none := List.find?_eq_none.2 (fun x hx => by
    unfold idIn at h
    rw [List.any_eq_false] at h
    exact h x hx)
  rw [this]
  rfl
theorem find_any (A : Option Addr) (n c : Nat) (d : List Co) (id : Int) (w : World) (hd : d.length = n) (hn : n ≤ 1000000) (h : Sl w w.heap.size 6 A n c (flatCo d)) (hr : rightC d = true) (x : Co) (b : Bool) (hx : foundC d id = x) (hb : idIn d id = b) :
    Calls Try.prog 26 #[.slice A n c, .int .i64 id] w fun e w' => e = .returned (.tuple #[.agg #[.int .i64 x.id, .int .i64 x.fr, .int .i64 x.tn, .int .i64 x.st, .int .i64 x.en, .int .i64 x.rt], .bool b]) ∧ Below w.heap.size w w' := by
  cases b with
  | false =>
    rw [found_none hb] at hx
    subst hx
    exact find_no A n c d id w hd hn h (fun j hj => noHitCo hb (by omega))
  | true =>
    obtain ⟨q, hq, h1, h2⟩ := firstHitCo hb
    have e : gCo d q = x := by
      have h3 := found_of hr (gCo_mem hq)
      rw [← hx, ← h3]
      congr 1
      simpa using h2.symm
    rw [← e]
    exact find_yes A n c d id w q hd hn h (by omega) h1 h2
/-- What a call leaves. -/
structure ActC (d e : List Co) (q wh id : Int) (r : Co) : Prop where
  right : rightC e = true
  same : q ≠ 0 → e = d
  short : e.length ≤ d.length + 1
  keep : ∀ x ∈ d, x.id ≠ id → x ∈ e
  add : q = 0 → wh = 1 → idIn d id = false ∧ r ∈ e ∧ r.id = id ∧ e.length = d.length + 1
  del : q = 0 → wh = 2 → idIn d id = true ∧ idIn e id = false ∧ e.length + 1 = d.length
  chg : q = 0 → wh = 3 → idIn d id = true ∧ withRt (foundC d id) r.rt ∈ e ∧ e.length = d.length
theorem ActC.err {d : List Co} {q wh id : Int} {r : Co} (h : rightC d = true) (hq : q ≠ 0) : ActC d d q wh id r := ⟨h, fun _ => rfl, by omega, fun _ hx _ => hx, fun e => absurd e hq, fun e => absurd e hq, fun e => absurd e hq⟩
theorem filter_one {d : List Co} (h1 : d.Pairwise befC) {id : Int} (h : idIn d id = true) : (d.filter (fun x => !(x.id == id))).length + 1 = d.length := by
  induction d with
  | nil => simp [idIn] at h
  | cons a d ih =>
    rw [List.pairwise_cons] at h1
    rw [List.filter_cons]
    cases hsa : (a.id == id)
    · rw [if_pos (by rfl)]
      simp only [List.length_cons]
      have := ih h1.2 (by unfold idIn at h ⊢; rw [List.any_cons, hsa] at h; simpa using h)
      omega
    · rw [if_neg (by decide)]
      rw [List.filter_eq_self.2 (fun x hx => ?_)]
      · rfl
      · have hl := (h1.1 x hx).2.1
        have : a.id = id := by simpa using hsa
        rw [this] at hl
        simpa using fun e => hl e.symm
end Go.Proofs.Ytfdphpmcgidmiaa.Kc

/- IndexFunc and DeleteFunc at 55-rows, the closure with a state of its own. -/
namespace Go.Proofs.Ytfdphpmcgidmiaa.Kb
open Go.ChangeShapes Go.WideShapes Go.ChangeAt Go.RowKit Go.Sort
set_option linter.unusedSimpArgs false
set_option linter.unusedVariables false
theorem own_same {w w' : World} {base : Nat} {e : TypeId} {size g n c : Nat} {xs : List Value} (h : w.ownsRow base e size (.slice (some ⟨g, 0, none⟩) n c) n xs) (hh : w'.heap[g]? = w.heap[g]?) : w'.ownsRow base e size (.slice (some ⟨g, 0, none⟩) n c) n xs := by
  refine ⟨h.1, ?_⟩
  rcases h.2 with hx | ⟨g', cap, cur, h1, h2, h3, rest⟩
  · exact .inl hx
  · simp only [Value.slice.injEq, Option.some.injEq, Addr.mk.injEq, and_true, true_and] at h1
    obtain ⟨rfl, rfl⟩ := h1
    exact .inr ⟨g, c, cur, rfl, h2, hh.trans h3, rest⟩
/-- A closure that tells p of the k-th of d when it is asked in a world of state k, and leaves one of state k + 1; below base nothing turns, nor does block g0; the state holds on while g0 is written, and behind new blocks. -/
structure PredS (g : FuncId) (lb : Array Value) (g0 base : Nat) (d : List Bk) (p : Bk → Bool) (R : Nat → World → Prop) : Prop where
  run : ∀ vals w, (callFunc g vals).run Try.prog w = .ok (.enter g vals) w
  tells : ∀ k, k < d.length → ∀ W w', R k W → Below W.heap.size W w' → g0 < W.heap.size → base ≤ W.heap.size → Calls Try.prog g (#[.agg #[.int .i64 (gBk d k).id, .int .i64 (gBk d k).ua, .int .i64 (gBk d k).ub, .int .i64 (gBk d k).uc]] ++ lb) w' fun e w'' => e = .returned (.bool (p (gBk d k))) ∧ R (k + 1) w'' ∧ Below base w' w'' ∧ w''.heap[g0]? = w'.heap[g0]? ∧ (∀ b, W.heap.size ≤ b → b < w'.heap.size → w''.heap[b]? = w'.heap[b]?)
  stay : ∀ k w w', R k w → w.grownBy w' (some g0) → R k w'
def qNext (q n : Nat) : Nat := if q < n then q + 1 else n
end Go.Proofs.Ytfdphpmcgidmiaa.Kb

/- BinarySearchFunc at these rows, the target an int. -/
namespace Go.Proofs.Ytfdphpmcgidmiaa.Kb
open Go.ChangeShapes Go.WideShapes Go.ChangeAt Go.RowKit Go.Sort
set_option linter.unusedSimpArgs false
set_option linter.unusedVariables false
/-- A function value that compares with t, as cf says, in whatever world that has grown from W. -/
structure CmpIBk (g : FuncId) (lb : Array Value) (t : Int) (W : World) (cf : Bk → Int) : Prop where
  run : ∀ vals w, (callFunc g vals).run Try.prog w = .ok (.enter g vals) w
  tells : ∀ w', Below W.heap.size W w' → ∀ x : Bk, Calls Try.prog g (#[.agg #[.int .i64 x.id, .int .i64 x.ua, .int .i64 x.ub, .int .i64 x.uc], .int .i64 t] ++ lb) w' fun e w'' => e = .returned (.int .i64 (cf x)) ∧ Below w'.heap.size w' w''
set_option maxHeartbeats 1000000 in
set_option maxRecDepth 100000 in
theorem binaryIBk (A : Option Addr) (n c : Nat) (d : List Bk) (t : Int) (g : FuncId) (lb : Array Value) (cf : Bk → Int) (w : World) (hd : d.length = n) (hn : n ≤ 1000000) (h : Sl w w.heap.size 4 A n c (flatBk d)) (hp : CmpIBk g lb t w cf) :
    Calls Try.prog 95 #[.slice A n c, .int .i64 t, .func (.func g) #[] lb] w fun e w' => ∃ (i : Nat) (b : Bool), e = .returned (.tuple #[.int .i64 i, .bool b]) ∧ i ≤ n ∧ (i = 0 ∨ cf (gBk d (i - 1)) < 0) ∧ (i = n ∨ 0 ≤ cf (gBk d i)) ∧ b = (decide (i < n) && cf (gBk d i) == 0) ∧ Below w.heap.size w w' := by
  have hcf := hp.run
  have HP := Lib.hid hp
  have HD := Lib.hid hd
  clear hp hd
  go_enter Try.func95, Try.ntmps95
  go_wp2
  go_loopw [9, 10] (fun iv jv wr => ∃ i j : Nat, iv = .int .i64 i ∧ jv = .int .i64 j ∧ i ≤ j ∧ j ≤ n ∧ Hid (i = 0 ∨ cf (gBk d (i - 1)) < 0) ∧ Hid (j = n ∨ 0 ≤ cf (gBk d j)) ∧ Below w.heap.size w wr) (fun iv jv _ => (intOf jv - intOf iv).toNat)
  case atStart => exact ⟨0, n, rfl, rfl, by omega, Nat.le_refl _, .inl rfl, .inl rfl, Below.refl _ _⟩
  case round =>
    obtain ⟨i, j, rfl, rfl, hij, hjn, HI, HJ, hB⟩ := hrel
    have hs := hB.size
    by_cases hlt : i < j
    · obtain ⟨m, hm⟩ : ∃ m : Nat, (i + j) / 2 = m := ⟨_, rfl⟩
      have hmi : ((i : Int) + (j : Int)) / 2 = (m : Int) := by omega
      have hm1 : i ≤ m := by omega
      have hm2 : m < j := by omega
      have hmn : m < n := by omega
      have hmI : (m : Int) < (n : Int) := by omega
      clear hm
      obtain ⟨ad, rfl, hab, c0, c1, c2, c3⟩ := (h.below hB).lst.atBk HD.out (k := m) (by omega)
      obtain ⟨x, hx⟩ : ∃ x, gBk d m = x := ⟨_, rfl⟩
      rw [hx] at c0 c1 c2 c3
      have HX := Lib.hid hx
      clear hx
      have ht := HP.out.tells wr hB x
      obtain ⟨y, hy⟩ : ∃ y, cf x = y := ⟨_, rfl⟩
      rw [hy] at ht
      have HT := Lib.hid ht
      have HY := Lib.hid hy
      clear ht hy
      by_cases hneg : y < 0
      · go_wp2_with fail
        refine HT.out.mono ?_
        rintro e w1 ⟨rfl, hbel⟩
        replace hB := hB.trans (hbel.mono hs)
        clear hbel c0 c1 c2 c3 hmi
        go_wp2
        go_roundw
        case rel => exact ⟨m + 1, j, by go_num, rfl, by omega, by omega, (.inr (by rw [Nat.add_sub_cancel, HX.out, HY.out]; exact hneg)), HJ, hB⟩
        case measure => simp [intOf]; omega
      · go_wp2_with fail
        refine HT.out.mono ?_
        rintro e w1 ⟨rfl, hbel⟩
        replace hB := hB.trans (hbel.mono hs)
        clear hbel c0 c1 c2 c3 hmi
        go_wp2
        go_roundw
        case rel => exact ⟨i, m, rfl, rfl, by omega, by omega, HI, (.inr (by rw [HX.out, HY.out]; omega)), hB⟩
        case measure => simp [intOf]; omega
    · obtain rfl : i = j := by omega
      by_cases hin : i < n
      · obtain ⟨ad, rfl, hab, c0, c1, c2, c3⟩ := (h.below hB).lst.atBk HD.out (k := i) (by omega)
        obtain ⟨x, hx⟩ : ∃ x, gBk d i = x := ⟨_, rfl⟩
        rw [hx] at c0 c1 c2 c3
        have HX := Lib.hid hx
        clear hx
        have hini : (i : Int) < (n : Int) := by omega
        have ht := HP.out.tells wr hB x
        obtain ⟨y, hy⟩ : ∃ y, cf x = y := ⟨_, rfl⟩
        rw [hy] at ht
        have HT := Lib.hid ht
        have HY := Lib.hid hy
        clear ht hy
        go_wp2_with fail
        refine HT.out.mono ?_
        rintro e w1 ⟨rfl, hbel⟩
        replace hB := hB.trans (hbel.mono hs)
        clear hbel c0 c1 c2 c3
        go_wp2
        go_ret2
        refine ⟨i, (y == 0), rfl, hjn, HI.out, HJ.out, ?_, hB⟩
        rw [HX.out, HY.out, decide_eq_true hin]; simp
      · have hdn : decide ((i : Int) < (n : Int)) = false := by simp; omega
        go_wp2
        go_ret2
        refine ⟨i, false, rfl, hjn, HI.out, HJ.out, ?_, hB⟩
        rw [decide_eq_false hin]; simp
end Go.Proofs.Ytfdphpmcgidmiaa.Kb
