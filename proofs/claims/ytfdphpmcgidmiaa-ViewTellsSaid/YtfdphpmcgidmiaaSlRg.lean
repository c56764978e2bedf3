
/- The generic library's functions at 59-rows: Clone, Equal, Grow, Concat, IndexFunc, ContainsFunc, DeleteFunc. -/
import Derived.Test.YtfdphpmcgidmiaaTyRg
namespace Go.Proofs.Ytfdphpmcgidmiaa
open Go.ChangeShapes Go.WideShapes Go.ChangeAt Go.RowKit Go.Sort
set_option linter.unusedSimpArgs false
set_option linter.unusedVariables false
theorem noHitRg {d : List Rg} {p : Rg → Bool} (h : d.any p = false) {j : Nat} (hj : j < d.length) : p (gRg d j) = false := by
  have := List.any_eq_false.1 h _ (gRg_mem hj)
  simpa using this
theorem firstHitRg {d : List Rg} {p : Rg → Bool} (h : d.any p = true) : ∃ q, q < d.length ∧ (∀ j, j < q → p (gRg d j) = false) ∧ p (gRg d q) = true := by
  have hl : d.findIdx p < d.length := List.findIdx_lt_length.2 (by simpa using h)
  refine ⟨d.findIdx p, hl, fun j hj => ?_, ?_⟩
  · rw [gRg_eq (by omega)]
    have := List.not_of_lt_findIdx hj
    simpa using this
  · rw [gRg_eq hl]
    exact List.findIdx_getElem
/-- A function value that tells p, in whatever world that has grown from W but for this block. -/
structure PredRg (g : FuncId) (lb : Array Value) (row : Option Nat) (W : World) (p : Rg → Bool) : Prop where
  run : ∀ vals w, (callFunc g vals).run Try.prog w = .ok (.enter g vals) w
  tells : ∀ w', W.grownBy w' row → ∀ x : Rg, Calls Try.prog g (#[.agg #[.int .i64 x.fr, .int .i64 x.tn, .int .i64 x.st, .int .i64 x.en, .int .i64 x.ow]] ++ lb) w' fun e w'' => e = .returned (.bool (p x)) ∧ Below w'.heap.size w' w''
theorem PredRg.next {g : FuncId} {lb : Array Value} {row : Option Nat} {W W' : World} {p : Rg → Bool} (h : PredRg g lb row W p) (hg : W.grownBy W' row) : PredRg g lb row W' p := ⟨h.run, fun w' h' x => h.tells w' (grown_trans hg h') x⟩
theorem PredRg.below {g : FuncId} {lb : Array Value} {row : Option Nat} {W W' : World} {p : Rg → Bool} (h : PredRg g lb row W p) (hb : Below W.heap.size W W') : PredRg g lb row W' p := h.next (grown_of_below hb)
set_option maxHeartbeats 1000000 in
set_option maxRecDepth 100000 in
theorem indexRg (A : Option Addr) (n c : Nat) (d : List Rg) (g : FuncId) (lb : Array Value) (row : Option Nat) (p : Rg → Bool) (w : World) (hd : d.length = n) (hn : n ≤ 1000000) (h : Sl w w.heap.size 5 A n c (flatRg d)) (hp : PredRg g lb row w p) (q : Nat) (hq : q ≤ n) (hlow : ∀ j, j < q → p (gRg d j) = false) (hhit : q < n → p (gRg d q) = true) :
    Calls Try.prog 80 #[.slice A n c, .func (.func g) #[] lb] w fun e w' => e = .returned (.int .i64 (idxOf q n)) ∧ Below w.heap.size w w' := by
  have HL := Lib.hid hlow
  have HH := Lib.hid hhit
  have HP := Lib.hid hp
  have hcf := hp.run
  clear hlow hhit hp
  go_enter Try.func80, Try.ntmps80
  go_wp2
  go_loopw [8] (fun i wr => ∃ k : Nat, k ≤ q ∧ i = .int .i64 k ∧ Below w.heap.size w wr) (fun i _ => n - (intOf i).toNat)
  case atStart => exact ⟨0, by omega, rfl, Below.refl _ _⟩
  case round =>
    obtain ⟨k, hk, rfl, hB⟩ := hrel
    by_cases hkn : k < n
    · obtain ⟨ad, rfl, hab, c0, c1, c2, c3, c4⟩ := (h.below hB).lst.atRg hd hkn
      have habw : ad.block < wr.heap.size := by have := hB.size; omega
      by_cases hkq : k < q
      · have hf := HL.out k hkq
        generalize hx : gRg d k = x at *
        have HF := Lib.hid hf
        clear hx hf
        go_wp2_with fail
        refine (HF.out ▸ (HP.out.below hB).tells wr (grown_refl _ _) x).mono ?_
        rintro e w1 ⟨rfl, hb1⟩
        have hB2 := hB.trans (hb1.mono hB.size)
        clear hb1 hB c0 c1 c2 c3 c4
        go_wp2
        go_roundw
        case rel => exact ⟨k + 1, by omega, by go_num, hB2⟩
        case measure => simp [intOf]; omega
      · obtain rfl : k = q := by omega
        have hf := HH.out hkn
        generalize hx : gRg d k = x at *
        have HF := Lib.hid hf
        clear hx hf
        go_wp2_with fail
        refine (HF.out ▸ (HP.out.below hB).tells wr (grown_refl _ _) x).mono ?_
        rintro e w1 ⟨rfl, hb1⟩
        have hB2 := hB.trans (hb1.mono hB.size)
        clear hb1 hB c0 c1 c2 c3 c4
        go_wp2
        go_ret
        exact ⟨by rw [idxOf_yes hkn]; rfl, hB2⟩
    · go_wp2
      go_ret
      exact ⟨by rw [idxOf_no (by omega)]; rfl, hB⟩
set_option maxRecDepth 100000 in
theorem containsRg (A : Option Addr) (n c : Nat) (d : List Rg) (g : FuncId) (lb : Array Value) (row : Option Nat) (p : Rg → Bool) (w : World) (hd : d.length = n) (hn : n ≤ 1000000) (h : Sl w w.heap.size 5 A n c (flatRg d)) (hp : PredRg g lb row w p) :
    Calls Try.prog 51 #[.slice A n c, .func (.func g) #[] lb] w fun e w' => e = .returned (.bool (d.any p)) ∧ Below w.heap.size w w' := by
  have HP := Lib.hid hp
  clear hp
  by_cases ha : d.any p = true
  · obtain ⟨q, hq, h1, h2⟩ := firstHitRg ha
    have hqi : (0 : Int) ≤ (q : Int) := by omega
    go_enter Try.func51, Try.ntmps51
    go_wp2_with fail
    refine (indexRg A n c d g lb row p w hd hn h HP.out q (by omega) h1 (fun _ => h2)).mono ?_
    rintro e w1 ⟨rfl, hB⟩
    rw [idxOf_yes (by omega : q < n)]
    go_wp2
    go_ret
    exact ⟨by rw [ha]; rfl, hB⟩
  · have ha' : d.any p = false := by simpa using ha
    go_enter Try.func51, Try.ntmps51
    go_wp2_with fail
    refine (indexRg A n c d g lb row p w hd hn h HP.out n (Nat.le_refl _) (fun j hj => noHitRg ha' (by omega)) (fun h => by omega)).mono ?_
    rintro e w1 ⟨rfl, hB⟩
    rw [idxOf_no (by omega : ¬ n < n)]
    go_wp2
    go_ret
    exact ⟨by rw [ha']; rfl, hB⟩
theorem filt_nextRg {d : List Rg} {p : Rg → Bool} {j : Nat} (hj : j < d.length) : (d.take (j + 1)).filter (fun x => !p x) = (d.take j).filter (fun x => !p x) ++ if p (gRg d j) = true then [] else [gRg d j] := by
  rw [take_nextRg hj, List.filter_append]
  congr 1
  cases h : p (gRg d j) <;> simp [List.filter_cons, h]
theorem filt_allRg {d : List Rg} {p : Rg → Bool} : ∀ q, q ≤ d.length → (∀ j, j < q → p (gRg d j) = false) → (d.take q).filter (fun x => !p x) = d.take q
  | 0, _, _ => by simp
  | q + 1, h, hl => by
    rw [filt_nextRg (by omega), filt_allRg q (by omega) (fun j hj => hl j (by omega)), if_neg (by rw [hl q (by omega)]; simp), ← take_nextRg (by omega)]
theorem filt_lenRg {d : List Rg} {p : Rg → Bool} (j : Nat) : ((d.take j).filter (fun x => !p x)).length ≤ j := by
  have h1 := List.length_filter_le (fun x => !p x) (d.take j)
  rw [List.length_take] at h1
  omega
theorem set_stepRg {e d : List Rg} {p : Rg → Bool} {i j n : Nat} (he : e.length = n) (hd : d.length = n) (hij : i < j) (hj : j < n) (h1 : e.take i = (d.take j).filter (fun x => !p x)) (h2 : e.drop j = d.drop j) (hp : p (gRg d j) = false) :
    (e.set i (gRg d j)).take (i + 1) = (d.take (j + 1)).filter (fun x => !p x) ∧ (e.set i (gRg d j)).drop (j + 1) = d.drop (j + 1) := by
  refine ⟨?_, ?_⟩
  · rw [filt_nextRg (by omega), if_neg (by rw [hp]; simp), ← h1]
    rw [List.take_succ_eq_append_getElem (by simp; omega), List.getElem_set_self, List.take_set_of_le (Nat.le_refl _)]
  · rw [List.drop_set_of_lt (by omega), ← List.drop_drop, ← List.drop_drop, h2]
theorem drop_atRg {e d : List Rg} {j : Nat} (he : e.length = d.length) (h : e.drop j = d.drop j) (hj : j < d.length) : gRg e j = gRg d j := by
  rw [gRg_eq (by omega), gRg_eq hj]
  have h1 : (e.drop j)[0]'(by simp; omega) = (d.drop j)[0]'(by simp; omega) := by simp [h]
  simpa using h1
/-- Lists, one behind the other. -/
def catRg (d : Nat → List Rg) : Nat → List Rg
  | 0 => []
  | k + 1 => catRg d k ++ d k
theorem catRg_le (d : Nat → List Rg) : ∀ {k m : Nat}, k ≤ m → (catRg d k).length ≤ (catRg d m).length
  | k, 0, h => by
    obtain rfl : k = 0 := by omega
    exact Nat.le_refl _
  | k, m + 1, h => by
    by_cases e : k = m + 1
    · subst e; exact Nat.le_refl _
    · have := catRg_le d (k := k) (m := m) (by omega)
      simp only [catRg, List.length_append]
      omega
/-- A function value that compares with t, as cf says, in whatever world that has grown from W. -/
structure CmpRg (g : FuncId) (lb : Array Value) (t : Rg) (W : World) (cf : Rg → Int) : Prop where
  run : ∀ vals w, (callFunc g vals).run Try.prog w = .ok (.enter g vals) w
  tells : ∀ w', Below W.heap.size W w' → ∀ x : Rg, Calls Try.prog g (#[.agg #[.int .i64 x.fr, .int .i64 x.tn, .int .i64 x.st, .int .i64 x.en, .int .i64 x.ow], .agg #[.int .i64 t.fr, .int .i64 t.tn, .int .i64 t.st, .int .i64 t.en, .int .i64 t.ow]] ++ lb) w' fun e w'' => e = .returned (.int .i64 (cf x)) ∧ Below w'.heap.size w' w''
end Go.Proofs.Ytfdphpmcgidmiaa
