
/- cmp.Compare and cmp.Or at int. No condition. -/
import Derived.Test.YtfdphpmcgidmiaaChecked
import Derived.Test.YtfdphpmcgidmiaaSlLib
namespace Go.Proofs.Ytfdphpmcgidmiaa
open Go.ChangeShapes Go.WideShapes Go.ChangeAt Go.RowKit Go.Sort
set_option linter.unusedSimpArgs false
set_option linter.unusedVariables false
def cmpI (a b : Int) : Int := if a < b then -1 else if b < a then 1 else 0
theorem cmpI_lt {a b : Int} (h : a < b) : cmpI a b = -1 := if_pos h
theorem cmpI_gt {a b : Int} (h : b < a) : cmpI a b = 1 := by unfold cmpI; rw [if_neg (by omega), if_pos h]
theorem cmpI_eq (a : Int) : cmpI a a = 0 := by unfold cmpI; rw [if_neg (by omega), if_neg (by omega)]
theorem cmpI_zero {a b : Int} : cmpI a b = 0 ↔ a = b := by
  unfold cmpI; constructor
  · intro h; split at h
    · omega
    · split at h <;> omega
  · rintro rfl; rw [if_neg (by omega), if_neg (by omega)]
def orF : List Int → Int
  | [] => 0
  | x :: l => if x = 0 then orF l else x
theorem nan_any (a : Int) (w : World) : Calls Try.prog 74 #[.int .i64 a] w fun e w' => e = .returned (.bool false) ∧ w = w' := by
  have hz : (a != a) = false := by simp
  go_enter Try.func74, Try.ntmps74
  go_wp2
  go_ret
  exact ⟨rfl, rfl⟩
theorem cmp_any (a b : Int) (w : World) : Calls Try.prog 44 #[.int .i64 a, .int .i64 b] w fun e w' => e = .returned (.int .i64 (cmpI a b)) ∧ w = w' := by
  by_cases h1 : a < b
  · rw [cmpI_lt h1]
    go_enter Try.func44, Try.ntmps44
    go_wp2_with (go_at_call 74; refine (nan_any _ _).mono ?_; rintro e w' ⟨rfl, rfl⟩)
    go_ret
    exact ⟨rfl, rfl⟩
  · by_cases h2 : b < a
    · rw [cmpI_gt h2]
      go_enter Try.func44, Try.ntmps44
      go_wp2_with (go_at_call 74; refine (nan_any _ _).mono ?_; rintro e w' ⟨rfl, rfl⟩)
      go_ret
      exact ⟨rfl, rfl⟩
    · have h0 : cmpI a b = 0 := cmpI_zero.2 (by omega)
      rw [h0]
      go_enter Try.func44, Try.ntmps44
      go_wp2_with (go_at_call 74; refine (nan_any _ _).mono ?_; rintro e w' ⟨rfl, rfl⟩)
      go_ret
      exact ⟨rfl, rfl⟩
theorem orF_next : ∀ (l : List Int) (k : Nat), k < l.length → (∀ j, j < k → l.getD j 0 = 0) → l.getD k 0 ≠ 0 → orF l = l.getD k 0
  | x :: l, 0, _, _, h => by simp [orF] at *; intro e; exact absurd e h
  | x :: l, k + 1, hk, hz, h => by
    have h0 : x = 0 := by simpa using hz 0 (by omega)
    rw [orF, if_pos h0]
    simpa using orF_next l k (by simpa using hk) (fun j hj => by simpa using hz (j + 1) (by omega)) (by simpa using h)
theorem orF_zero : ∀ (l : List Int), (∀ j, j < l.length → l.getD j 0 = 0) → orF l = 0
  | [], _ => rfl
  | x :: l, h => by
    have h0 : x = 0 := by simpa using h 0 (by simp)
    rw [orF, if_pos h0]
    exact orF_zero l (fun j hj => by simpa using h (j + 1) (by simpa using hj))
theorem or_any (g m c : Nat) (l : List Int) (w : World) (hm : l.length = m) (hm2 : m ≤ 1000) (hc : ∀ k, k < m → w.cell? ⟨g, k, none⟩ = some (.int .i64 (l.getD k 0))) :
    Calls Try.prog 82 #[.slice (some ⟨g, 0, none⟩) m c] w fun e w' => e = .returned (.int .i64 (orF l)) ∧ w = w' := by
  have HC := Lib.hid hc
  have HM := Lib.hid hm
  clear hc hm
  go_enter Try.func82, Try.ntmps82
  go_wp2
  go_loop [8] (fun i => ∃ k : Nat, k ≤ m ∧ i = .int .i64 k ∧ Hid (∀ j, j < k → l.getD j 0 = 0)) (fun i => m - (intOf i).toNat)
  case atStart => exact ⟨0, by omega, rfl, fun j hj => by omega⟩
  case round =>
    obtain ⟨k, hk, rfl, HZ⟩ := hrel
    by_cases hkm : k < m
    · have hck := HC.out k hkm
      obtain ⟨y, hy⟩ : ∃ y, l.getD k 0 = y := ⟨_, rfl⟩
      rw [hy] at hck
      have HY := Lib.hid hy
      clear hy
      by_cases h0 : y = 0
      · have hb : (y != 0) = false := by simp [h0]
        have H0 := Lib.hid h0
        clear h0
        go_wp2
        go_round
        case rel => exact ⟨k + 1, by omega, by go_num, fun j hj => by
          by_cases e : j = k
          · rw [e, HY.out]; exact H0.out
          · exact HZ.out j (by omega)⟩
        case measure => simp [intOf]; omega
      · have hb : (y != 0) = true := by simpa using h0
        have hfin : orF l = y := by rw [← HY.out]; exact orF_next l k (by have := HM.out; omega) HZ.out (by rw [HY.out]; exact h0)
        have HF := Lib.hid hfin
        clear hfin h0
        go_wp2
        go_ret
        exact ⟨by rw [HF.out]; rfl, rfl⟩
    · have hfin : orF l = 0 := orF_zero l (fun j hj => HZ.out j (by have := HM.out; omega))
      have HF := Lib.hid hfin
      clear hfin
      go_wp2
      go_ret
      exact ⟨by rw [HF.out]; rfl, rfl⟩
end Go.Proofs.Ytfdphpmcgidmiaa
