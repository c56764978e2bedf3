
/- Contract of num.Parse: what number a text says, at all texts. No condition. -/
import Derived.Test.YtggdomeeienjbaaGreatDoorChecked
import Derived.Test.YtggdomeeienjbaaGreatDoorLib
import Derived.Laws.RangeAny
namespace Go.Proofs.YtggdomeeienjbaaGreatDoor
open Go.ChangeShapes Go.WideShapes Go.ChangeAt Go.RowKit Go.Sort
set_option linter.unusedSimpArgs false
set_option linter.unusedVariables false

/-- What digits come to, unless one is none, or the number is too great. -/
def dfold : Int → List UInt8 → Option Int
  | n, [] => some n
  | n, c :: r => if 48 ≤ c.toNat ∧ c.toNat ≤ 57 ∧ n ≤ (9223372036854775807 - ((c.toNat : Int) - 48)) / 10 then dfold (n * 10 + ((c.toNat : Int) - 48)) r else none
def lead (l : List UInt8) : Bool := l.isEmpty || (decide (1 < l.length) && l.head? == some 48)
def parseF (l : List UInt8) (high : Int) : Option Int :=
  if lead l = true then none else match dfold 0 l with
    | some n => if n ≤ high then some n else none
    | none => none

theorem dfold_drop {s : ByteArray} {pos : Nat} (h : pos < s.size) (n : Int) :
    dfold n (s.data.toList.drop pos) = if 48 ≤ (s[pos]'h).toNat ∧ (s[pos]'h).toNat ≤ 57 ∧ n ≤ (9223372036854775807 - (((s[pos]'h).toNat : Int) - 48)) / 10 then dfold (n * 10 + (((s[pos]'h).toNat : Int) - 48)) (s.data.toList.drop (pos + 1)) else none := by
  have h' : pos < s.data.toList.length := by simpa using h
  rw [List.drop_eq_getElem_cons h']
  rfl

def numV (p : Option Int) : Value := match p with
  | some n => .tuple #[.int .i64 n, .bool true]
  | none => .tuple #[.int .i64 0, .bool false]
theorem ret_num_none {p : Option Int} (h : p = none) : Ending.returned (.tuple #[.int .i64 0, .bool false]) = .returned (numV p) := by rw [h]; rfl
theorem ret_num_some {p : Option Int} {n : Int} (h : p = some n) : Ending.returned (.tuple #[.int .i64 n, .bool true]) = .returned (numV p) := by rw [h]; rfl

theorem below_iter (w : World) (s : ByteArray) (pos : Nat) : Below w.heap.size w (w.iter s pos) := (Below.refl _ _).alloc (Nat.le_refl _) _

theorem lead_cases (s : ByteArray) : ((s.toList).isEmpty = true ∧ lead s.data.toList = true) ∨ ((s.toList).isEmpty = false ∧ ∃ h : 0 < s.size, ((1 : Int) < (s.size : Int) ∧ ((((s[0]'h).toNat : Int) == 48) = true) ∧ lead s.data.toList = true ∨
    (¬ (1 : Int) < (s.size : Int) ∨ (1 : Int) < (s.size : Int) ∧ ((((s[0]'h).toNat : Int) == 48) = false)) ∧ lead s.data.toList = false)) := by
  have e : s.toList = s.data.toList := by
    rw [ByteArray.toList_eq]
  have hz : s.size = s.data.toList.length := by simp
  cases hl : s.data.toList with
  | nil => exact .inl ⟨by rw [e, hl]; rfl, by rfl⟩
  | cons c r =>
    have h : 0 < s.size := by rw [hz, hl]; simp
    have hc : s[0]'h = c := by
      have : s.data.toList[0]'(by rw [← hz]; exact h) = c := by simp [hl]
      rw [← this]
      rfl
    refine .inr ⟨by rw [e, hl]; rfl, h, ?_⟩
    rw [hc, hz, hl]
    by_cases h1 : (1 : Int) < ((c :: r).length : Int)
    · by_cases h2 : c = 48
      · refine .inl ⟨h1, by rw [h2]; rfl, ?_⟩
        have : 1 < (c :: r).length := by omega
        simp [lead, h2] at this ⊢
        exact this
      · refine .inr ⟨.inr ⟨h1, ?_⟩, ?_⟩
        · rw [beq_eq_false_iff_ne]
          intro h3
          apply h2
          apply UInt8.toNat_inj.1
          exact Int.ofNat_inj.1 h3
        · simp [lead, h2]
    · refine .inr ⟨.inl h1, ?_⟩
      have : (c :: r).length ≤ 1 := by omega
      simp [lead] at this ⊢
      intro h3
      rw [this] at h3
      simp at h3

set_option maxHeartbeats 1000000 in
set_option maxRecDepth 100000 in
theorem parse_any (s : ByteArray) (high : Int) (hs : s.size ≤ maxLen) (w : World) :
    Calls Tryz.prog 58 #[.string s, .int .i64 high] w fun e w' => e = .returned (numV (parseF s.data.toList high)) ∧ Below w.heap.size w w' := by
  unfold maxLen at hs
  rcases lead_cases s with ⟨h0, hl⟩ | ⟨h0, hp, ⟨h1, h2, hl⟩ | ⟨hc, hl⟩⟩
  · have HP := Lib.hid (show parseF s.data.toList high = none by unfold parseF; rw [if_pos hl])
    clear hl
    go_enter Tryz.func58, Tryz.ntmps58
    go_wp2
    go_ret2
    exact ⟨ret_num_none HP.out, Below.refl _ _⟩
  · have HP := Lib.hid (show parseF s.data.toList high = none by unfold parseF; rw [if_pos hl])
    clear hl
    go_enter Tryz.func58, Tryz.ntmps58
    go_wp2
    go_ret2
    exact ⟨ret_num_none HP.out, Below.refl _ _⟩
  · have HP := Lib.hid (show parseF s.data.toList high = match dfold 0 s.data.toList with | some n => if n ≤ high then some n else none | none => none by unfold parseF; rw [if_neg (by rw [hl]; exact Bool.false_ne_true)])
    clear hl
    rcases hc with hc | ⟨hc1, hc2⟩
    all_goals
      go_enter Tryz.func58, Tryz.ntmps58
      go_wp2
      go_loopw [6] (fun v w' => ∃ (pos : Nat) (n : Int), w' = w.iter s pos ∧ v = .int .i64 n ∧ 0 ≤ n ∧ n ≤ 9223372036854775807 ∧ dfold 0 s.data.toList = dfold n (s.data.toList.drop pos)) (fun _ w' => s.size - w'.iterPos w.heap.size)
      case atStart => exact ⟨0, 0, rfl, rfl, by omega, by omega, rfl⟩
      case round =>
        obtain ⟨pos, n, rfl, rfl, hn0, hn1, hd⟩ := hrel
        have HD := Lib.hid hd
        clear hd
        by_cases hp : pos < s.size
        · have hstep := Lib.hid (dfold_drop hp n)
          obtain ⟨c, hc⟩ : ∃ c : Nat, (s[pos]'hp).toNat = c := ⟨_, rfl⟩
          have hstep2 := hstep.out
          rw [hc] at hstep2
          have HS := Lib.hid hstep2
          clear hstep hstep2
          by_cases ha : c < 128
          · have hnx : ∀ ty, (Instr.next (.pointer (some ⟨w.heap.size, 0, none⟩)) true ty).run Tryz.prog (w.iter s pos) = _ := fun ty => run_next_ascii w s pos ty hp (by rw [hc]; exact ha)
            rw [hc] at hnx
            clear hc
            by_cases hd1 : 48 ≤ c
            · by_cases hd2 : c ≤ 57
              · by_cases hm : n ≤ (9223372036854775807 - ((c : Int) - 48)) / 10
                · have HE := Lib.hid (HS.out.trans (if_pos ⟨hd1, hd2, hm⟩))
                  clear HS
                  go_wp2
                  go_roundw
                  case rel => exact ⟨pos + 1, n * 10 + ((c : Int) - 48), rfl, by first | rfl | go_num, by omega, by omega, HD.out.trans HE.out⟩
                  case measure => simp; omega
                · have HE := Lib.hid (HS.out.trans (if_neg (fun h => hm h.2.2)))
                  clear HS
                  go_wp2
                  go_ret2
                  exact ⟨ret_num_none (by rw [HP.out, HD.out, HE.out]), below_iter _ _ _⟩
              · have HE := Lib.hid (HS.out.trans (if_neg (fun h => hd2 h.2.1)))
                clear HS
                go_wp2
                go_ret2
                exact ⟨ret_num_none (by rw [HP.out, HD.out, HE.out]), below_iter _ _ _⟩
            · have HE := Lib.hid (HS.out.trans (if_neg (fun h => hd1 h.1)))
              clear HS
              go_wp2
              go_ret2
              exact ⟨ret_num_none (by rw [HP.out, HD.out, HE.out]), below_iter _ _ _⟩
          · have HE := Lib.hid (HS.out.trans (if_neg (fun h => by omega)))
            have hh := decode_high s pos hp (by omega)
            have hle := decode_le s pos
            have hnx : ∀ ty, (Instr.next (.pointer (some ⟨w.heap.size, 0, none⟩)) true ty).run Tryz.prog (w.iter s pos) = _ := fun ty => run_next_any w s pos ty hp
            obtain ⟨v, hv⟩ : ∃ v, (Utf8.decode s pos).1 = v := ⟨_, rfl⟩
            obtain ⟨u, hu⟩ : ∃ u, (Utf8.decode s pos).2 = u := ⟨_, rfl⟩
            rw [hv] at hh hle
            simp only [hv, hu] at hnx
            obtain ⟨hh1, _⟩ := hh
            clear HS hv hu hc
            go_wp2
            go_ret2
            exact ⟨ret_num_none (by rw [HP.out, HD.out, HE.out]), below_iter _ _ _⟩
        · have hnx : ∀ ty, (Instr.next (.pointer (some ⟨w.heap.size, 0, none⟩)) true ty).run Tryz.prog (w.iter s pos) = _ := fun ty => run_next_end w s pos ty hp
          have HE := Lib.hid (show dfold 0 s.data.toList = some n by rw [HD.out, List.drop_eq_nil_of_le (by simp; omega)]; rfl)
          by_cases hh : n ≤ high
          · go_wp2
            go_ret2
            exact ⟨ret_num_some (by rw [HP.out, HE.out]; exact if_pos hh), below_iter _ _ _⟩
          · go_wp2
            go_ret2
            exact ⟨ret_num_none (by rw [HP.out, HE.out]; exact if_neg (by omega)), below_iter _ _ _⟩
end Go.Proofs.YtggdomeeienjbaaGreatDoor
