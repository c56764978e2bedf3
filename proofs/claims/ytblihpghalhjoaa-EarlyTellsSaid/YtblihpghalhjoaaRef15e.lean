/- The document's own earliest times: Reaches. It makes new memory alone. -/
import Derived.Test.YtblihpghalhjoaaRef15d
namespace Go.Proofs.Ytblihpghalhjoaa
open Go.ChangeShapes Go.WideShapes Go.ChangeAt Go.RowKit Go.Sort Hp
set_option linter.unusedSimpArgs false
set_option linter.unusedVariables false
/-- Is there a time of that node, of by at the most? -/
def reachB (r : List (Int × Int)) (t b : Int) : Bool := match atR r t with | none => false | some u => decide (u ≤ b)
set_option maxHeartbeats 2000000 in
set_option maxRecDepth 100000 in
theorem rreach15_any (Ae : Option Addr) (ne ce : Nat) (l : List Ed) (q t now size b : Int) (w : World) (hde : l.length = ne) (hne : ne ≤ 200) (hle : Sl w w.heap.size 8 Ae ne ce (flatEd l)) :
    Calls Try.prog 15 #[.slice Ae ne ce, .int .i64 q, .int .i64 t, .int .i64 now, .int .i64 size, .int .i64 b] w fun e w' => ∃ r, IsTimes l q now size [] r ∧ e = .returned (.bool (reachB r t b)) ∧ Below w.heap.size w w' := by
  have HDE := Lib.hid hde
  clear hde
  go_enter Try.func15, Try.ntmps15
  go_wp2_with fail
  refine (rtimes15_any Ae ne ce l q now size none 0 0 [] w HDE.out hne rfl (by omega) hle (Sl.nil0 _ _ _)).mono ?_
  rintro e w1 ⟨A', n', c', r, rfl, hr, hn', hT, hs, hb⟩
  have HR := Lib.hid hr
  have HT := Lib.hid hT
  clear hr hT hle
  obtain ⟨u, hu⟩ : ∃ u, (atR r t).getD 0 = u := ⟨_, rfl⟩
  obtain ⟨ok, hok⟩ : ∃ u, (atR r t).isSome = u := ⟨_, rfl⟩
  have HRB : Hid (reachB r t b = (ok && decide (u ≤ b))) := by
    show reachB r t b = _
    unfold reachB
    rw [← hu, ← hok]
    cases atR r t <;> simp
  have HU := Lib.hid hu
  have HO := Lib.hid hok
  clear hu hok
  go_wp2_with fail
  refine (rat15_any A' n' c' r t w1 HR.out (by omega) hs u ok HU.out HO.out).mono ?_
  rintro e w2 ⟨rfl, hb2⟩
  have hB := hb.trans (hb2.mono hb.size)
  clear hb hb2 hs
  cases ok with
  | false =>
    go_wp2_with fail
    go_ret
    exact ⟨r, HT.out, by rw [HRB.out]; rfl, hB⟩
  | true =>
    by_cases h : u ≤ b
    · have g0 : decide (u ≤ b) = true := decide_eq_true h
      have HG := Lib.hid g0
      clear h
      go_wp2_with fail
      go_ret
      exact ⟨r, HT.out, by rw [HRB.out, HG.out]; rfl, hB⟩
    · have g0 : decide (u ≤ b) = false := decide_eq_false h
      have HG := Lib.hid g0
      clear h
      go_wp2_with fail
      go_ret
      exact ⟨r, HT.out, by rw [HRB.out, HG.out]; rfl, hB⟩
end Go.Proofs.Ytblihpghalhjoaa
