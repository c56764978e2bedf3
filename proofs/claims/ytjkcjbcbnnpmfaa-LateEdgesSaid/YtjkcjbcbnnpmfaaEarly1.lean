/- The program's At. It makes new memory alone. -/
import Derived.Test.YtjkcjbcbnnpmfaaGR
namespace Go.Proofs.Ytjkcjbcbnnpmfaa
open Go.ChangeShapes Go.WideShapes Go.ChangeAt Go.RowKit Go.Sort Hp
set_option linter.unusedSimpArgs false
set_option linter.unusedVariables false
set_option maxHeartbeats 1000000 in
set_option maxRecDepth 100000 in
theorem eat_any (A : Option Addr) (n c : Nat) (d : List (Int × Int)) (q : Int) (w : World) (hd : d.length = n) (hn : n ≤ 1000000) (h : Sl w w.heap.size 2 A n c (flat2 d)) (u : Int) (b : Bool) (hu : (atR d q).getD 0 = u) (hb : (atR d q).isSome = b) :
    Calls Try.prog 14 #[.slice A n c, .int .i64 q] w fun e w' => e = .returned (.tuple #[.int .i64 u, .bool b]) ∧ Below w.heap.size w w' := by
  have HD := Lib.hid hd
  have HL := Lib.hid h
  have HU := Lib.hid hu
  have HB := Lib.hid hb
  clear hd h hu hb
  go_enter Try.func14, Try.ntmps14
  go_wp2
  go_loopw [10] (fun iv wr => ∃ (i : Nat), iv = .int .i64 i ∧ i ≤ n ∧ Hid (∀ j, j < i → (gt d j).1 ≠ q) ∧ Below w.heap.size w wr) (fun iv _ => n - (intOf iv).toNat)
  case atStart => exact ⟨0, rfl, by omega, fun j hj => by omega, Below.refl _ _⟩
  case round =>
    obtain ⟨i, rfl, hi, HN, hB⟩ := hrel
    have hs := hB.size
    by_cases hin : i < n
    · obtain ⟨ad, rfl, hab, c0, c1⟩ := (HL.out.up hB).lst.fst2 HD.out hin
      obtain ⟨x, hx⟩ : ∃ x, gt d i = x := ⟨_, rfl⟩
      rw [hx] at c0 c1
      have HX := Lib.hid hx
      clear hx
      have hX := Blok.new wr 36 #[.int .i64 x.1, .int .i64 x.2]
      have hb : Below wr.heap.size wr (wr.alloc (.cells #[.int .i64 x.1, .int .i64 x.2] 36)) := by (repeat (first | exact Below.refl _ _ | refine Below.alloc ?_ (by first | omega | (simp; done) | (simp; omega)) _ | refine Below.setCell ?_ (by first | omega | (simp; done) | (simp; omega)) _ | refine Below.drew ?_))
      have hB2 := hB.trans (hb.mono hs)
      go_upto_region 4 with fail
      clear c0 c1 hb hB hs
      generalize wr.alloc (.cells #[.int .i64 x.1, .int .i64 x.2] 36) = w2 at *
      generalize wr.heap.size = bx at *
      have k0 : w2.cell? ⟨bx, 0, none⟩ = some (.int .i64 x.1) := hX.cell 0
      have k1 : w2.cell? ⟨bx, 1, none⟩ = some (.int .i64 x.2) := hX.cell 1
      have lt_x := hX.lt
      by_cases he : x.1 = q
      · have hff := atR_at (d := d) (i := i) (n := q) (by rw [HD.out]; exact hin) (by rw [HX.out]; exact he) HN.out
        have f1 : x.2 = u := by rw [← HU.out, hff, HX.out]; rfl
        have f2 : b = true := by rw [← HB.out, hff]; rfl
        clear hff
        subst f2
        have hq : (x.1 == q) = true := beq_iff_eq.2 he
        rw [f1] at k1
        clear he f1
        go_wp2
        exact bodyPost_ret (v := .tuple #[.int .i64 u, .bool true]) (by simp [results, Try.results14, go_sem]) rfl ⟨rfl, hB2⟩
      · have hq : (x.1 == q) = false := beq_eq_false_iff_ne.2 he
        have HN2 : Hid (∀ j, j < i + 1 → (gt d j).1 ≠ q) := fun j hj => by
          by_cases e : j = i
          · subst e; rw [HX.out]; exact he
          · exact HN.out j (by omega)
        clear he
        go_wp2_with fail
        go_roundw
        case rel => exact ⟨i + 1, by go_num, by omega, HN2, hB2⟩
        case measure => simp [intOf]; omega
    · have hff := atR_off (d := d) (n := q) (fun j hj => HN.out j (by rw [HD.out] at hj; omega))
      have f1 : u = 0 := by rw [← HU.out, hff]; rfl
      have f2 : b = false := by rw [← HB.out, hff]; rfl
      clear hff
      subst f1 f2
      go_wp2
      exact bodyPost_ret (v := .tuple #[.int .i64 0, .bool false]) (by simp [results, Try.results14, go_sem]) rfl ⟨rfl, hB⟩
end Go.Proofs.Ytjkcjbcbnnpmfaa
