/- Several texts of mine in one: Ref16, Ref16b. No condition. -/
import Derived.Test.YtjkcjbcbnnpmfaaGR
import Derived.Test.YtjkcjbcbnnpmfaaGS

/- The document's own latest times: in; rows in which that of a node is so late at least. It makes new memory alone. -/
namespace Go.Proofs.Ytjkcjbcbnnpmfaa
open Go.ChangeShapes Go.WideShapes Go.ChangeAt Go.RowKit Go.Sort Hp
set_option linter.unusedSimpArgs false
set_option linter.unusedVariables false
set_option maxHeartbeats 1000000 in
set_option maxRecDepth 100000 in
theorem rin16_any (A : Option Addr) (n c : Nat) (d : List Int) (q : Int) (w : World) (hd : d.length = n) (hn : n ≤ 1000000) (h : Sl w w.heap.size 1 A n c (d.map (Value.int .i64))) (b : Bool) (hb : d.contains q = b) :
    Calls Try.prog 28 #[.slice A n c, .int .i64 q] w fun e w' => e = .returned (.bool b) ∧ Below w.heap.size w w' := by
  have HD := Lib.hid hd
  have HL := Lib.hid h
  have HB := Lib.hid hb
  clear hd h hb
  go_enter Try.func28, Try.ntmps28
  go_wp2
  go_loopw [5] (fun iv wr => ∃ (i : Nat), iv = .int .i64 i ∧ i ≤ n ∧ Hid (∀ j, j < i → d.getD j 0 ≠ q) ∧ w = wr) (fun iv _ => n - (intOf iv).toNat)
  case atStart => exact ⟨0, rfl, by omega, fun j hj => by omega, rfl⟩
  case round =>
    obtain ⟨i, rfl, hi, HN, rfl⟩ := hrel
    by_cases hin : i < n
    · obtain ⟨ad, rfl, hab, c0⟩ := HL.out.lst.atI HD.out hin
      obtain ⟨x, hx⟩ : ∃ x, d.getD i 0 = x := ⟨_, rfl⟩
      rw [hx] at c0
      have HX := Lib.hid hx
      clear hx
      by_cases he : x = q
      · have f2 : b = true := by
          rw [← HB.out, List.contains_iff_mem, ← he, ← HX.out, List.getD_eq_getElem?_getD, List.getElem?_eq_getElem (by rw [HD.out]; exact hin)]
          exact List.getElem_mem _
        subst f2
        have hq : (x == q) = true := beq_iff_eq.2 he
        clear he
        go_wp2
        go_ret
        exact ⟨rfl, Below.refl _ _⟩
      · have hq : (x == q) = false := beq_eq_false_iff_ne.2 he
        have HN2 : Hid (∀ j, j < i + 1 → d.getD j 0 ≠ q) := fun j hj => by
          by_cases e : j = i
          · subst e; rw [HX.out]; exact he
          · exact HN.out j (by omega)
        clear he
        go_wp2_with fail
        go_roundw
        case rel => exact ⟨i + 1, by go_num, by omega, HN2, by first | rfl | trivial⟩
        case measure => simp [intOf]; omega
    · have f2 : b = false := by
        rw [← HB.out, Bool.eq_false_iff]
        intro e
        rw [List.contains_iff_mem] at e
        obtain ⟨j, hj, he⟩ := List.getElem_of_mem e
        exact HN.out j (by rw [HD.out] at hj; omega) (by rw [List.getD_eq_getElem?_getD, List.getElem?_eq_getElem hj]; exact he)
      subst f2
      go_wp2
      go_ret
      exact ⟨rfl, Below.refl _ _⟩

/-- Rows in which that of q is a, or what it was, if that was later. -/
def putR (q a : Int) : List (Int × Int) → Bool → List (Int × Int)
  | [], laid => if laid = true then [] else [(q, a)]
  | x :: r, laid => if x.1 = q then (q, max a x.2) :: putR q a r true else if laid = false ∧ q < x.1 then (q, a) :: x :: putR q a r true else x :: putR q a r laid
def putT (T : Int → Option Int) (q a : Int) : Int → Option Int := fun n => if n = q then some (match T q with | none => a | some u => max a u) else T n
theorem putR_true {q a : Int} : ∀ {r : List (Int × Int)}, (∀ x ∈ r, q < x.1) → putR q a r true = r
  | [], _ => rfl
  | x :: r, h => by
    have h1 := h x (List.mem_cons_self ..)
    rw [putR, if_neg (by omega), if_neg (by simp), putR_true (fun y hy => h y (List.mem_cons_of_mem _ hy))]
theorem putR_spec {q a : Int} : ∀ {r : List (Int × Int)}, Srt r → Srt (putR q a r false) ∧ (∀ y ∈ putR q a r false, y.1 = q ∨ ∃ x ∈ r, y.1 = x.1) ∧ atR (putR q a r false) = putT (atR r) q a
  | [], _ => by
    refine ⟨by simp [putR, Srt], fun y hy => ?_, funext fun n => ?_⟩
    · simp [putR] at hy; exact .inl (by rw [hy])
    · unfold putT
      rw [putR, if_neg (by simp), atR_cons, atR_nil, atR_nil]
      by_cases e : n = q
      · rw [if_pos e.symm, if_pos e]
      · rw [if_neg (fun h => e h.symm), if_neg e]
  | x :: r, h => by
    have h1 := List.pairwise_cons.1 h
    by_cases e1 : x.1 = q
    · have hr : putR q a (x :: r) false = (q, max a x.2) :: r := by rw [putR, if_pos e1, putR_true (fun y hy => by have := h1.1 y hy; omega)]
      rw [hr]
      refine ⟨List.pairwise_cons.2 ⟨fun y hy => by have := h1.1 y hy; show q < y.1; omega, h1.2⟩, fun y hy => ?_, funext fun n => ?_⟩
      · rcases List.mem_cons.1 hy with rfl | h2
        · exact .inl rfl
        · exact .inr ⟨y, List.mem_cons_of_mem _ h2, rfl⟩
      · unfold putT
        rw [atR_cons, atR_cons, atR_cons]
        by_cases e : n = q
        · rw [if_pos e.symm, if_pos e, if_pos e1]
        · rw [if_neg (fun h => e h.symm), if_neg e, if_neg (fun h => e (by rw [← h, e1]))]
    · by_cases e2 : q < x.1
      · have hr : putR q a (x :: r) false = (q, a) :: x :: r := by rw [putR, if_neg e1, if_pos ⟨rfl, e2⟩, putR_true (fun y hy => by have := h1.1 y hy; omega)]
        rw [hr]
        have hq : atR (x :: r) q = none := by
          cases hc : atR (x :: r) q with
          | none => rfl
          | some u =>
            rcases List.mem_cons.1 (atR_mem hc) with h2 | h2
            · exact absurd (by rw [← h2]) e1
            · have := h1.1 _ h2; simp only at this; omega
        refine ⟨List.pairwise_cons.2 ⟨fun y hy => ?_, h⟩, fun y hy => ?_, funext fun n => ?_⟩
        · rcases List.mem_cons.1 hy with rfl | h2
          · exact e2
          · have := h1.1 y h2; show q < y.1; omega
        · rcases List.mem_cons.1 hy with rfl | h2
          · exact .inl rfl
          · exact .inr ⟨y, h2, rfl⟩
        · unfold putT
          rw [atR_cons, hq]
          by_cases e : n = q
          · rw [if_pos e.symm, if_pos e]
          · rw [if_neg (fun h => e h.symm), if_neg e]
      · obtain ⟨s1, s2, s3⟩ := putR_spec (q := q) (a := a) h1.2
        have hr : putR q a (x :: r) false = x :: putR q a r false := by rw [putR, if_neg e1, if_neg (fun h => e2 h.2)]
        rw [hr]
        refine ⟨List.pairwise_cons.2 ⟨fun y hy => ?_, s1⟩, fun y hy => ?_, funext fun n => ?_⟩
        · rcases s2 y hy with h2 | ⟨z, hz, h2⟩
          · omega
          · have := h1.1 z hz; omega
        · rcases List.mem_cons.1 hy with rfl | h2
          · exact .inr ⟨y, List.mem_cons_self .., rfl⟩
          · rcases s2 y h2 with h3 | ⟨z, hz, h3⟩
            · exact .inl h3
            · exact .inr ⟨z, List.mem_cons_of_mem _ hz, h3⟩
        · rw [atR_cons, s3]
          unfold putT
          rw [atR_cons, atR_cons]
          by_cases e : n = q
          · subst e; rw [if_neg e1, if_pos rfl, if_pos rfl, if_neg e1]
          · by_cases e3 : x.1 = n
            · rw [if_pos e3, if_neg e, if_pos e3]
            · rw [if_neg e3, if_neg e, if_neg e, if_neg e3]
theorem putR_len {q a : Int} : ∀ (r : List (Int × Int)), (putR q a r true).length ≤ r.length ∧ (putR q a r false).length ≤ r.length + 1
  | [] => by simp [putR]
  | x :: r => by
    obtain ⟨h1, h2⟩ := putR_len (q := q) (a := a) r
    rw [putR, putR]
    by_cases e1 : x.1 = q
    · rw [if_pos e1, if_pos e1]; simp; omega
    · rw [if_neg e1, if_neg e1, if_neg (by simp)]
      by_cases e2 : q < x.1
      · rw [if_pos ⟨rfl, e2⟩]; simp; omega
      · rw [if_neg (fun h => e2 h.2)]; simp; omega
/-- A step, edge by edge. -/
theorem stepL_next {l : List Ed} {size : Int} {op : Int → Bool} {q : Int} {T : Int → Option Int} {k : Nat} (h : k < l.length) :
    (∀ t x, (gEd l k).fr ≠ q → op (gEd l k).tn = true → T (gEd l k).tn = some t → (gEd l k).latest t size = some x → stepL (l.take (k + 1)) size op q T = putT (stepL (l.take k) size op q T) (gEd l k).fr x) ∧
    ((¬ ∃ t x, (gEd l k).fr ≠ q ∧ op (gEd l k).tn = true ∧ T (gEd l k).tn = some t ∧ (gEd l k).latest t size = some x) → stepL (l.take (k + 1)) size op q T = stepL (l.take k) size op q T) := by
  have hs : ∀ n, stepL (l.take (k + 1)) size op q T n = match giveL size op q T n (gEd l k) with | none => stepL (l.take k) size op q T n | some x => some (match stepL (l.take k) size op q T n with | none => x | some y => max y x) := fun n => by
    unfold stepL maxF
    rw [take_nextEd h, List.foldl_append]
    rfl
  refine ⟨fun t x h1 h2 h3 h4 => funext fun n => ?_, fun hno => funext fun n => ?_⟩
  · rw [hs n]
    unfold putT
    by_cases e : n = (gEd l k).fr
    · subst e
      have : giveL size op q T (gEd l k).fr (gEd l k) = some x := by unfold giveL; rw [if_pos ⟨rfl, h1, h2⟩, h3]; exact h4
      rw [this, if_pos rfl]
      cases stepL (l.take k) size op q T (gEd l k).fr with
      | none => rfl
      | some y => simp only; congr 1; omega
    · have : giveL size op q T n (gEd l k) = none := by unfold giveL; rw [if_neg (fun h => e h.1.symm)]
      rw [this, if_neg e]
  · rw [hs n]
    cases hg : giveL size op q T n (gEd l k) with
    | none => rfl
    | some x =>
      obtain ⟨g1, g2, g3, t, g4, g5⟩ := giveL_some hg
      exact absurd ⟨t, x, by rw [g1]; exact g2, g3, g4, g5⟩ hno
end Go.Proofs.Ytjkcjbcbnnpmfaa

/- The document's own latest times: put. It makes new memory alone. -/
namespace Go.Proofs.Ytjkcjbcbnnpmfaa
open Go.ChangeShapes Go.WideShapes Go.ChangeAt Go.RowKit Go.Sort Hp
set_option linter.unusedSimpArgs false
set_option linter.unusedVariables false
set_option maxHeartbeats 4000000 in
set_option maxRecDepth 100000 in
theorem rput16_any (A : Option Addr) (n c : Nat) (d : List (Int × Int)) (q a : Int) (w : World) (hd : d.length = n) (hn : n ≤ 100000) (h : Sl w w.heap.size 2 A n c (flat2 d)) :
    Calls Try.prog 30 #[.slice A n c, .int .i64 q, .int .i64 a] w fun e w' => ∃ v, e = .returned v ∧ w'.ownsRow w.heap.size 36 2 v (putR q a d false).length (flat2 (putR q a d false)) ∧ Below w.heap.size w w' := by
  obtain ⟨i0, hi0, hz0, hz1, hz2⟩ := info_parts ready_info
  have HD := Lib.hid hd
  have HL := Lib.hid h
  clear hd h
  go_enter Try.func30, Try.ntmps30
  go_wp2_with fail
  go_loopw [7, 8, 9] (fun ev bv iv wr => ∃ (i m : Nat) (es : List (Int × Int)) (lb : Bool), iv = .int .i64 i ∧ bv = .bool lb ∧ i ≤ n ∧ m ≤ 2 * i ∧ Hid (es.length = m) ∧ Hid (es ++ putR q a (d.drop i) lb = putR q a d false) ∧ wr.ownsRow w.heap.size 36 2 ev m (flat2 es) ∧ Below w.heap.size w wr) (fun ev bv iv _ => n - (intOf iv).toNat)
  case atStart => exact ⟨0, 0, [], false, rfl, rfl, by omega, by omega, rfl, by simp [Hid], World.ownsRow_nil _ _ _ _, Below.refl _ _⟩
  case round =>
    obtain ⟨i, m, es, lb, rfl, rfl, hi, hm, HE, HF, hown, hB⟩ := hrel
    have hs := hB.size
    obtain ⟨Ae, ce, rfl⟩ := slice_of_own hown
    have HNW := Lib.hid hown
    clear hown
    by_cases hin : i < n
    · obtain ⟨ad, rfl, hab, c0, c1⟩ := (HL.out.up hB).lst.fst2 HD.out hin
      obtain ⟨x, hx⟩ : ∃ x, gt d i = x := ⟨_, rfl⟩
      have hdr := drop_cons2 (d := d) (i := i) (by rw [HD.out]; exact hin)
      rw [hx] at c0 c1 hdr
      have HX := Lib.hid hx
      have HD2 := Lib.hid hdr
      clear hx hdr
      by_cases he : x.1 = q
      · have HNX : Hid (es ++ [(q, max a x.2)] ++ putR q a (d.drop (i + 1)) true = putR q a d false) := by
          have h := HF.out
          rw [HD2.out, putR, if_pos he] at h
          rw [List.append_assoc]
          exact h
        have g1 : (x.1 == q) = true := beq_iff_eq.2 he
        clear he
        rcases (by omega : (a < x.2 ∧ max a x.2 = x.2) ∨ (¬ a < x.2 ∧ max a x.2 = a)) with ⟨hm1, hmx⟩ | ⟨hm1, hmx⟩
        · rw [hmx] at HNX
          clear hmx
          go_wp2_with (at_builtin; refine wpList_append_own _ rfl _ _ 29 rfl w.heap.size 36 i0 _ 2 16 Try.underlying29 hi0 hz0 hz1 hz2 rfl (by decide) _ _ _ rfl (HNW.out.alloc _) ⟨wr.heap.size, 0, none⟩ 1 1 [.int .i64 q, .int .i64 x.2] rfl rfl (by exact lit_cells wr #[.int .i64 q, .int .i64 x.2] _ _ rfl) (by simp [Value.oneCell']) (by unfold maxLen; omega) (by omega) (by simp; omega) ?_; intro v' w3 hown' hgrow3 hnil3; clear hnil3)
          clear c0 c1
          have hbN : Below w.heap.size w w3 := (hB.alloc hs _).grown hgrow3 (by simp; omega) (fun q' hq => by have := (HNW.out.lt q' hq).1; omega)
          have HN2 := Lib.hid hown'
          clear hgrow3 hown'
          go_roundw
          case rel => exact ⟨i + 1, m + 1, es ++ [(q, x.2)], true, by go_num, rfl, by omega, by omega, by simp [Hid, HE.out], HNX, (by rw [flat2_append]; exact HN2.out), hbN⟩
          case measure => simp [intOf]; omega
        · rw [hmx] at HNX
          clear hmx
          go_wp2_with (at_builtin; refine wpList_append_own _ rfl _ _ 29 rfl w.heap.size 36 i0 _ 2 16 Try.underlying29 hi0 hz0 hz1 hz2 rfl (by decide) _ _ _ rfl (HNW.out.alloc _) ⟨wr.heap.size, 0, none⟩ 1 1 [.int .i64 q, .int .i64 a] rfl rfl (by exact lit_cells wr #[.int .i64 q, .int .i64 a] _ _ rfl) (by simp [Value.oneCell']) (by unfold maxLen; omega) (by omega) (by simp; omega) ?_; intro v' w3 hown' hgrow3 hnil3; clear hnil3)
          clear c0 c1
          have hbN : Below w.heap.size w w3 := (hB.alloc hs _).grown hgrow3 (by simp; omega) (fun q' hq => by have := (HNW.out.lt q' hq).1; omega)
          have HN2 := Lib.hid hown'
          clear hgrow3 hown'
          go_roundw
          case rel => exact ⟨i + 1, m + 1, es ++ [(q, a)], true, by go_num, rfl, by omega, by omega, by simp [Hid, HE.out], HNX, (by rw [flat2_append]; exact HN2.out), hbN⟩
          case measure => simp [intOf]; omega
      · have g1 : (x.1 == q) = false := beq_eq_false_iff_ne.2 he
        by_cases hc : lb = false ∧ q < x.1
        · obtain ⟨rfl, hlt⟩ := hc
          have HNX : Hid (es ++ [(q, a)] ++ [x] ++ putR q a (d.drop (i + 1)) true = putR q a d false) := by
            have h := HF.out
            rw [HD2.out, putR, if_neg he, if_pos ⟨rfl, hlt⟩] at h
            rw [List.append_assoc, List.append_assoc]
            exact h
          have g2 : decide (q < x.1) = true := decide_eq_true hlt
          clear he hlt
          go_upto_region 12 with (at_builtin; refine wpList_append_own _ rfl _ _ 29 rfl w.heap.size 36 i0 _ 2 16 Try.underlying29 hi0 hz0 hz1 hz2 rfl (by decide) _ _ _ rfl (HNW.out.alloc _) ⟨wr.heap.size, 0, none⟩ 1 1 [.int .i64 q, .int .i64 a] rfl rfl (by exact lit_cells wr #[.int .i64 q, .int .i64 a] _ _ rfl) (by simp [Value.oneCell']) (by unfold maxLen; omega) (by omega) (by simp; omega) ?_; intro v' w3 hown' hgrow3 hnil3; clear hnil3)
          clear c0 c1
          have hbN : Below w.heap.size w w3 := (hB.alloc hs _).grown hgrow3 (by simp; omega) (fun q' hq => by have := (HNW.out.lt q' hq).1; omega)
          have hsN := hbN.size
          obtain ⟨ad2, hA2, hab2, c0, c1⟩ := (HL.out.up hbN).lst.fst2 HD.out hin
          rw [HX.out] at c0 c1
          injection hA2 with hA2
          subst hA2
          obtain ⟨A3, q3, rfl⟩ := slice_of_own hown'
          have HN3 := Lib.hid hown'
          clear hgrow3 hown'
          go_wp2_with (at_builtin; refine wpList_append_own _ rfl _ _ 29 rfl w.heap.size 36 i0 _ 2 16 Try.underlying29 hi0 hz0 hz1 hz2 rfl (by decide) _ _ _ rfl (HN3.out.alloc _) ⟨w3.heap.size, 0, none⟩ 1 1 [.int .i64 x.1, .int .i64 x.2] rfl rfl (by exact lit_cells w3 #[.int .i64 x.1, .int .i64 x.2] _ _ rfl) (by simp [Value.oneCell']) (by unfold maxLen; omega) (by omega) (by simp; omega) ?_; intro v4 w4 hown4 hgrow4 hnil4; clear hnil4)
          have hbM : Below w.heap.size w w4 := (hbN.alloc hsN _).grown hgrow4 (by simp; omega) (fun q' hq => by have := (HN3.out.lt q' hq).1; omega)
          have HN4 := Lib.hid hown4
          clear c0 c1 hgrow4 hown4
          go_roundw
          case rel => exact ⟨i + 1, m + 2, es ++ [(q, a)] ++ [x], true, by go_num, rfl, by omega, by omega, by simp [Hid, HE.out], HNX, (by rw [flat2_append, flat2_append]; exact HN4.out), hbM⟩
          case measure => simp [intOf]; omega
        · have HNX : Hid (es ++ [x] ++ putR q a (d.drop (i + 1)) lb = putR q a d false) := by
            have h := HF.out
            rw [HD2.out, putR, if_neg he, if_neg hc] at h
            rw [List.append_assoc]
            exact h
          have hcs : lb = true ∨ (lb = false ∧ ¬ q < x.1) := by
            cases lb with
            | true => exact .inl rfl
            | false => exact .inr ⟨rfl, fun h => hc ⟨rfl, h⟩⟩
          clear he hc
          rcases hcs with rfl | ⟨rfl, hlt⟩
          · go_wp2_with (at_builtin; refine wpList_append_own _ rfl _ _ 29 rfl w.heap.size 36 i0 _ 2 16 Try.underlying29 hi0 hz0 hz1 hz2 rfl (by decide) _ _ _ rfl (HNW.out.alloc _) ⟨wr.heap.size, 0, none⟩ 1 1 [.int .i64 x.1, .int .i64 x.2] rfl rfl (by exact lit_cells wr #[.int .i64 x.1, .int .i64 x.2] _ _ rfl) (by simp [Value.oneCell']) (by unfold maxLen; omega) (by omega) (by simp; omega) ?_; intro v' w3 hown' hgrow3 hnil3; clear hnil3)
            clear c0 c1
            have hbN : Below w.heap.size w w3 := (hB.alloc hs _).grown hgrow3 (by simp; omega) (fun q' hq => by have := (HNW.out.lt q' hq).1; omega)
            have HN2 := Lib.hid hown'
            clear hgrow3 hown'
            go_roundw
            case rel => exact ⟨i + 1, m + 1, es ++ [x], true, by go_num, rfl, by omega, by omega, by simp [Hid, HE.out], HNX, (by rw [flat2_append]; exact HN2.out), hbN⟩
            case measure => simp [intOf]; omega
          · have g2 : decide (q < x.1) = false := decide_eq_false hlt
            clear hlt
            go_wp2_with (at_builtin; refine wpList_append_own _ rfl _ _ 29 rfl w.heap.size 36 i0 _ 2 16 Try.underlying29 hi0 hz0 hz1 hz2 rfl (by decide) _ _ _ rfl (HNW.out.alloc _) ⟨wr.heap.size, 0, none⟩ 1 1 [.int .i64 x.1, .int .i64 x.2] rfl rfl (by exact lit_cells wr #[.int .i64 x.1, .int .i64 x.2] _ _ rfl) (by simp [Value.oneCell']) (by unfold maxLen; omega) (by omega) (by simp; omega) ?_; intro v' w3 hown' hgrow3 hnil3; clear hnil3)
            clear c0 c1
            have hbN : Below w.heap.size w w3 := (hB.alloc hs _).grown hgrow3 (by simp; omega) (fun q' hq => by have := (HNW.out.lt q' hq).1; omega)
            have HN2 := Lib.hid hown'
            clear hgrow3 hown'
            go_roundw
            case rel => exact ⟨i + 1, m + 1, es ++ [x], false, by go_num, rfl, by omega, by omega, by simp [Hid, HE.out], HNX, (by rw [flat2_append]; exact HN2.out), hbN⟩
            case measure => simp [intOf]; omega
    · obtain rfl : i = n := by omega
      have hnil : d.drop i = [] := List.drop_of_length_le (by rw [HD.out]; omega)
      have h := HF.out
      rw [hnil] at h
      cases lb with
      | true =>
        have HF2 := Lib.hid h
        have HE2 : Hid ((putR q a d false).length = m) := by
          show _ = m
          rw [← h, putR, if_pos rfl, List.append_nil]; exact HE.out
        clear h hnil
        go_wp2_with fail
        go_ret
        refine ⟨_, rfl, ?_, hB⟩
        rw [HE2.out, ← HF2.out, putR, if_pos rfl, List.append_nil]
        exact HNW.out
      | false =>
        have HF2 := Lib.hid h
        have HE2 : Hid ((putR q a d false).length = m + 1) := by
          show _ = m + 1
          rw [← h, putR, if_neg (by simp), List.length_append, HE.out]; rfl
        clear h hnil
        go_wp2_with (at_builtin; refine wpList_append_own _ rfl _ _ 29 rfl w.heap.size 36 i0 _ 2 16 Try.underlying29 hi0 hz0 hz1 hz2 rfl (by decide) _ _ _ rfl (HNW.out.alloc _) ⟨wr.heap.size, 0, none⟩ 1 1 [.int .i64 q, .int .i64 a] rfl rfl (by exact lit_cells wr #[.int .i64 q, .int .i64 a] _ _ rfl) (by simp [Value.oneCell']) (by unfold maxLen; omega) (by omega) (by simp; omega) ?_; intro v' w3 hown' hgrow3 hnil3; clear hnil3)
        have hbN : Below w.heap.size w w3 := (hB.alloc hs _).grown hgrow3 (by simp; omega) (fun q' hq => by have := (HNW.out.lt q' hq).1; omega)
        have HN2 := Lib.hid hown'
        clear hgrow3 hown'
        go_ret
        refine ⟨_, rfl, ?_, hbN⟩
        rw [HE2.out, ← HF2.out, putR, if_neg (by simp), flat2_append]
        exact HN2.out
end Go.Proofs.Ytjkcjbcbnnpmfaa
