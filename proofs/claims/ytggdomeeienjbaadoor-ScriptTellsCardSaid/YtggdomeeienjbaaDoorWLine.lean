
/- Words as a line: contracts of words.Line and of the document's own. Conditions on sizes alone. -/
import Derived.Test.YtggdomeeienjbaaDoorWRef
import Derived.Test.YtggdomeeienjbaaDoorShelf
namespace Go.Proofs.YtggdomeeienjbaaDoor
open Go.ChangeShapes Go.WideShapes Go.ChangeAt Go.RowKit Go.Sort
set_option linter.unusedSimpArgs false
set_option linter.unusedVariables false
def jn (l : List Bytes) : Bytes := ([32] : Bytes).intercalate l
theorem jn_cons (a b : Bytes) (r : List Bytes) : jn (a :: b :: r) = a ++ [32] ++ jn (b :: r) := by simp [jn, List.intercalate, List.intersperse]
theorem jn_one (a : Bytes) : jn [a] = a := by simp [jn, List.intercalate, List.intersperse]
theorem jn_nil : jn [] = [] := by simp [jn, List.intercalate, List.intersperse]
theorem jn_snoc : ∀ (l : List Bytes) (x : Bytes), l ≠ [] → jn (l ++ [x]) = jn l ++ [32] ++ x
  | [], _, h => absurd rfl h
  | [a], x, _ => by rw [List.cons_append, List.nil_append, jn_cons, jn_one, jn_one]
  | a :: b :: r, x, _ => by
    have := jn_snoc (b :: r) x (by simp)
    rw [List.cons_append, List.cons_append, jn_cons, jn_cons, ← List.cons_append, this]
    simp
theorem jn_len {B : Nat} : ∀ (l : List Bytes), (∀ x ∈ l, x.length ≤ B) → (jn l).length ≤ l.length * (B + 1)
  | [], _ => by simp [jn_nil]
  | [a], h => by rw [jn_one]; have := h a (by simp); simp; omega
  | a :: b :: r, h => by
    have h1 := h a (by simp)
    have h2 := jn_len (b :: r) (fun x hx => h x (by simp at hx ⊢; exact .inr hx))
    rw [jn_cons]
    simp only [List.length_append, List.length_cons, List.length_nil] at h2 ⊢
    rw [Nat.add_mul, Nat.one_mul]
    omega
theorem lineL_eq (l : List Bytes) : lineL l = jn l ++ [10] := rfl
theorem gS_mem {d : List Bytes} {i : Nat} (h : i < d.length) : gS d i ∈ d := by rw [gS_eq h]; exact List.getElem_mem h
set_option maxHeartbeats 1000000 in
set_option maxRecDepth 100000 in
theorem rline_any (A : Option Addr) (n c : Nat) (d : List Bytes) (w : World) (hd : d.length = n) (hn : n ≤ 1000) (hb : ∀ x ∈ d, x.length ≤ 1000) (h : Sl w w.heap.size 1 A n c (vs d)) :
    Calls Tryd.prog 39 #[.slice A n c] w fun e w' => e = .returned (.string (bs (lineL d))) ∧ Below w.heap.size w w' := by
  have HD := Lib.hid hd
  have HL := Lib.hid h
  have HBD := Lib.hid hb
  clear hd h hb
  go_enter Tryd.func39, Tryd.ntmps39
  go_wp2
  go_loopw [3, 4] (fun sv iv wr => ∃ (i : Nat) (sb : ByteArray), sv = .string sb ∧ iv = .int .i64 i ∧ i ≤ n ∧ Hid (sb = bs (jn (d.take i))) ∧ sb.size ≤ i * 1001 ∧ wr = w) (fun _ iv _ => n - (intOf iv).toNat)
  case atStart => exact ⟨0, bs [], rfl, rfl, by omega, by simp [Hid, jn_nil], by simp [bs, ByteArray.size], rfl⟩
  case round =>
    obtain ⟨i, sb, rfl, rfl, hi, HS, hsz, rfl⟩ := hrel
    by_cases hin : i < n
    · obtain ⟨ad, rfl, hab, c0⟩ := HL.out.lst.atS HD.out hin
      obtain ⟨x, hx⟩ : ∃ x, bs (gS d i) = x := ⟨_, rfl⟩
      have hxs : x.size ≤ 1000 := by rw [← hx, bs_size]; exact HBD.out _ (gS_mem (by rw [HD.out]; exact hin))
      rw [hx] at c0
      have HX := Lib.hid hx
      clear hx
      have htk := take_nextS (l := d) (k := i) (by rw [HD.out]; exact hin)
      by_cases h0 : i = 0
      · subst h0
        have hn0 : sb.size = 0 := by omega
        have hj : sb ++ x = bs (jn (d.take (0 + 1))) := by
          rw [HS.out, ← HX.out, bs_append, htk]; simp [jn_one, jn_nil]
        have hjs : (sb ++ x).size ≤ 1 * 1001 := by rw [ByteArray.size_append]; omega
        have HJ := Lib.hid hj
        have c1 : wr.cell? ad = some (.string x) := by simpa [Addr.add] using c0
        clear hj htk c0
        simp only [Int.natCast_zero]
        go_wp2_with fail
        go_roundw
        case rel => exact ⟨1, sb ++ x, rfl, by go_num, by omega, HJ, hjs, by first | rfl | trivial⟩
        case measure => simp [intOf]; omega
      · have hpos : 0 < i := by omega
        have hg : decide ((i : Int) > 0) = true := by simp; omega
        have hj : sb ++ ⟨#[32]⟩ ++ x = bs (jn (d.take (i + 1))) := by
          rw [HS.out, ← HX.out, show (⟨#[32]⟩ : ByteArray) = bs [32] from rfl, bs_append, bs_append, htk, jn_snoc]
          intro e
          have := congrArg List.length e
          rw [List.length_take, HD.out] at this
          simp at this
          omega
        have hjs : (sb ++ ⟨#[32]⟩ ++ x).size ≤ (i + 1) * 1001 := by
          rw [ByteArray.size_append, ByteArray.size_append, show (⟨#[32]⟩ : ByteArray).size = 1 from rfl, Nat.add_mul, Nat.one_mul]; omega
        have h1 : (sb ++ (⟨#[32]⟩ : ByteArray)).size ≤ i * 1001 + 1 := by
          rw [ByteArray.size_append, show (⟨#[32]⟩ : ByteArray).size = 1 from rfl]; omega
        have h2 : i * 1001 ≤ 1001000 := by omega
        have HJ := Lib.hid hj
        clear hj htk h0
        go_wp2_with fail
        go_roundw
        case rel => exact ⟨i + 1, sb ++ ⟨#[32]⟩ ++ x, rfl, by go_num, by omega, HJ, hjs, by first | rfl | trivial⟩
        case measure => simp [intOf]; omega
    · have hie : i = n := by omega
      subst hie
      have hf : sb ++ ⟨#[10]⟩ = bs (lineL d) := by
        rw [HS.out, show (⟨#[10]⟩ : ByteArray) = bs [10] from rfl, bs_append, lineL_eq, List.take_of_length_le (by rw [HD.out]; omega)]
      have HF := Lib.hid hf
      have h2 : sb.size ≤ 1001000 := by omega
      clear hf
      go_wp2_with fail
      go_ret
      exact ⟨by rw [← HF.out]; rfl, Below.refl _ _⟩
theorem vs_xs (d : List Bytes) : (d.map bs).map (·.data.toList) = d := by
  rw [List.map_map, List.map_congr_left (g := id) (fun x _ => by simp [bs_list]), List.map_id]
set_option maxHeartbeats 1000000 in
set_option maxRecDepth 100000 in
theorem line_any (A : Option Addr) (n c : Nat) (d : List Bytes) (w : World) (hd : d.length = n) (hn : n ≤ 1000) (hb : ∀ x ∈ d, x.length ≤ 1000) (h : Sl w w.heap.size 1 A n c (vs d)) :
    Calls Tryd.prog 25 #[.slice A n c] w fun e w' => e = .returned (.string (bs (lineL d))) ∧ Below w.heap.size w w' := by
  have hjl := jn_len d hb
  have hj1 : (jn d).length ≤ 1001000 := by rw [hd] at hjl; omega
  obtain ⟨sb, hsb⟩ : ∃ sb, bs (jn d) = sb := ⟨_, rfl⟩
  have hsz : sb.size ≤ 1001000 := by rw [← hsb, bs_size]; exact hj1
  have hf : sb ++ ⟨#[10]⟩ = bs (lineL d) := by rw [← hsb, show (⟨#[10]⟩ : ByteArray) = bs [10] from rfl, bs_append, lineL_eq]
  have HF := Lib.hid hf
  clear hf
  by_cases h0 : n = 0
  · subst h0
    have hd0 : d = [] := List.eq_nil_of_length_eq_zero hd
    have he : sb = ⟨#[]⟩ := by rw [← hsb, hd0]; rfl
    have HC := Lib.hid (Tryd.strings_Join_none A c ⟨#[32]⟩ w)
    have HE := Lib.hid he
    clear he hjl hj1 hb
    go_enter Tryd.func25, Tryd.ntmps25
    go_wp2_with fail
    refine HC.out.mono ?_
    rintro e w1 ⟨rfl, rfl⟩
    go_wp2_with fail
    go_ret
    exact ⟨by rw [← HF.out, HE.out]; rfl, Below.refl _ _⟩
  · obtain ⟨ad, rfl, hab, hc0⟩ := h.lst.at_ (by omega)
    have hsp : ad.spot = none := by
      have := hc0 0 _ (vs_at (k := 0) (by omega))
      exact World.cell?_spot (by simpa [Addr.add] using this)
    obtain ⟨bk, o, spot⟩ := ad
    dsimp only at hsp
    subst hsp
    have hcells : ∀ (j : Nat) x, (d.map bs)[j]? = some x → w.cell? ⟨bk, o + j, none⟩ = some (.string x) := fun j x hx => by
      have h1 := hc0 j (.string x) (by
        rw [List.getElem?_map] at hx
        simp only [vs, List.getElem?_map]
        cases hq : d[j]? with
        | none => rw [hq] at hx; cases hx
        | some y => rw [hq] at hx; simp at hx ⊢; exact hx)
      unfold Addr.add at h1
      split at h1
      · subst j; simpa using h1
      · exact h1
    have hJ := Tryd.strings_Join bk o c (d.map bs) ⟨#[32]⟩ w hcells hab (by simp; omega) (by simp; have := h.cap; omega) (by
      rw [vs_xs]
      show (jn d).length ≤ _
      omega)
    rw [vs_xs, List.length_map, hd] at hJ
    have hJ2 : Calls Tryd.prog 36 #[.slice (some ⟨bk, o, none⟩) n c, .string ⟨#[32]⟩] w fun e w' => e = .returned (.string sb) ∧ Below w.heap.size w w' := by rw [← hsb]; exact hJ
    have HC := Lib.hid hJ2
    clear hJ hJ2 hjl hj1 hb hcells h hc0
    go_enter Tryd.func25, Tryd.ntmps25
    go_wp2_with fail
    refine HC.out.mono ?_
    rintro e w1 ⟨rfl, hB⟩
    go_wp2_with fail
    go_ret
    exact ⟨by rw [← HF.out]; rfl, hB⟩
end Go.Proofs.YtggdomeeienjbaaDoor
