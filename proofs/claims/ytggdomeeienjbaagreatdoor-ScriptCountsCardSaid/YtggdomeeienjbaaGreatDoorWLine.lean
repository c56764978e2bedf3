
/- Words as a line: contracts of words.Line and of the document's own. Conditions on sizes alone. -/
import Derived.Test.YtggdomeeienjbaaGreatDoorWRef
import Derived.Test.YtggdomeeienjbaaGreatDoorShelf
namespace Go.Proofs.YtggdomeeienjbaaGreatDoor
open Go.ChangeShapes Go.WideShapes Go.ChangeAt Go.RowKit Go.Sort
set_option linter.unusedSimpArgs false
set_option linter.unusedVariables false
def jn (l : List Bytes) : Bytes := ([32] : Bytes).intercalate l
theorem jn_cons (a b : Bytes) (r : List Bytes) : jn (a :: b :: r) = a ++ [32] ++ jn (b :: r) := by simp [jn, List.intercalate, List.intersperse]
theorem jn_one (a : Bytes) : jn [a] = a := by simp [jn, List.intercalate, List.intersperse]
theorem jn_nil : jn [] = [] := by simp [jn, List.intercalate, List.intersperse]
theorem jn_snoc : ∀ (l : List Bytes) (x : Bytes), l ≠ [] → jn (l ++ [x]) = jn l ++ [32] ++ x
  | [], _, h => absurd rfl h
  | [a], x, _ => by rw [List.cons_append, List.nil_append, jn_cons, jn_one, jn_one]
  | a :: b :: r, x, _ => by
    have := jn_snoc (b :: r) x (by simp)
    rw [List.cons_append, List.cons_append, jn_cons, jn_cons, ← List.cons_append, this]
    simp
theorem jn_len {B : Nat} : ∀ (l : List Bytes), (∀ x ∈ l, x.length ≤ B) → (jn l).length ≤ l.length * (B + 1)
  | [], _ => by simp [jn_nil]
  | [a], h => by rw [jn_one]; have := h a (by simp); simp; omega
  | a :: b :: r, h => by
    have h1 := h a (by simp)
    have h2 := jn_len (b :: r) (fun x hx => h x (by simp at hx ⊢; exact .inr hx))
    rw [jn_cons]
    simp only [List.length_append, List.length_cons, List.length_nil] at h2 ⊢
    rw [Nat.add_mul, Nat.one_mul]
    omega
theorem lineL_eq (l : List Bytes) : lineL l = jn l ++ [10] := rfl
theorem gS_mem {d : List Bytes} {i : Nat} (h : i < d.length) : gS d i ∈ d := by rw [gS_eq h]; exact List.getElem_mem h
theorem vs_xs (d : List Bytes) : (d.map bs).map (·.data.toList) = d := by
  rw [List.map_map, List.map_congr_left (g := id) (fun x _ => by simp [bs_list]), List.map_id]
set_option maxHeartbeats 1000000 in
set_option maxRecDepth 100000 in
theorem line_any (A : Option Addr) (n c : Nat) (d : List Bytes) (w : World) (hd : d.length = n) (hn : n ≤ 1000) (hb : ∀ x ∈ d, x.length ≤ 1000) (h : Sl w w.heap.size 1 A n c (vs d)) :
    Calls Tryz.prog 61 #[.slice A n c] w fun e w' => e = .returned (.string (bs (lineL d))) ∧ Below w.heap.size w w' := by
  have hjl := jn_len d hb
  have hj1 : (jn d).length ≤ 1001000 := by rw [hd] at hjl; omega
  obtain ⟨sb, hsb⟩ : ∃ sb, bs (jn d) = sb := ⟨_, rfl⟩
  have hsz : sb.size ≤ 1001000 := by rw [← hsb, bs_size]; exact hj1
  have hf : sb ++ ⟨#[10]⟩ = bs (lineL d) := by rw [← hsb, show (⟨#[10]⟩ : ByteArray) = bs [10] from rfl, bs_append, lineL_eq]
  have HF := Lib.hid hf
  clear hf
  by_cases h0 : n = 0
  · subst h0
    have hd0 : d = [] := List.eq_nil_of_length_eq_zero hd
    have he : sb = ⟨#[]⟩ := by rw [← hsb, hd0]; rfl
    have HC := Lib.hid (Tryz.strings_Join_none A c ⟨#[32]⟩ w)
    have HE := Lib.hid he
    clear he hjl hj1 hb
    go_enter Tryz.func61, Tryz.ntmps61
    go_wp2_with fail
    refine HC.out.mono ?_
    rintro e w1 ⟨rfl, rfl⟩
    go_wp2_with fail
    go_ret
    exact ⟨by rw [← HF.out, HE.out]; rfl, Below.refl _ _⟩
  · obtain ⟨ad, rfl, hab, hc0⟩ := h.lst.at_ (by omega)
    have hsp : ad.spot = none := by
      have := hc0 0 _ (vs_at (k := 0) (by omega))
      exact World.cell?_spot (by simpa [Addr.add] using this)
    obtain ⟨bk, o, spot⟩ := ad
    dsimp only at hsp
    subst hsp
    have hcells : ∀ (j : Nat) x, (d.map bs)[j]? = some x → w.cell? ⟨bk, o + j, none⟩ = some (.string x) := fun j x hx => by
      have h1 := hc0 j (.string x) (by
        rw [List.getElem?_map] at hx
        simp only [vs, List.getElem?_map]
        cases hq : d[j]? with
        | none => rw [hq] at hx; cases hx
        | some y => rw [hq] at hx; simp at hx ⊢; exact hx)
      unfold Addr.add at h1
      split at h1
      · subst j; simpa using h1
      · exact h1
    have hJ := Tryz.strings_Join bk o c (d.map bs) ⟨#[32]⟩ w hcells hab (by simp; omega) (by simp; have := h.cap; omega) (by
      rw [vs_xs]
      show (jn d).length ≤ _
      omega)
    rw [vs_xs, List.length_map, hd] at hJ
    have hJ2 : Calls Tryz.prog 74 #[.slice (some ⟨bk, o, none⟩) n c, .string ⟨#[32]⟩] w fun e w' => e = .returned (.string sb) ∧ Below w.heap.size w w' := by rw [← hsb]; exact hJ
    have HC := Lib.hid hJ2
    clear hJ hJ2 hjl hj1 hb hcells h hc0
    go_enter Tryz.func61, Tryz.ntmps61
    go_wp2_with fail
    refine HC.out.mono ?_
    rintro e w1 ⟨rfl, hB⟩
    go_wp2_with fail
    go_ret
    exact ⟨by rw [← HF.out]; rfl, hB⟩
end Go.Proofs.YtggdomeeienjbaaGreatDoor
