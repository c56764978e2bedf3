/- Routes in order, as lists. Plain facts. -/
import Derived.Test.YtbhhkaaidhapbaaGQ2
import Derived.Test.YtbhhkaaidhapbaaGQ3
namespace Go.Proofs.Ytbhhkaaidhapbaa
open Go.ChangeShapes Go.WideShapes Go.ChangeAt Go.RowKit Go.Sort
set_option linter.unusedSimpArgs false
set_option linter.unusedVariables false
abbrev Rtp := List Hp × Int
def idsT (p : Rtp) : List Int := p.1.map Hp.id
def keyT (p : Rtp) : List Int := keyR p.2 p.1
def cT (a b : Rtp) : Int := cmpR a.2 a.1 b.2 b.1
theorem cT_key (a b : Rtp) : cT a b = cmpL (keyT a) (keyT b) := cmpR_key _ _ _ _
theorem cT_self (a : Rtp) : cT a a = 0 := by rw [cT_key, cmpL_self]
theorem cT_anti (a b : Rtp) : cT a b = - cT b a := by rw [cT_key, cT_key]; exact cmpL_anti _ _
theorem cT_trans {a b c : Rtp} (h1 : cT a b ≤ 0) (h2 : cT b c ≤ 0) : cT a c ≤ 0 := by
  rw [cT_key] at *
  exact cmpL_trans h1 h2
theorem cmpL_trans_lt {a b c : List Int} (h1 : cmpL a b < 0) (h2 : cmpL b c ≤ 0) : cmpL a c < 0 := by
  rcases Int.lt_or_le (cmpL a c) 0 with h | h
  · exact h
  · exfalso
    have h3 := cmpL_anti a c
    have h4 := cmpL_trans (a := b) (b := c) (c := a) h2 (by omega)
    have h5 := cmpL_anti a b
    omega
theorem cT_lt_of_lt_le {a b c : Rtp} (h1 : cT a b < 0) (h2 : cT b c ≤ 0) : cT a c < 0 := by
  rw [cT_key] at *
  exact cmpL_trans_lt h1 h2
theorem cT_lt_of_le_lt {a b c : Rtp} (h1 : cT a b ≤ 0) (h2 : cT b c < 0) : cT a c < 0 := by
  rcases Int.lt_or_le (cT a c) 0 with h | h
  · exact h
  · exfalso
    have h3 := cT_anti a c
    have h4 := cT_trans (a := c) (b := a) (c := b) (by omega) h1
    have h5 := cT_anti b c
    omega
theorem cT_zero {a b : Rtp} (h : cT a b = 0) : idsT a = idsT b ∧ a.2 = b.2 := by
  rw [cT_key] at h
  have h1 := cmpL_zero h
  unfold keyT keyR at h1
  injection h1 with h2 h3
  injection h3 with _ h4
  exact ⟨h4, h2⟩
/-- In order, none twice. -/
def SrtT (l : List Rtp) : Prop := l.Pairwise fun a b => cT a b < 0
/-- One more, in its place, if there is none at it. -/
def insT (x : Rtp) : List Rtp → List Rtp
  | [] => [x]
  | y :: r => if cT x y < 0 then x :: y :: r else if cT x y = 0 then y :: r else y :: insT x r
theorem insT_mem {x : Rtp} : ∀ {l : List Rtp} {z : Rtp}, z ∈ insT x l → z = x ∨ z ∈ l
  | [], z, h => by
    rw [insT, List.mem_singleton] at h; exact .inl h
  | y :: r, z, h => by
    rw [insT] at h
    split at h
    · rcases List.mem_cons.1 h with h1 | h1
      · exact .inl h1
      · exact .inr h1
    · split at h
      · exact .inr h
      · rcases List.mem_cons.1 h with rfl | h1
        · exact .inr (List.mem_cons_self ..)
        · rcases insT_mem h1 with h2 | h2
          · exact .inl h2
          · exact .inr (List.mem_cons_of_mem _ h2)
theorem insT_keep {x : Rtp} : ∀ {l : List Rtp} {z : Rtp}, z ∈ l → z ∈ insT x l
  | y :: r, z, h => by
    rw [insT]
    split
    · exact List.mem_cons_of_mem _ h
    · split
      · exact h
      · rcases List.mem_cons.1 h with rfl | h1
        · exact List.mem_cons_self ..
        · exact List.mem_cons_of_mem _ (insT_keep h1)
theorem insT_has (x : Rtp) : ∀ (l : List Rtp), x ∈ insT x l ∨ ∃ y ∈ l, cT x y = 0
  | [] => by rw [insT]; simp
  | y :: r => by
    rw [insT]
    split
    · exact .inl (List.mem_cons_self ..)
    · split
      · rename_i h
        exact .inr ⟨y, List.mem_cons_self .., h⟩
      · rcases insT_has x r with h | ⟨z, h1, h2⟩
        · exact .inl (List.mem_cons_of_mem _ h)
        · exact .inr ⟨z, List.mem_cons_of_mem _ h1, h2⟩
theorem insT_srt {x : Rtp} : ∀ {l : List Rtp}, SrtT l → SrtT (insT x l)
  | [], _ => by rw [insT]; exact List.pairwise_singleton ..
  | y :: r, h => by
    obtain ⟨h1, h2⟩ := List.pairwise_cons.1 h
    rw [insT]
    split
    · rename_i hx
      refine List.pairwise_cons.2 ⟨fun z hz => ?_, h⟩
      rcases List.mem_cons.1 hz with rfl | hz
      · exact hx
      · exact cT_lt_of_lt_le hx (Int.le_of_lt (h1 z hz))
    · split
      · exact h
      · rename_i hx hx0
        refine List.pairwise_cons.2 ⟨fun z hz => ?_, insT_srt h2⟩
        rcases insT_mem hz with rfl | hz
        · have := cT_anti y z; omega
        · exact h1 z hz
def sortTt (l : List Rtp) : List Rtp := l.foldr insT []
theorem sortTt_srt : ∀ (l : List Rtp), SrtT (sortTt l)
  | [] => List.Pairwise.nil
  | x :: r => insT_srt (sortTt_srt r)
theorem sortTt_mem : ∀ {l : List Rtp} {z : Rtp}, z ∈ sortTt l → z ∈ l
  | x :: r, z, h => by
    rcases insT_mem (show z ∈ insT x (sortTt r) from h) with rfl | h
    · exact List.mem_cons_self ..
    · exact List.mem_cons_of_mem _ (sortTt_mem h)
theorem sortTt_has : ∀ {l : List Rtp} {z : Rtp}, z ∈ l → ∃ y ∈ sortTt l, cT z y = 0
  | x :: r, z, h => by
    show ∃ y ∈ insT x (sortTt r), _
    rcases List.mem_cons.1 h with rfl | h
    · rcases insT_has z (sortTt r) with h1 | ⟨y, h1, h2⟩
      · exact ⟨z, h1, cT_self z⟩
      · exact ⟨y, insT_keep h1, h2⟩
    · obtain ⟨y, h1, h2⟩ := sortTt_has h
      exact ⟨y, insT_keep h1, h2⟩
theorem srtT_ne {l : List Rtp} (h : SrtT l) {i j : Nat} (hi : i < l.length) (hj : j < l.length) (hij : i < j) : cT l[i] l[j] < 0 := List.pairwise_iff_getElem.1 h i j hi hj hij
theorem srtT_ext : ∀ {l l' : List Rtp}, SrtT l → SrtT l' → (∀ x, x ∈ l ↔ x ∈ l') → l = l'
  | [], [], _, _, _ => rfl
  | [], y :: r, _, _, h => by have := (h y).2 (List.mem_cons_self ..); cases this
  | x :: r, [], _, _, h => by have := (h x).1 (List.mem_cons_self ..); cases this
  | x :: r, y :: s, h1, h2, h => by
    obtain ⟨a1, a2⟩ := List.pairwise_cons.1 h1
    obtain ⟨b1, b2⟩ := List.pairwise_cons.1 h2
    have hxy : x = y := by
      rcases List.mem_cons.1 ((h x).1 (List.mem_cons_self ..)) with e | e
      · exact e
      · rcases List.mem_cons.1 ((h y).2 (List.mem_cons_self ..)) with e2 | e2
        · exact e2.symm
        · have h3 := a1 y e2
          have h4 := b1 x e
          have := cT_anti x y
          omega
    subst hxy
    rw [srtT_ext a2 b2 (fun z => by
      constructor
      · intro hz
        rcases List.mem_cons.1 ((h z).1 (List.mem_cons_of_mem _ hz)) with rfl | h3
        · have := a1 z hz; rw [cT_self] at this; omega
        · exact h3
      · intro hz
        rcases List.mem_cons.1 ((h z).2 (List.mem_cons_of_mem _ hz)) with rfl | h3
        · have := b1 z hz; rw [cT_self] at this; omega
        · exact h3)]
end Go.Proofs.Ytbhhkaaidhapbaa
