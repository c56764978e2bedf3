/- Several texts of mine in one: HeapC, SprMem. No condition. -/
import Derived.Test.YtmbaklodgpcegaaGQ4
import Derived.Test.YtmbaklodgpcegaaGQ8

/- Package heap: what a heap of l tells: its least one. -/
namespace Go.Proofs.Ytmbaklodgpcegaa
open Go.ChangeShapes Go.WideShapes Go.ChangeAt Go.RowKit Go.Sort Hp
set_option linter.unusedSimpArgs false
set_option linter.unusedVariables false
namespace Hp
def IsLeast (m : Rd) (l : List Rd) : Prop := m ∈ l ∧ ∀ x ∈ l, ahd x m = false
theorem least_one {m k : Rd} {l : List Rd} (h : IsLeast m l) (h' : IsLeast k l) : m = k := ahd_antisymm (h.2 k h'.1) (h'.2 m h.1)
theorem least_ex : ∀ (l : List Rd), l ≠ [] → ∃ m, IsLeast m l
  | [], h => absurd rfl h
  | [a], _ => ⟨a, by simp, by simp [ahd_irr]⟩
  | a :: b :: l, _ => by
    obtain ⟨m, h1, h2⟩ := least_ex (b :: l) (by simp)
    cases ha : ahd a m
    · refine ⟨m, List.mem_cons_of_mem _ h1, fun x hx => ?_⟩
      rcases List.mem_cons.1 hx with rfl | hx
      · exact ha
      · exact h2 x hx
    · refine ⟨a, by simp, fun x hx => ?_⟩
      rcases List.mem_cons.1 hx with rfl | hx
      · exact ahd_irr _
      · exact nle_trans (nle_of_ahd ha) (h2 x hx)
theorem least_perm {m : Rd} {l l' : List Rd} (h : IsLeast m l) (hp : l.Perm l') : IsLeast m l' := ⟨hp.mem_iff.1 h.1, fun x hx => h.2 x (hp.mem_iff.2 hx)⟩
theorem least_head {d : List Rd} (h : isHeap d) (hd : 0 < d.length) : IsLeast (gt d 0) d := ⟨gt_mem hd, fun x hx => heap_least h hx⟩
end Hp
theorem HeapB.some_ {w : World} {B hb : Nat} {v : Value} {d l : List (Int × Int)} (h : HeapB w B hb v d l) (hd : 0 < d.length) : ∃ g cap, v = .slice (some ⟨g, 0, none⟩) d.length cap ∧ d.length ≤ cap ∧ HeapAt w hb g cap d := by
  obtain ⟨g, c, rfl, hc⟩ := own_pos h.at_.row hd
  exact ⟨g, c, rfl, hc, h.at_.at_⟩
theorem peekC {w : World} {B hb : Nat} {v : Value} {d l : List (Int × Int)} (h : HeapB w B hb v d l) {m : Int × Int} (hm : IsLeast m l) :
    Calls Try.prog 68 #[.pointer (some ⟨hb, 0, none⟩)] w fun e w' => e = .returned (.tuple #[.agg #[.int .i64 m.1, .int .i64 m.2], .bool true]) ∧ Below w.heap.size w w' := by
  have hd : 0 < d.length := by rw [h.perm.length_eq]; exact List.length_pos_of_mem hm.1
  obtain ⟨g, cap, rfl, _, hA⟩ := h.some_ hd
  have e := least_one hm (least_perm (least_head h.heap hd) h.perm)
  rw [e]
  exact peek_some hb g cap d w hA hd
theorem HeapB.nil_ {w : World} {B hb : Nat} {v : Value} {d : List (Int × Int)} (h : HeapB w B hb v d []) : HeapV w hb v [] := by
  have := h.perm.length_eq
  have e : d = [] := List.eq_nil_of_length_eq_zero (by simpa using this)
  rw [← e]; exact h.at_
theorem popC {w : World} {B hb : Nat} {v : Value} {d l : List (Int × Int)} (h : HeapB w B hb v d l) {m : Int × Int} (hm : IsLeast m l) (hn : l.length ≤ 1000000) :
    Calls Try.prog 58 #[.pointer (some ⟨hb, 0, none⟩)] w fun e w' => e = .returned (.tuple #[.agg #[.int .i64 m.1, .int .i64 m.2], .bool true]) ∧
      ∃ v' d', HeapB w' B hb v' d' (l.erase m) ∧ v'.ownBlock = v.ownBlock ∧ Kept (fun k => k = hb ∨ v.ownBlock = some k) w w' := by
  have hlen := h.perm.length_eq
  have hd : 0 < d.length := by rw [hlen]; exact List.length_pos_of_mem hm.1
  obtain ⟨g, cap, rfl, hc, hA⟩ := h.some_ hd
  have e := least_one hm (least_perm (least_head h.heap hd) h.perm)
  rw [e]
  refine (pop_some hb g cap d w hc (by omega) hA h.heap hd).mono ?_
  rintro e' w' ⟨rfl, d', k1, k2, k3, k4⟩
  refine ⟨rfl, _, d', ⟨k3.v, k2, ?_, h.hb, fun k hk => h.own k hk⟩, rfl, ?_⟩
  · have hp := (k1.trans h.perm).erase (gt d 0)
    simpa using hp
  · exact Kept.trans (Kept.refl _ _) k4 (fun i _ hi => by simpa [Value.ownBlock, eq_comm] using hi)
theorem pushC {w : World} {B hb : Nat} {v : Value} {d l : List (Int × Int)} (h : HeapB w B hb v d l) (hB : B ≤ w.heap.size) (r : Int × Int) (hn : l.length < 1000000) :
    Calls Try.prog 59 #[.pointer (some ⟨hb, 0, none⟩), .agg #[.int .i64 r.1, .int .i64 r.2]] w fun e w' => e = .returned (.tuple #[]) ∧
      ∃ v' d', HeapB w' B hb v' d' (l ++ [r]) ∧ (v'.ownBlock = v.ownBlock ∨ ∃ k, w.heap.size ≤ k ∧ v'.ownBlock = some k) ∧ Kept (fun k => k = hb ∨ v.ownBlock = some k) w w' := by
  have hlen := h.perm.length_eq
  refine (push_any hb v d r w (by omega) h.at_ h.heap).mono ?_
  rintro e w' ⟨rfl, v', d', k1, k2, k3, k4, k5⟩
  refine ⟨rfl, v', d', ⟨k3, k2, k1.trans (h.perm.append_right _), h.hb, fun k hk => ?_⟩, k5, k4⟩
  rcases k5 with e | ⟨j, hj, e⟩
  · exact h.own k (by rw [← e]; exact hk)
  · rw [e] at hk
    simp at hk
    omega
end Go.Proofs.Ytmbaklodgpcegaa

/- What the search for earliest times keeps in memory: a map of times, a heap, the box of what was popped. -/
namespace Go.Proofs.Ytmbaklodgpcegaa
open Go.ChangeShapes Go.WideShapes Go.ChangeAt Go.RowKit Go.Sort Go.Maps Hp
set_option linter.unusedSimpArgs false
set_option linter.unusedVariables false
theorem MapT.keptS {S : Nat → Prop} {w w' : World} {b n : Nat} {T : Int → Option Int} (h : MapT w b n T) (hk : Kept S w w') (h1 : ¬ S b) : MapT w' b n T := by
  obtain ⟨D, ⟨es, clock, h2, h3⟩, h4⟩ := h
  exact ⟨D, ⟨es, clock, (hk.block b (lt_of_block h2) h1).trans h2, h3⟩, h4⟩
theorem HeapB.grown {w w' : World} {row : Option Nat} {B hb : Nat} {v : Value} {d l : List (Int × Int)} (h : HeapB w B hb v d l) (hg : w.grownBy w' row) (h1 : some hb ≠ row) (h2 : v.ownBlock = none ∨ v.ownBlock ≠ row) : HeapB w' B hb v d l :=
  ⟨⟨h.at_.head.grown hg h1, h.at_.row.kept hg h2⟩, h.heap, h.perm, h.hb, h.own⟩
theorem HeapB.lower {w : World} {B C hb : Nat} {v : Value} {d l : List (Int × Int)} (h : HeapB w C hb v d l) (hC : B ≤ C) : HeapB w B hb v d l := ⟨h.at_, h.heap, h.perm, Nat.le_trans hC h.hb, fun k hk => Nat.le_trans hC (h.own k hk)⟩
theorem tabS_set (T : Int → Option Int) (x a : Int) (kl : Lit) : setS (tabS T) (.int .i64 x) (.int .i64 a) kl = tabS (setT T x a) kl := by
  by_cases e : kl = .int .i64 x
  · subst e
    rw [setS_same]
    show some _ = ((setT T x a) x).map _
    rw [setT_same]; rfl
  · rw [setS_other _ _ e]
    unfold tabS
    split
    · rename_i y
      rw [setT_ne _ _ (fun h => e (by rw [h]))]
    · rfl
theorem oneT_set (q now : Int) : setT (fun _ => none) q now = oneT q now := rfl
/-- What is told of a node. -/
theorem MapT.look {w : World} {b n : Nat} {T : Int → Option Int} (h : MapT w b n T) {x u : Int} (hx : (Lit.int .i64 x).wf = true) (hu : (T x).getD 0 = u) : (Instr.lookup 78 (.map (some b)) (.int .i64 x) false).run Try.prog w = .ok (.int .i64 u) w := by
  have h1 := MapV.look h keyedV Try.underlying78 (zeroI5 w) (keyI x hx) (isKeyI x)
  rw [h1, show (tabS T (.int .i64 x)).getD (.int .i64 0) = .int .i64 u from by
    show ((T x).map (Value.int .i64)).getD _ = _
    rw [← hu]
    cases T x <;> rfl]
theorem MapT.look_ok {w : World} {b n : Nat} {T : Int → Option Int} (h : MapT w b n T) {x u : Int} {k : Bool} (hx : (Lit.int .i64 x).wf = true) (hu : (T x).getD 0 = u) (hk : (T x).isSome = k) : (Instr.lookup 78 (.map (some b)) (.int .i64 x) true).run Try.prog w = .ok (.tuple #[.int .i64 u, .bool k]) w := by
  have h1 := MapV.look_ok h keyedV Try.underlying78 (zeroI5 w) (keyI x hx) (isKeyI x)
  rw [h1, show (tabS T (.int .i64 x)).getD (.int .i64 0) = .int .i64 u from by
    show ((T x).map (Value.int .i64)).getD _ = _
    rw [← hu]
    cases T x <;> rfl, show (tabS T (.int .i64 x)).isSome = k from by
    show ((T x).map (Value.int .i64)).isSome = k
    rw [← hk]
    cases T x <;> rfl]
theorem MapT.put {w : World} {b n : Nat} {T : Int → Option Int} (h : MapT w b n T) (hn : n < maxLen) {x : Int} (hx : (Lit.int .i64 x).wf = true) (a : Int) : ∃ w', (Instr.mapUpdate 78 (.map (some b)) (.int .i64 x) (.int .i64 a)).run Try.prog w = .ok () w' ∧ MapT w' b (n + 1) (setT T x a) ∧ w.grownBy w' (some b) := by
  obtain ⟨w', h1, h2, h3⟩ := MapV.put h keyedV Try.underlying78 hn (keyI x hx) (isKeyI x) (.int .i64 a)
  exact ⟨w', h1, MapV.congr h2 (tabS_set T x a), h3⟩
theorem MapT.made (w : World) : MapT (w.alloc (.map #[] 0)) w.heap.size 0 (fun _ => none) := by
  refine MapV.congr (MapV.made w 3) fun kl => ?_
  unfold tabS
  split <;> rfl
structure SW (w1 w : World) (mb hb rb nm : Nat) (rc : Array Value) (T : Int → Option Int) (v : Value) (d H : List (Int × Int)) : Prop where
  map : MapT w mb nm T
  heap : HeapB w (mb + 1) hb v d H
  box : Blok w rb 75 rc
  mr : mb < rb
  hr : hb ≠ rb
  vr : v.ownBlock ≠ some rb
  bl : Below mb w1 w
section
variable {w1 w w' : World} {mb hb rb nm nm' : Nat} {rc : Array Value} {T T' : Int → Option Int} {v v' : Value} {d d' H H' : List (Int × Int)}
theorem SW.below (h : SW w1 w mb hb rb nm rc T v d H) (hB : Below w.heap.size w w') : SW w1 w' mb hb rb nm rc T v d H :=
  ⟨MapV.below h.map hB, h.heap.below hB, h.box.below hB h.box.lt, h.mr, h.hr, h.vr, h.bl.trans (hB.mono (Nat.le_of_lt (MapV.lt h.map)))⟩
theorem SW.put (h : SW w1 w mb hb rb nm rc T v d H) (hm : MapT w' mb nm' T') (hg : w.grownBy w' (some mb)) : SW w1 w' mb hb rb nm' rc T' v d H :=
  ⟨hm, h.heap.grown hg (fun e => by injection e with e; have := h.heap.hb; omega) (.inr fun e => by have := h.heap.own mb e; omega), h.box.grown hg (fun e => by injection e with e; have := h.mr; omega), h.mr, h.hr, h.vr,
    h.bl.grown hg (Nat.le_of_lt (MapV.lt h.map)) (fun k hk => by injection hk with hk; omega)⟩
theorem SW.keep (h : SW w1 w mb hb rb nm rc T v d H) (hH : HeapB w' (mb + 1) hb v' d' H') (hk : Kept (fun k => k = hb ∨ v.ownBlock = some k) w w') (hv : v'.ownBlock = v.ownBlock ∨ ∃ k, w.heap.size ≤ k ∧ v'.ownBlock = some k) : SW w1 w' mb hb rb nm rc T v' d' H' := by
  have hlow : ∀ k, k ≤ mb → ¬ (k = hb ∨ v.ownBlock = some k) := by
    rintro k hk (e | e)
    · have := h.heap.hb; omega
    · have := h.heap.own k e; omega
  refine ⟨h.map.keptS hk (hlow mb (Nat.le_refl _)), hH, h.box.kept hk ?_, h.mr, h.hr, ?_, hk.below_of h.bl (Nat.le_of_lt (MapV.lt h.map)) (fun k hk => hlow k (by omega))⟩
  · rintro (e | e)
    · exact h.hr e.symm
    · exact h.vr e
  · rcases hv with e | ⟨k, hk2, e⟩
    · rw [e]; exact h.vr
    · rw [e]
      intro e2
      injection e2 with e2
      have := h.box.lt
      omega
theorem SW.start (hm : MapT w mb nm T) (hh : HeapB w (mb + 1) hb v d H) (bl : Below mb w1 w) (cs : Array Value) : SW w1 (w.alloc (.cells cs 75)) mb hb w.heap.size nm cs T v d H := by
  have hB : Below w.heap.size w (w.alloc (.cells cs 75)) := (Below.refl _ _).alloc (Nat.le_refl _) _
  exact ⟨MapV.below hm hB, hh.below hB, Blok.new _ _ _, MapV.lt hm, by have := hh.at_.head.lt; omega, fun e => by have := (hh.at_.row.lt _ e).2; omega, bl.trans (hB.mono (Nat.le_of_lt (MapV.lt hm)))⟩
theorem SW.newbox (h : SW w1 w mb hb rb nm rc T v d H) (cs : Array Value) : SW w1 (w.alloc (.cells cs 75)) mb hb w.heap.size nm cs T v d H :=
  SW.start h.map h.heap h.bl cs
theorem SW.set (h : SW w1 w mb hb rb nm rc T v d H) (i : Nat) (u : Value) : SW w1 (w.setCell ⟨rb, i, none⟩ u) mb hb rb nm (rc.setIfInBounds i u) T v d H := by
  have hg := grown_set (g := rb) w i u
  have hmr := h.mr
  refine ⟨MapV.kept h.map hg (fun e => by injection e with e; omega), h.heap.grown hg (fun e => by injection e with e; exact h.hr e) (.inr h.vr), h.box.set_ i u, h.mr, h.hr, h.vr, h.bl.grown hg (Nat.le_of_lt (MapV.lt h.map)) (fun k hk => by injection hk with hk; omega)⟩
end
end Go.Proofs.Ytmbaklodgpcegaa
