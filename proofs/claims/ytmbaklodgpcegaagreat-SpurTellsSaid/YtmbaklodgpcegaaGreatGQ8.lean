/- Several texts of mine in one: Early5, HeapC, SprMem. No condition. -/
import Derived.Test.YtmbaklodgpcegaaGreatGQ10
import Derived.Test.YtmbaklodgpcegaaGreatGQ2
import Derived.Test.YtmbaklodgpcegaaGreatGQ3

/- The program's sorted: a map's times as rows by rising nodes. It makes new memory alone. -/
namespace Go.Proofs.YtmbaklodgpcegaaGreat
open Go.ChangeShapes Go.WideShapes Go.ChangeAt Go.RowKit Go.Sort Go.Maps Hp
set_option linter.unusedSimpArgs false
set_option linter.unusedVariables false
/-- A table as what a map holds. -/
def tabS (T : Int → Option Int) : Lit → Option Value
  | .int .i64 x => (T x).map (Value.int .i64)
  | _ => none
def MapT (w : World) (b n : Nat) (T : Int → Option Int) : Prop := MapV w 3 b n (tabS T)
theorem sorted_srt {T : Int → Option Int} {ks : List Int} (hn : ks.Nodup) (hs : ks.Pairwise (fun a b => a ≤ b)) : Srt (ks.map fun x => (x, (T x).getD 0)) := by
  unfold Srt
  rw [List.pairwise_map]
  have h := List.Pairwise.and (List.nodup_iff_pairwise_ne.1 hn) hs
  exact h.imp fun {a b} h => by have h1 := h.1; have h2 := h.2; show a < b; omega
theorem sorted_at {T : Int → Option Int} : ∀ {ks : List Int} {x : Int}, atR (ks.map fun x => (x, (T x).getD 0)) x = if x ∈ ks then some ((T x).getD 0) else none
  | [], x => by simp [atR]
  | k :: ks, x => by
    rw [List.map_cons, atR_cons]
    by_cases e : k = x
    · subst e; simp
    · rw [if_neg e, sorted_at]
      have e2 : ¬ x = k := fun h => e h.symm
      simp [e2]
theorem zeroI5 (w : World) : (zeroValue 3).run Tryz.prog w = .ok (.int .i64 0) w := by kernel_rfl
set_option maxHeartbeats 4000000 in
set_option maxRecDepth 100000 in
theorem esort_any (b n : Nat) (T : Int → Option Int) (w : World) (hM : MapT w b n T) (hn : n ≤ 1000000) (hwf : ∀ x, (T x).isSome = true → (Lit.int .i64 x).wf = true) :
    Calls Tryz.prog 47 #[.map (some b)] w fun e w' => ∃ v r, e = .returned v ∧ Srt r ∧ atR r = T ∧ r.length ≤ n ∧ w'.ownsRow w.heap.size 86 2 v r.length (flat2 r) ∧ Below w.heap.size w w' := by
  obtain ⟨i0, hi0, hz0, hz1, hz2⟩ := info_parts ready_info
  obtain ⟨D, hown, hD⟩ := hM
  have hsz := hown.size_le
  obtain ⟨hnd, hmem⟩ := intKeys_facts hown (Maps.int_keyed Tryz.underlying3) Tryz.underlying3
  have HM := Lib.hid (show MapT w b n T from ⟨D, hown, hD⟩)
  have HWF := Lib.hid hwf
  have hin : ∀ x, x ∈ intKeys D ↔ (T x).isSome = true := fun x => by
    rw [hmem x, (hD (.int .i64 x) (by simp [WideAt.IsKeyLit])).1]
    show ((T x).map (Value.int .i64)).isSome = true ↔ _
    simp
  have HIN := Lib.hid hin
  have HND := Lib.hid hnd
  clear hD hmem hin hnd hwf
  go_enter Tryz.func47, Tryz.ntmps47
  go_wp2_with fail
  refine (Tryz.ekeys (some b) w).mono ?_
  rintro e w1 ⟨rfl, rfl⟩
  go_wp2_with fail
  refine (Tryz.esorted b n D heldV w hown (by unfold maxLen; omega) (by omega)).mono ?_
  rintro e w2 ⟨v, ss, rfl, hp, hrow, hnil, hb⟩
  obtain ⟨ks, hks⟩ : ∃ l, ss.mergeSort (fun x y => decide (x ≤ y)) = l := ⟨_, rfl⟩
  rw [hks] at hrow
  have hpk : ks.Perm (intKeys D) := by rw [← hks]; exact (List.mergeSort_perm _ _).trans hp
  have hsk : ks.Pairwise (fun a b => a ≤ b) := by
    rw [← hks]
    have := List.pairwise_mergeSort (le := fun (a b : Int) => decide (a ≤ b)) (fun a b c h1 h2 => by simp at *; omega) (fun a b => by simp; omega) ss
    exact this.imp (fun h => by simpa using h)
  have hkl : ks.length = ss.length := by rw [← hks]; exact List.length_mergeSort _
  have hlen : (intKeys D).length = Maps.size D := by
    obtain ⟨es, rfl⟩ := hown.isMap
    rw [Maps.size_eq]; simp [intKeys]
  have hmn : ss.length ≤ n := by rw [hp.length_eq, hlen]; exact hsz
  obtain ⟨m, hm⟩ : ∃ m, ss.length = m := ⟨_, rfl⟩
  rw [hm] at hrow hkl hmn
  obtain ⟨Ak, ck, rfl⟩ := slice_of_own hrow
  have hkr := Sl.of_own hrow
  have HMM : Hid (∀ x, x ∈ ks ↔ (T x).isSome = true) := fun x => (hpk.mem_iff).trans (HIN.out x)
  have HNK : Hid ks.Nodup := hpk.nodup_iff.2 HND.out
  have HSK := Lib.hid hsk
  have HKL := Lib.hid hkl
  have HKR := Lib.hid (fun w' (hb : Below w2.heap.size w2 w') => hkr.up hb)
  have HB := Lib.hid hb
  have hs2 := hb.size
  clear hp hnil hks hpk hsk hkl hlen hrow hkr hb hown hsz HIN HND
  clear hm
  go_wp2_with fail
  go_loopw [3, 10] (fun ev iv wr => ∃ (i : Nat), iv = .int .i64 i ∧ i ≤ m ∧ wr.ownsRow w2.heap.size 86 2 ev i (flat2 ((ks.take i).map fun x => (x, (T x).getD 0))) ∧ Below w2.heap.size w2 wr) (fun ev iv _ => m - (intOf iv).toNat)
  case atStart => exact ⟨0, rfl, by omega, World.ownsRow_nil _ _ _ _, Below.refl _ _⟩
  case round =>
    obtain ⟨i, rfl, hi, hown, hB⟩ := hrel
    have hs := hB.size
    obtain ⟨Ae, ce, rfl⟩ := slice_of_own hown
    have HNW := Lib.hid hown
    clear hown
    by_cases him : i < m
    · obtain ⟨ad, rfl, hab, c0⟩ := (HKR.out _ hB).lst.atI HKL.out him
      have hik : i < ks.length := by rw [HKL.out]; exact him
      have htk : ks.take (i + 1) = ks.take i ++ [ks.getD i 0] := by
        rw [List.take_succ_eq_append_getElem hik, List.getD_eq_getElem?_getD, List.getElem?_eq_getElem hik]; rfl
      have hmx : ks.getD i 0 ∈ ks := by
        rw [List.getD_eq_getElem?_getD, List.getElem?_eq_getElem hik]; exact List.getElem_mem _
      obtain ⟨x, hx⟩ : ∃ x, ks.getD i 0 = x := ⟨_, rfl⟩
      rw [hx] at c0 htk hmx
      have hTx := (HMM.out x).1 hmx
      have HW := Lib.hid (HWF.out x hTx)
      obtain ⟨u, hu⟩ := Option.isSome_iff_exists.1 hTx
      have HU := Lib.hid hu
      have HTK := Lib.hid htk
      have hMr := HM.out.below (HB.out.trans (hB.mono hs2))
      have HMR := Lib.hid (show MapV wr 3 b n (tabS T) from hMr)
      clear hik htk hmx hx hTx hu hMr
      go_wp2_with (first
        | (at_lookup; refine wpList_look_map rfl _ _ _ rfl 3 3 b n (tabS T) rfl HMR.out (Maps.int_keyed Tryz.underlying3) Tryz.underlying89 (zeroI5 _) (.int .i64 x) (.int .i64 x) rfl (keyI x HW.out) (isKeyI x) (.int .i64 u) (by show ((T x).map (Value.int .i64)).getD _ = _; rw [HU.out]; rfl) ?_)
        | (at_builtin; refine wpList_append_own _ rfl _ _ 59 rfl w2.heap.size 86 i0 _ 2 16 Tryz.underlying59 hi0 hz0 hz1 hz2 rfl (by decide) _ _ _ rfl (HNW.out.alloc _) ⟨wr.heap.size, 0, none⟩ 1 1 [.int .i64 x, .int .i64 u] rfl rfl (by exact lit_cells wr #[.int .i64 x, .int .i64 u] _ _ rfl) (by simp [Value.oneCell']) (by unfold maxLen; omega) (by omega) (by simp; omega) ?_; intro v' w3 hown' hgrow3 hnil3; clear hnil3))
      have hbN : Below w2.heap.size w2 w3 := (hB.alloc hs _).grown hgrow3 (by simp; omega) (fun g hg => (HNW.out.lt g hg).1)
      have HON : Hid (w3.ownsRow w2.heap.size 86 2 v' (i + 1) (flat2 ((ks.take (i + 1)).map fun x => (x, (T x).getD 0)))) := by
        show w3.ownsRow w2.heap.size 86 2 v' (i + 1) _
        rw [HTK.out, List.map_append, flat2_append]
        show w3.ownsRow w2.heap.size 86 2 v' (i + 1) (_ ++ [.int .i64 x, .int .i64 ((T x).getD 0)])
        rw [HU.out]
        exact hown'
      clear hgrow3 hown'
      go_roundw
      case rel => exact ⟨i + 1, by go_num, by omega, HON.out, hbN⟩
      case measure => simp [intOf]; omega
    · obtain rfl : i = m := by omega
      have htk : ks.take i = ks := List.take_of_length_le (by rw [HKL.out]; exact Nat.le_refl _)
      have HTK := Lib.hid htk
      clear htk
      have hat : atR (ks.map fun x => (x, (T x).getD 0)) = T := by
        funext x
        rw [sorted_at]
        by_cases h : x ∈ ks
        · rw [if_pos h]
          obtain ⟨u, hu⟩ := Option.isSome_iff_exists.1 ((HMM.out x).1 h)
          rw [hu]; rfl
        · rw [if_neg h]
          cases hu : T x with
          | none => rfl
          | some u => exact absurd ((HMM.out x).2 (by rw [hu]; rfl)) h
      have HAT := Lib.hid hat
      clear hat
      go_wp2_with fail
      go_ret
      refine ⟨_, ks.map fun x => (x, (T x).getD 0), rfl, sorted_srt HNK.out HSK.out, HAT.out, by rw [List.length_map, HKL.out]; exact hmn, ?_, HB.out.trans (hB.mono hs2)⟩
      have h := HNW.out
      rw [HTK.out] at h
      rw [List.length_map, HKL.out]
      exact own_down h hs2
end Go.Proofs.YtmbaklodgpcegaaGreat

/- Package heap: what a heap of l tells: its least one. -/
namespace Go.Proofs.YtmbaklodgpcegaaGreat
open Go.ChangeShapes Go.WideShapes Go.ChangeAt Go.RowKit Go.Sort Hp
set_option linter.unusedSimpArgs false
set_option linter.unusedVariables false
namespace Hp
def IsLeast (m : Rd) (l : List Rd) : Prop := m ∈ l ∧ ∀ x ∈ l, ahd x m = false
theorem least_one {m k : Rd} {l : List Rd} (h : IsLeast m l) (h' : IsLeast k l) : m = k := ahd_antisymm (h.2 k h'.1) (h'.2 m h.1)
theorem least_ex : ∀ (l : List Rd), l ≠ [] → ∃ m, IsLeast m l
  | [], h => absurd rfl h
  | [a], _ => ⟨a, by simp, by simp [ahd_irr]⟩
  | a :: b :: l, _ => by
    obtain ⟨m, h1, h2⟩ := least_ex (b :: l) (by simp)
    cases ha : ahd a m
    · refine ⟨m, List.mem_cons_of_mem _ h1, fun x hx => ?_⟩
      rcases List.mem_cons.1 hx with rfl | hx
      · exact ha
      · exact h2 x hx
    · refine ⟨a, by simp, fun x hx => ?_⟩
      rcases List.mem_cons.1 hx with rfl | hx
      · exact ahd_irr _
      · exact nle_trans (nle_of_ahd ha) (h2 x hx)
theorem least_perm {m : Rd} {l l' : List Rd} (h : IsLeast m l) (hp : l.Perm l') : IsLeast m l' := ⟨hp.mem_iff.1 h.1, fun x hx => h.2 x (hp.mem_iff.2 hx)⟩
theorem least_head {d : List Rd} (h : isHeap d) (hd : 0 < d.length) : IsLeast (gt d 0) d := ⟨gt_mem hd, fun x hx => heap_least h hx⟩
end Hp
theorem HeapB.some_ {w : World} {B hb : Nat} {v : Value} {d l : List (Int × Int)} (h : HeapB w B hb v d l) (hd : 0 < d.length) : ∃ g cap, v = .slice (some ⟨g, 0, none⟩) d.length cap ∧ d.length ≤ cap ∧ HeapAt w hb g cap d := by
  obtain ⟨g, c, rfl, hc⟩ := own_pos h.at_.row hd
  exact ⟨g, c, rfl, hc, h.at_.at_⟩
theorem peekC {w : World} {B hb : Nat} {v : Value} {d l : List (Int × Int)} (h : HeapB w B hb v d l) {m : Int × Int} (hm : IsLeast m l) :
    Calls Tryz.prog 80 #[.pointer (some ⟨hb, 0, none⟩)] w fun e w' => e = .returned (.tuple #[.agg #[.int .i64 m.1, .int .i64 m.2], .bool true]) ∧ Below w.heap.size w w' := by
  have hd : 0 < d.length := by rw [h.perm.length_eq]; exact List.length_pos_of_mem hm.1
  obtain ⟨g, cap, rfl, _, hA⟩ := h.some_ hd
  have e := least_one hm (least_perm (least_head h.heap hd) h.perm)
  rw [e]
  exact peek_some hb g cap d w hA hd
theorem HeapB.nil_ {w : World} {B hb : Nat} {v : Value} {d : List (Int × Int)} (h : HeapB w B hb v d []) : HeapV w hb v [] := by
  have := h.perm.length_eq
  have e : d = [] := List.eq_nil_of_length_eq_zero (by simpa using this)
  rw [← e]; exact h.at_
theorem popC {w : World} {B hb : Nat} {v : Value} {d l : List (Int × Int)} (h : HeapB w B hb v d l) {m : Int × Int} (hm : IsLeast m l) (hn : l.length ≤ 1000000) :
    Calls Tryz.prog 70 #[.pointer (some ⟨hb, 0, none⟩)] w fun e w' => e = .returned (.tuple #[.agg #[.int .i64 m.1, .int .i64 m.2], .bool true]) ∧
      ∃ v' d', HeapB w' B hb v' d' (l.erase m) ∧ v'.ownBlock = v.ownBlock ∧ Kept (fun k => k = hb ∨ v.ownBlock = some k) w w' := by
  have hlen := h.perm.length_eq
  have hd : 0 < d.length := by rw [hlen]; exact List.length_pos_of_mem hm.1
  obtain ⟨g, cap, rfl, hc, hA⟩ := h.some_ hd
  have e := least_one hm (least_perm (least_head h.heap hd) h.perm)
  rw [e]
  refine (pop_some hb g cap d w hc (by omega) hA h.heap hd).mono ?_
  rintro e' w' ⟨rfl, d', k1, k2, k3, k4⟩
  refine ⟨rfl, _, d', ⟨k3.v, k2, ?_, h.hb, fun k hk => h.own k hk⟩, rfl, ?_⟩
  · have hp := (k1.trans h.perm).erase (gt d 0)
    simpa using hp
  · exact Kept.trans (Kept.refl _ _) k4 (fun i _ hi => by simpa [Value.ownBlock, eq_comm] using hi)
theorem pushC {w : World} {B hb : Nat} {v : Value} {d l : List (Int × Int)} (h : HeapB w B hb v d l) (hB : B ≤ w.heap.size) (r : Int × Int) (hn : l.length < 1000000) :
    Calls Tryz.prog 71 #[.pointer (some ⟨hb, 0, none⟩), .agg #[.int .i64 r.1, .int .i64 r.2]] w fun e w' => e = .returned (.tuple #[]) ∧
      ∃ v' d', HeapB w' B hb v' d' (l ++ [r]) ∧ (v'.ownBlock = v.ownBlock ∨ ∃ k, w.heap.size ≤ k ∧ v'.ownBlock = some k) ∧ Kept (fun k => k = hb ∨ v.ownBlock = some k) w w' := by
  have hlen := h.perm.length_eq
  refine (push_any hb v d r w (by omega) h.at_ h.heap).mono ?_
  rintro e w' ⟨rfl, v', d', k1, k2, k3, k4, k5⟩
  refine ⟨rfl, v', d', ⟨k3, k2, k1.trans (h.perm.append_right _), h.hb, fun k hk => ?_⟩, k5, k4⟩
  rcases k5 with e | ⟨j, hj, e⟩
  · exact h.own k (by rw [← e]; exact hk)
  · rw [e] at hk
    simp at hk
    omega
end Go.Proofs.YtmbaklodgpcegaaGreat

/- What the search for earliest times keeps in memory: a map of times, a heap, the box of what was popped. -/
namespace Go.Proofs.YtmbaklodgpcegaaGreat
open Go.ChangeShapes Go.WideShapes Go.ChangeAt Go.RowKit Go.Sort Go.Maps Hp
set_option linter.unusedSimpArgs false
set_option linter.unusedVariables false
theorem MapT.keptS {S : Nat → Prop} {w w' : World} {b n : Nat} {T : Int → Option Int} (h : MapT w b n T) (hk : Kept S w w') (h1 : ¬ S b) : MapT w' b n T := by
  obtain ⟨D, ⟨es, clock, h2, h3⟩, h4⟩ := h
  exact ⟨D, ⟨es, clock, (hk.block b (lt_of_block h2) h1).trans h2, h3⟩, h4⟩
theorem HeapB.grown {w w' : World} {row : Option Nat} {B hb : Nat} {v : Value} {d l : List (Int × Int)} (h : HeapB w B hb v d l) (hg : w.grownBy w' row) (h1 : some hb ≠ row) (h2 : v.ownBlock = none ∨ v.ownBlock ≠ row) : HeapB w' B hb v d l :=
  ⟨⟨h.at_.head.grown hg h1, h.at_.row.kept hg h2⟩, h.heap, h.perm, h.hb, h.own⟩
theorem HeapB.lower {w : World} {B C hb : Nat} {v : Value} {d l : List (Int × Int)} (h : HeapB w C hb v d l) (hC : B ≤ C) : HeapB w B hb v d l := ⟨h.at_, h.heap, h.perm, Nat.le_trans hC h.hb, fun k hk => Nat.le_trans hC (h.own k hk)⟩
theorem tabS_set (T : Int → Option Int) (x a : Int) (kl : Lit) : setS (tabS T) (.int .i64 x) (.int .i64 a) kl = tabS (setT T x a) kl := by
  by_cases e : kl = .int .i64 x
  · subst e
    rw [setS_same]
    show some _ = ((setT T x a) x).map _
    rw [setT_same]; rfl
  · rw [setS_other _ _ e]
    unfold tabS
    split
    · rename_i y
      rw [setT_ne _ _ (fun h => e (by rw [h]))]
    · rfl
theorem oneT_set (q now : Int) : setT (fun _ => none) q now = oneT q now := rfl
/-- What is told of a node. -/
theorem MapT.look {w : World} {b n : Nat} {T : Int → Option Int} (h : MapT w b n T) {x u : Int} (hx : (Lit.int .i64 x).wf = true) (hu : (T x).getD 0 = u) : (Instr.lookup 89 (.map (some b)) (.int .i64 x) false).run Tryz.prog w = .ok (.int .i64 u) w := by
  have h1 := MapV.look h keyedV Tryz.underlying89 (zeroI5 w) (keyI x hx) (isKeyI x)
  rw [h1, show (tabS T (.int .i64 x)).getD (.int .i64 0) = .int .i64 u from by
    show ((T x).map (Value.int .i64)).getD _ = _
    rw [← hu]
    cases T x <;> rfl]
theorem MapT.look_ok {w : World} {b n : Nat} {T : Int → Option Int} (h : MapT w b n T) {x u : Int} {k : Bool} (hx : (Lit.int .i64 x).wf = true) (hu : (T x).getD 0 = u) (hk : (T x).isSome = k) : (Instr.lookup 89 (.map (some b)) (.int .i64 x) true).run Tryz.prog w = .ok (.tuple #[.int .i64 u, .bool k]) w := by
  have h1 := MapV.look_ok h keyedV Tryz.underlying89 (zeroI5 w) (keyI x hx) (isKeyI x)
  rw [h1, show (tabS T (.int .i64 x)).getD (.int .i64 0) = .int .i64 u from by
    show ((T x).map (Value.int .i64)).getD _ = _
    rw [← hu]
    cases T x <;> rfl, show (tabS T (.int .i64 x)).isSome = k from by
    show ((T x).map (Value.int .i64)).isSome = k
    rw [← hk]
    cases T x <;> rfl]
theorem MapT.put {w : World} {b n : Nat} {T : Int → Option Int} (h : MapT w b n T) (hn : n < maxLen) {x : Int} (hx : (Lit.int .i64 x).wf = true) (a : Int) : ∃ w', (Instr.mapUpdate 89 (.map (some b)) (.int .i64 x) (.int .i64 a)).run Tryz.prog w = .ok () w' ∧ MapT w' b (n + 1) (setT T x a) ∧ w.grownBy w' (some b) := by
  obtain ⟨w', h1, h2, h3⟩ := MapV.put h keyedV Tryz.underlying89 hn (keyI x hx) (isKeyI x) (.int .i64 a)
  exact ⟨w', h1, MapV.congr h2 (tabS_set T x a), h3⟩
theorem MapT.made (w : World) : MapT (w.alloc (.map #[] 0)) w.heap.size 0 (fun _ => none) := by
  refine MapV.congr (MapV.made w 3) fun kl => ?_
  unfold tabS
  split <;> rfl
structure SW (w1 w : World) (mb hb rb nm : Nat) (rc : Array Value) (T : Int → Option Int) (v : Value) (d H : List (Int × Int)) : Prop where
  map : MapT w mb nm T
  heap : HeapB w (mb + 1) hb v d H
  box : Blok w rb 86 rc
  mr : mb < rb
  hr : hb ≠ rb
  vr : v.ownBlock ≠ some rb
  bl : Below mb w1 w
section
variable {w1 w w' : World} {mb hb rb nm nm' : Nat} {rc : Array Value} {T T' : Int → Option Int} {v v' : Value} {d d' H H' : List (Int × Int)}
theorem SW.below (h : SW w1 w mb hb rb nm rc T v d H) (hB : Below w.heap.size w w') : SW w1 w' mb hb rb nm rc T v d H :=
  ⟨MapV.below h.map hB, h.heap.below hB, h.box.below hB h.box.lt, h.mr, h.hr, h.vr, h.bl.trans (hB.mono (Nat.le_of_lt (MapV.lt h.map)))⟩
theorem SW.put (h : SW w1 w mb hb rb nm rc T v d H) (hm : MapT w' mb nm' T') (hg : w.grownBy w' (some mb)) : SW w1 w' mb hb rb nm' rc T' v d H :=
  ⟨hm, h.heap.grown hg (fun e => by injection e with e; have := h.heap.hb; omega) (.inr fun e => by have := h.heap.own mb e; omega), h.box.grown hg (fun e => by injection e with e; have := h.mr; omega), h.mr, h.hr, h.vr,
    h.bl.grown hg (Nat.le_of_lt (MapV.lt h.map)) (fun k hk => by injection hk with hk; omega)⟩
theorem SW.keep (h : SW w1 w mb hb rb nm rc T v d H) (hH : HeapB w' (mb + 1) hb v' d' H') (hk : Kept (fun k => k = hb ∨ v.ownBlock = some k) w w') (hv : v'.ownBlock = v.ownBlock ∨ ∃ k, w.heap.size ≤ k ∧ v'.ownBlock = some k) : SW w1 w' mb hb rb nm rc T v' d' H' := by
  have hlow : ∀ k, k ≤ mb → ¬ (k = hb ∨ v.ownBlock = some k) := by
    rintro k hk (e | e)
    · have := h.heap.hb; omega
    · have := h.heap.own k e; omega
  refine ⟨h.map.keptS hk (hlow mb (Nat.le_refl _)), hH, h.box.kept hk ?_, h.mr, h.hr, ?_, hk.below_of h.bl (Nat.le_of_lt (MapV.lt h.map)) (fun k hk => hlow k (by omega))⟩
  · rintro (e | e)
    · exact h.hr e.symm
    · exact h.vr e
  · rcases hv with e | ⟨k, hk2, e⟩
    · rw [e]; exact h.vr
    · rw [e]
      intro e2
      injection e2 with e2
      have := h.box.lt
      omega
theorem SW.start (hm : MapT w mb nm T) (hh : HeapB w (mb + 1) hb v d H) (bl : Below mb w1 w) (cs : Array Value) : SW w1 (w.alloc (.cells cs 86)) mb hb w.heap.size nm cs T v d H := by
  have hB : Below w.heap.size w (w.alloc (.cells cs 86)) := (Below.refl _ _).alloc (Nat.le_refl _) _
  exact ⟨MapV.below hm hB, hh.below hB, Blok.new _ _ _, MapV.lt hm, by have := hh.at_.head.lt; omega, fun e => by have := (hh.at_.row.lt _ e).2; omega, bl.trans (hB.mono (Nat.le_of_lt (MapV.lt hm)))⟩
theorem SW.newbox (h : SW w1 w mb hb rb nm rc T v d H) (cs : Array Value) : SW w1 (w.alloc (.cells cs 86)) mb hb w.heap.size nm cs T v d H :=
  SW.start h.map h.heap h.bl cs
theorem SW.set (h : SW w1 w mb hb rb nm rc T v d H) (i : Nat) (u : Value) : SW w1 (w.setCell ⟨rb, i, none⟩ u) mb hb rb nm (rc.setIfInBounds i u) T v d H := by
  have hg := grown_set (g := rb) w i u
  have hmr := h.mr
  refine ⟨MapV.kept h.map hg (fun e => by injection e with e; omega), h.heap.grown hg (fun e => by injection e with e; exact h.hr e) (.inr h.vr), h.box.set_ i u, h.mr, h.hr, h.vr, h.bl.grown hg (Nat.le_of_lt (MapV.lt h.map)) (fun k hk => by injection hk with hk; omega)⟩
end
end Go.Proofs.YtmbaklodgpcegaaGreat
