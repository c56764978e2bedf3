/- Several texts of mine in one: Mem, HeapR. No condition. -/
import Derived.Test.YtmbaklodgpcegaaGQ0
import Derived.Test.YtmbaklodgpcegaaGQ1

/- Blocks and rows of memory: a block known whole, a row of pairs of ints that the call owns. No condition. -/
namespace Go.Proofs.Ytmbaklodgpcegaa
open Go.ChangeShapes Go.WideShapes Go.ChangeAt Go.RowKit Go.Sort
set_option linter.unusedSimpArgs false
set_option linter.unusedVariables false

/-- Block g holds just these cells. -/
def Blok (w : World) (g : Nat) (t : TypeId) (cs : Array Value) : Prop := w.heap[g]? = some (.cells cs t (0, 0))
section
variable {w w' : World} {g : Nat} {t : TypeId} {cs : Array Value}
theorem Blok.lt (h : Blok w g t cs) : g < w.heap.size := lt_of_block h
theorem Blok.cell (h : Blok w g t cs) (i : Nat) : w.cell? ⟨g, i, none⟩ = cs[i]? := cell_of_row w g i cs t (0, 0) h
theorem Blok.free (h : Blok w g t cs) (i : Nat) : w.frozen? ⟨g, i, none⟩ = false := by
  unfold Blok at h; simp [World.frozen?, h]
theorem Blok.grown {row : Option Nat} (h : Blok w g t cs) (hb : w.grownBy w' row) (hg : some g ≠ row) : Blok w' g t cs := (hb.block g h.lt hg).trans h
theorem Blok.below {B : Nat} (h : Blok w g t cs) (hb : Below B w w') (hg : g < B) : Blok w' g t cs := (hb.block g hg).trans h
theorem Blok.ne_own {base : Nat} {e : TypeId} {size n : Nat} {v : Value} {xs : List Value} (h : w.ownsRow base e size v n xs) (hg : Blok w g t cs) (hne : e ≠ t) : v.ownBlock ≠ some g := by
  rcases h.2 with ⟨rfl, _⟩ | ⟨g', cap, cur, rfl, _, hh, _⟩
  · simp [Value.ownBlock]
  · intro he
    have : g' = g := by simpa [Value.ownBlock] using he
    subst this
    unfold Blok at hg
    rw [hg] at hh
    injection hh with hh
    injection hh with _ ht
    exact hne ht.symm
theorem Blok.over {W : World} {row : Option Nat} (h : Blok w g t cs) (hg : W.grownBy w' row) (hr : row ≠ some g) (hb : Below w.heap.size w W) : Blok w' g t cs := (h.below hb h.lt).grown hg (fun e => hr e.symm)
theorem grown_of_below {row : Option Nat} (hb : Below w.heap.size w w') : w.grownBy w' row := ⟨hb.os, hb.tape, hb.output, hb.size, fun k hk _ => hb.block k hk⟩
theorem grown_refl (w : World) (row : Option Nat) : w.grownBy w row := ⟨rfl, rfl, rfl, Nat.le_refl _, fun _ _ _ => rfl⟩
theorem grown_trans {w'' : World} {row : Option Nat} (h : w.grownBy w' row) (k : w'.grownBy w'' row) : w.grownBy w'' row :=
  ⟨k.os.trans h.os, k.tape.trans h.tape, k.output.trans h.output, Nat.le_trans h.size k.size, fun i hi hr => (k.block i (Nat.lt_of_lt_of_le hi h.size) hr).trans (h.block i hi hr)⟩
theorem grown_drew {row : Option Nat} (h : w.grownBy w' row) : w.grownBy w'.drew row := ⟨h.os, h.tape, h.output, h.size, h.block⟩
theorem grown_set {g : Nat} (w : World) (i : Nat) (u : Value) : w.grownBy (w.setCell ⟨g, i, none⟩ u) (some g) :=
  ⟨rfl, rfl, rfl, by simp, fun k _ hne => Below.heap_setCell w ⟨g, i, none⟩ u k (fun e => hne (by simp at e; rw [e]))⟩
end
theorem slice_of_own {w : World} {base : Nat} {e : TypeId} {size n : Nat} {v : Value} {xs : List Value} (h : w.ownsRow base e size v n xs) : ∃ A c, v = .slice A n c := by
  rcases h.2 with ⟨rfl, rfl⟩ | ⟨g', cap, cur, rfl, _, _, _⟩
  · exact ⟨_, _, rfl⟩
  · exact ⟨_, _, rfl⟩
theorem lit_cells (w : World) (cs : Array Value) (t : TypeId) (g : Nat) (hg : g = w.heap.size) : ∀ j u, cs.toList[j]? = some u → (w.alloc (.cells cs t)).cell? ((⟨g, 0, none⟩ : Addr).add j) = some u := by
  intro j u hj
  subst hg
  have e : ((⟨w.heap.size, 0, none⟩ : Addr).add j) = ⟨w.heap.size, j, none⟩ := by
    unfold Addr.add; split <;> simp_all
  rw [e]
  rw [cell_of_block (cs := cs) (t := t) (fr := (0, 0)) (by show (w.heap.push _)[w.heap.size]? = _; simp)]
  simpa using hj
/-- Pairs of ints, as the cells hold them. -/
def flat2 (d : List (Int × Int)) : List Value := d.flatMap fun p => [.int .i64 p.1, .int .i64 p.2]
theorem flat2_length (d : List (Int × Int)) : (flat2 d).length = d.length * 2 := by
  induction d with
  | nil => rfl
  | cons p d ih => simp [flat2] at ih ⊢; omega
theorem flat2_cons (p : Int × Int) (d : List (Int × Int)) : flat2 (p :: d) = .int .i64 p.1 :: .int .i64 p.2 :: flat2 d := rfl
theorem flat2_append (d e : List (Int × Int)) : flat2 (d ++ e) = flat2 d ++ flat2 e := by simp [flat2]
theorem flat2_fst : ∀ (d : List (Int × Int)) (i : Nat), i < d.length → (flat2 d)[i * 2]? = some (.int .i64 (d.getD i (0, 0)).1)
  | p :: d, 0, _ => rfl
  | p :: d, i + 1, h => by
    rw [flat2_cons, show (i + 1) * 2 = i * 2 + 1 + 1 from by omega, List.getElem?_cons_succ, List.getElem?_cons_succ, flat2_fst d i (by simpa using h)]
    rfl
theorem flat2_snd : ∀ (d : List (Int × Int)) (i : Nat), i < d.length → (flat2 d)[i * 2 + 1]? = some (.int .i64 (d.getD i (0, 0)).2)
  | p :: d, 0, _ => rfl
  | p :: d, i + 1, h => by
    rw [flat2_cons, show (i + 1) * 2 + 1 = i * 2 + 1 + 1 + 1 from by omega, List.getElem?_cons_succ, List.getElem?_cons_succ, flat2_snd d i (by simpa using h)]
    rfl
theorem flat2_set : ∀ (d : List (Int × Int)) (i : Nat) (p : Int × Int), ((flat2 d).set (i * 2) (.int .i64 p.1)).set (i * 2 + 1) (.int .i64 p.2) = flat2 (d.set i p)
  | [], i, p => by simp [flat2]
  | q :: d, 0, p => rfl
  | q :: d, i + 1, p => by
    rw [flat2_cons, show (i + 1) * 2 = i * 2 + 1 + 1 from by omega, List.set_cons_succ, List.set_cons_succ, List.set_cons_succ, List.set_cons_succ, flat2_set d i p]
    rfl
theorem flat2_take : ∀ (d : List (Int × Int)) (n : Nat), (flat2 d).take (n * 2) = flat2 (d.take n)
  | _, 0 => by simp [flat2]
  | [], n + 1 => by simp [flat2]
  | p :: d, n + 1 => by
    rw [flat2_cons, show (n + 1) * 2 = n * 2 + 1 + 1 from by omega, List.take_succ_cons, List.take_succ_cons, flat2_take d n]
    rfl
end Go.Proofs.Ytmbaklodgpcegaa

/- Package heap: rise. -/
namespace Go.Proofs.Ytmbaklodgpcegaa
open Go.ChangeShapes Go.WideShapes Go.ChangeAt Go.RowKit Go.Sort Hp
set_option linter.unusedSimpArgs false
set_option linter.unusedVariables false
/-- The heap at hb, whose row lies in block g. -/
structure HeapAt (w : World) (hb g cap : Nat) (d : List (Int × Int)) : Prop where
  head : Blok w hb 116 #[.slice (some ⟨g, 0, none⟩) d.length cap]
  row : w.ownsRow 0 75 2 (.slice (some ⟨g, 0, none⟩) d.length cap) d.length (flat2 d)
theorem HeapAt.fst {w : World} {hb g cap : Nat} {d : List (Int × Int)} (h : HeapAt w hb g cap d) {k : Nat} (hk : k < d.length) : w.cell? ⟨g, k * 2, none⟩ = some (.int .i64 (gt d k).1) := by
  rw [h.row.cellAt (k * 2) (by omega), flat2_fst d k hk]; rfl
theorem HeapAt.snd {w : World} {hb g cap : Nat} {d : List (Int × Int)} (h : HeapAt w hb g cap d) {k : Nat} (hk : k < d.length) : w.cell? ⟨g, k * 2 + 1, none⟩ = some (.int .i64 (gt d k).2) := by
  rw [h.row.cellAt (k * 2 + 1) (by omega), flat2_snd d k hk]; rfl

theorem HeapAt.grown {w w' : World} {hb g cap : Nat} {row : Option Nat} {d : List (Int × Int)} (h : HeapAt w hb g cap d) (hg : w.grownBy w' row) (h1 : row ≠ some hb) (h2 : row ≠ some g) : HeapAt w' hb g cap d :=
  ⟨h.head.grown hg (fun e => h1 e.symm), h.row.kept hg (.inr (by simp only [Value.ownBlock]; exact fun e => h2 e.symm))⟩
theorem HeapAt.ne_ {w : World} {hb g cap : Nat} {d : List (Int × Int)} (h : HeapAt w hb g cap d) : hb ≠ g := by
  have := Blok.ne_own h.row h.head (by decide)
  simp only [Value.ownBlock] at this
  exact fun e => this (by rw [e])

theorem HeapAt.drew {w : World} {hb g cap : Nat} {d : List (Int × Int)} (h : HeapAt w hb g cap d) : HeapAt w.drew hb g cap d :=
  h.grown (row := none) (grown_drew (grown_refl _ _)) (by simp) (by simp)
theorem HeapAt.store {w : World} {hb g cap : Nat} {d : List (Int × Int)} (h : HeapAt w hb g cap d) (k : Nat) (x : Int × Int) :
    HeapAt ((w.setCell ⟨g, k * 2, none⟩ (.int .i64 x.1)).setCell ⟨g, k * 2 + 1, none⟩ (.int .i64 x.2)) hb g cap (d.set k x) ∧ w.grownBy ((w.setCell ⟨g, k * 2, none⟩ (.int .i64 x.1)).setCell ⟨g, k * 2 + 1, none⟩ (.int .i64 x.2)) (some g) := by
  obtain ⟨r1, g1⟩ := h.row.stored (k * 2) (.int .i64 x.1)
  obtain ⟨r2, g2⟩ := r1.stored (k * 2 + 1) (.int .i64 x.2)
  have hg := grown_trans g1 g2
  refine ⟨⟨?_, ?_⟩, hg⟩
  · rw [List.length_set]
    exact h.head.grown hg (fun e => h.ne_ (by simpa using e))
  · rw [List.length_set, ← flat2_set]
    exact r2
theorem HeapAt.swap {w : World} {hb g cap : Nat} {d : List (Int × Int)} (h : HeapAt w hb g cap d) {k p : Nat} (hk : k < d.length) (hp : p < d.length) :
    HeapAt ((((w.setCell ⟨g, k * 2, none⟩ (.int .i64 (gt d p).1)).setCell ⟨g, k * 2 + 1, none⟩ (.int .i64 (gt d p).2)).setCell ⟨g, p * 2, none⟩ (.int .i64 (gt d k).1)).setCell ⟨g, p * 2 + 1, none⟩ (.int .i64 (gt d k).2)) hb g cap (swp d k p) ∧
      w.grownBy ((((w.setCell ⟨g, k * 2, none⟩ (.int .i64 (gt d p).1)).setCell ⟨g, k * 2 + 1, none⟩ (.int .i64 (gt d p).2)).setCell ⟨g, p * 2, none⟩ (.int .i64 (gt d k).1)).setCell ⟨g, p * 2 + 1, none⟩ (.int .i64 (gt d k).2)) (some g) := by
  obtain ⟨h1, g1⟩ := h.store k (gt d p)
  obtain ⟨h2, g2⟩ := h1.store p (gt d k)
  exact ⟨h2, grown_trans g1 g2⟩

set_option maxHeartbeats 2000000 in
set_option maxRecDepth 100000 in
theorem rise_any (hb g cap i : Nat) (d0 : List (Int × Int)) (w : World) (hcap : d0.length ≤ cap) (hsz : d0.length ≤ 1000000) (h0 : HeapAt w hb g cap d0) (hu : upInv d0 i) :
    Calls Try.prog 70 #[.pointer (some ⟨hb, 0, none⟩), .int .i64 i] w fun e w' => e = .returned (.tuple #[]) ∧ ∃ d', d'.length = d0.length ∧ d'.Perm d0 ∧ isHeap d' ∧ HeapAt w' hb g cap d' ∧ w.grownBy w' (some g) := by
    go_enter Try.func70, Try.ntmps70
    go_wp2
    refine wp_scope_label (fun a' w' => ∃ (k : Nat) (d : List (Int × Int)), d.length = d0.length ∧ d.Perm d0 ∧ upInv d k ∧ HeapAt w' hb g cap d ∧ w.grownBy w' (some g) ∧ ∃ u2 u3 u4 u5 u6 u7 u8 u9 u10 u11 u12 u13 u14 u15 u16 u17 u18 u19 u20 u21 u22 u23 u24 u25 u26 u27 u28 u29 u30 u31 u32 u33 u34 u35 u36 u37 u38 u39 u40 u41 u42 u43 u44 u45 u46 u47 u48 u49 u50 u51 u52 u53 : Value, a' = { tmps := #[.pointer (some ⟨hb, 0, none⟩), .int .i64 k, u2, u3, u4, u5, u6, u7, u8, u9, u10, u11, u12, u13, u14, u15, u16, u17, u18, u19, u20, u21, u22, u23, u24, u25, u26, u27, u28, u29, u30, u31, u32, u33, u34, u35, u36, u37, u38, u39, u40, u41, u42, u43, u44, u45, u46, u47, u48, u49, u50, u51, u52, u53], defers := [] })
      (fun a' _ => (intOf (a'.tmps.getD 1 undef)).toNat) ?_ ?_
    · exact ⟨i, d0, rfl, List.Perm.refl _, hu, h0, grown_refl _ _, _, _, _, _, _, _, _, _, _, _, _, _, _, _, _, _, _, _, _, _, _, _, _, _, _, _, _, _, _, _, _, _, _, _, _, _, _, _, _, _, _, _, _, _, _, _, _, _, _, _, _, _, rfl⟩
    · rintro a' wr ⟨k, d, hd, hp, hi, hA, hg, ⟨u2, u3, u4, u5, u6, u7, u8, u9, u10, u11, u12, u13, u14, u15, u16, u17, u18, u19, u20, u21, u22, u23, u24, u25, u26, u27, u28, u29, u30, u31, u32, u33, u34, u35, u36, u37, u38, u39, u40, u41, u42, u43, u44, u45, u46, u47, u48, u49, u50, u51, u52, u53, rfl⟩⟩
      have cb : wr.cell? ⟨hb, 0, none⟩ = some (.slice (some ⟨g, 0, none⟩) d.length cap) := hA.head.cell 0
      have hk := hi.lt
      have hne := hA.ne_
      by_cases k0 : 0 < k
      · obtain ⟨p, hpe⟩ : ∃ p : Nat, (k - 1) / 2 = p := ⟨_, rfl⟩
        have hpi : ((k : Int) - 1) / 2 = (p : Int) := by omega
        have HPI := Lib.hid hpi
        have HPE := Lib.hid hpe
        have hpk : p < d.length := by omega
        have hdc : d.length ≤ cap := by omega
        have hdm : d.length ≤ 1000000 := by omega
        have hkp : p < k := by omega
        have ck0 := hA.fst hk
        have ck1 := hA.snd hk
        have cp0 := hA.fst hpk
        have cp1 := hA.snd hpk
        have hdh := Lib.hid hd
        clear hpi hpe hd
        go_wp2
        rw [HPI.out]
        go_wp2_with fail
        have q_cb := fun d os => cell_regrown cb d os
        have q_ck0 := fun d os => cell_regrown ck0 d os
        have q_ck1 := fun d os => cell_regrown ck1 d os
        have q_cp0 := fun d os => cell_regrown cp0 d os
        have q_cp1 := fun d os => cell_regrown cp1 d os
        cases ha : ahd (gt d k) (gt d p)
        · have HA := Lib.hid ha
          clear ha
          try simp only [List.append]
          first | refine wp_region_text_below ?_ | refine wp_region_quiet_below (by kernel_rfl) (by kernel_rfl) ?_
          repeat (go_big_quiet_step ((go_at_call 76; with_reducible exact Calls.regrown_of (HA.out ▸ ahead_any (gt d k) (gt d p) _))))
          refine wpQuiet_nil ?_
          intro _ hqw
          obtain ⟨pq, hqw⟩ := hqw
          subst hqw
          clear q_cb q_ck0 q_ck1 q_cp0 q_cp1
          have hbel := below_regrown wr pq.d pq.os
          generalize hwq : grow (redrawn wr pq.d) pq.os = wq at *
          have hA2 := hA.grown (grown_of_below (row := none) hbel) (by simp) (by simp)
          have hg2 := grown_trans hg (grown_of_below (row := some g) hbel)
          clear hwq cb ck0 ck1 cp0 cp1 hbel
          go_wp2
          simp only [Exit.jump]
          go_end0
          exact ⟨rfl, d, hdh.out, hp, up_end hi (.inr (by rw [HPE.out]; exact HA.out)), hA2, hg2⟩
        · have HA := Lib.hid ha
          clear ha
          try simp only [List.append]
          first | refine wp_region_text_below ?_ | refine wp_region_quiet_below (by kernel_rfl) (by kernel_rfl) ?_
          repeat (go_big_quiet_step ((go_at_call 76; with_reducible exact Calls.regrown_of (HA.out ▸ ahead_any (gt d k) (gt d p) _))))
          refine wpQuiet_nil ?_
          intro _ hqw
          obtain ⟨pq, hqw⟩ := hqw
          subst hqw
          clear q_cb q_ck0 q_ck1 q_cp0 q_cp1
          have hbel := below_regrown wr pq.d pq.os
          generalize hwq : grow (redrawn wr pq.d) pq.os = wq at *
          have hA2 := hA.grown (grown_of_below (row := none) hbel) (by simp) (by simp)
          have hg2 := grown_trans hg (grown_of_below (row := some g) hbel)
          clear hwq cb ck0 ck1 cp0 cp1 hbel
          have cb : wq.cell? ⟨hb, 0, none⟩ = some (.slice (some ⟨g, 0, none⟩) d.length cap) := hA2.head.cell 0
          have ck0 := hA2.fst hk
          have ck1 := hA2.snd hk
          have cp0 := hA2.fst hpk
          have cp1 := hA2.snd hpk
          have fk0 := hA2.row.frozenAt (k * 2)
          have fk1 := hA2.row.frozenAt (k * 2 + 1)
          have fp0 := hA2.row.frozenAt (p * 2)
          have fp1 := hA2.row.frozenAt (p * 2 + 1)
          go_wp2_with fail
          go_region
          go_wp2
          have hS := hA2.swap hk hpk
          go_step3
          refine ⟨rfl, ⟨p, swp d k p, by rw [swp_length]; exact hdh.out, (swp_perm d k p hk hpk).trans hp, by have := up_step hi k0 (by rw [HPE.out]; exact HA.out); rw [HPE.out] at this; exact this, hS.1.drew, grown_trans hg2 (grown_drew hS.2), _, _, _, _, _, _, _, _, _, _, _, _, _, _, _, _, _, _, _, _, _, _, _, _, _, _, _, _, _, _, _, _, _, _, _, _, _, _, _, _, _, _, _, _, _, _, _, _, _, _, _, _, rfl⟩, ?_⟩
          simp [intOf]
          omega
      · obtain rfl : k = 0 := by omega
        go_wp2
        go_wp2_with fail
        try simp only [List.append]
        first | refine wp_region_text_below ?_ | refine wp_region_quiet_below (by kernel_rfl) (by kernel_rfl) ?_
        repeat (go_big_quiet_step ((fail)))
        refine wpQuiet_nil ?_
        intro _ hqw
        obtain ⟨pq, hqw⟩ := hqw
        subst hqw
        have hbel := below_regrown wr pq.d pq.os
        generalize hwq : grow (redrawn wr pq.d) pq.os = wq at *
        have hA2 := hA.grown (grown_of_below (row := none) hbel) (by simp) (by simp)
        have hg2 := grown_trans hg (grown_of_below (row := some g) hbel)
        clear hwq cb hbel
        go_wp2
        simp only [Exit.jump]
        go_end0
        exact ⟨rfl, d, hd, hp, up_end hi (.inl rfl), hA2, hg2⟩
end Go.Proofs.Ytmbaklodgpcegaa
