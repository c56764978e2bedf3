/- It does not matter in which order ones are laid: HeapOrder returns true for every list and every number from which on they are laid first. No condition. -/
import Derived.Test.YtpmibpclkfidkaaRows
import Derived.Test.YtpmibpclkfidkaaSmall14
import Derived.Test.YtpmibpclkfidkaaAppl
import Derived.Test.YtpmibpclkfidkaaStep
namespace Go.Proofs.Ytpmibpclkfidkaa
open Go.ChangeShapes Go.WideShapes Go.ChangeAt Go.RowKit Go.Sort Hp
set_option linter.unusedSimpArgs false
set_option linter.unusedVariables false
theorem neq_ready (a b c e : Int) (w : World) : (binOp .neq 30 (.agg #[.int .i64 a, .int .i64 b]) (.agg #[.int .i64 c, .int .i64 e])).run Try.prog w = .ok (.bool (!(a == c && b == e))) w := by
  have u3 := Try.underlying3
  have a3 := Try.isAgg3
  have z3 := Try.sizeOf3
  have hS : Try.prog.underlying 30 = some (.struct (Try.prog.fieldsOf 30)) := by kernel_rfl
  have hp : Try.prog.stoodInHeld 30 = false := by kernel_rfl
  rw [run_neq_struct, show (10000 : Nat) = 9999 + 1 from rfl, run_equalIn_agg w 9999 30 _ _ hS hp]
  simp only [Program.fieldsOf, Try.underlying30]
  go_simp
  by_cases h1 : a = c <;> by_cases h2 : b = e <;> simp [h1, h2]
theorem HeapB.up {w : World} {B C hb : Nat} {v : Value} {d l : List (Int × Int)} (h : HeapB w C hb v d l) (hC : B ≤ C) : HeapB w B hb v d l := ⟨h.at_, h.heap, h.perm, Nat.le_trans hC h.hb, fun k hk => Nat.le_trans hC (h.own k hk)⟩
theorem HeapB.keptS {S : Nat → Prop} {w w' : World} {B hb : Nat} {v : Value} {d l : List (Int × Int)} (h : HeapB w B hb v d l) (hk : Kept S w w') (h1 : ¬ S hb) (h2 : ∀ k, v.ownBlock = some k → ¬ S k) : HeapB w' B hb v d l :=
  ⟨⟨hk.blok h.at_.head h1, hk.owns h.at_.row h2⟩, h.heap, h.perm, h.hb, h.own⟩
theorem flat2_one : ∀ (l : List (Int × Int)), ∀ u ∈ flat2 l, u.oneCell' = true
  | [], u, h => by simp [flat2] at h
  | p :: l, u, h => by
    rw [flat2_cons] at h
    simp only [List.mem_cons] at h
    rcases h with rfl | rfl | h
    · rfl
    · rfl
    · exact flat2_one l u h
theorem flat2_drop : ∀ (l : List (Int × Int)) (n : Nat), (flat2 l).drop (n * 2) = flat2 (l.drop n)
  | l, 0 => by simp
  | [], n + 1 => by simp [flat2]
  | p :: l, n + 1 => by
    rw [flat2_cons, show (n + 1) * 2 = n * 2 + 1 + 1 from by omega, List.drop_succ_cons, List.drop_succ_cons, flat2_drop l n]
    rfl
/-- Two heaps of the same ones, behind j looks. -/
def TwoH (w wr : World) (M hb hbg : Nat) (ov og : Option Nat) (n j : Nat) : Prop :=
  ∃ v1 d1 r v2 d2 r', HeapB wr w.heap.size hb v1 d1 r ∧ HeapB wr w.heap.size hbg v2 d2 r' ∧ r.Perm r' ∧ r.length = n - j ∧ v1.ownBlock = ov ∧ v2.ownBlock = og ∧ Below w.heap.size w wr ∧ M ≤ wr.heap.size
set_option maxHeartbeats 4000000 in
set_option maxRecDepth 100000 in
theorem heapOrder_walk (A : Option Addr) (n c : Nat) (ns : List Int) (k : Int) (hnc : n ≤ c) (hcm : c ≤ maxLen) (hnl : ns.length = n * 2) (hw : ∀ m ∈ ns, (Lit.int .i64 m).wf = true) (hk : (Lit.int .i64 k).wf = true) (w : World) (hl : Lst w w.heap.size 2 A n (ns.map (Value.int .i64))) :
    Calls Try.prog 6 #[.slice A n c, .int .i64 k] w fun e w' => e = .returned (.bool true) ∧ Below w.heap.size w w' := by
  clear hw hk
  obtain ⟨l, hln, hlf⟩ := pairs_of n ns hnl
  rw [hlf] at hl
  clear hlf hnl
  unfold maxLen at hcm
  by_cases hn : 100 < n ∨ k < 0 ∨ (n : Int) < k
  · have hn' : 100 < n ∨ (n ≤ 100 ∧ k < 0) ∨ (n ≤ 100 ∧ 0 ≤ k ∧ (n : Int) < k) := by omega
    clear hn
    rcases hn' with hn | ⟨hn, hk⟩ | ⟨hn, hk, hk2⟩
    all_goals
      go_enter Try.func6, Try.ntmps6
      go_wp2_with fail
      refine (small14 _).mono ?_
      rintro e w1 ⟨rfl, hB⟩
      go_wp2
      go_ret
      exact ⟨rfl, by (repeat (first | exact Below.refl _ _ | exact hB | refine Below.alloc ?_ (by first | omega | (simp; done) | (simp; omega)) _ | refine Below.setCell ?_ (by first | omega | (simp; done) | (simp; omega)) _ | refine Below.drew ?_ | refine Below.trans ?_ (hB.mono (by first | omega | (simp; done) | (simp; omega)))))⟩
  · have hn1 : n ≤ 100 := by omega
    obtain ⟨q, rfl⟩ : ∃ q : Nat, k = q := ⟨k.toNat, by omega⟩
    have hq : q ≤ n := by omega
    have hqi : (q : Int) ≤ (n : Int) := by omega
    have hqc : q ≤ c := by omega
    clear hn
    obtain ⟨i0, hi0, hz0, hz1, hz2⟩ := info_parts ready_info
    go_enter Try.func6, Try.ntmps6
    go_wp2_with fail
    refine (small14 _).mono ?_
    rintro e w1 ⟨rfl, hB⟩
    have hs := hB.size
    have hl1 := (hl.below hB).more (B' := w1.heap.size) hB.size
    clear hl
    go_wp2_with fail
    refine (new_any A n c l w1 hln (by omega) hl1).mono ?_
    rintro e w2 ⟨hb, v, d, rfl, hH, hb2⟩
    replace hB := hB.trans (hb2.mono hs)
    have hs2 := hb2.size
    have hl2 := (hl1.below hb2).more (B' := w2.heap.size) hs2
    clear hb2 hl1
    have HLN := Lib.hid hln
    clear hln
    go_wp2_with fail
    have hB2 : Below w2.heap.size w2 (w2.alloc (.cells #[] 30)).drew := by (repeat (first | exact Below.refl _ _ | refine Below.alloc ?_ (by first | omega | (simp; done) | (simp; omega)) _ | refine Below.setCell ?_ (by first | omega | (simp; done) | (simp; omega)) _ | refine Below.drew ?_))
    have hl1 := hl2.from_ (k := q) hq hnc
    rw [flat2_drop] at hl1
    have hl3 := hl2.upto (k := q) hq
    rw [flat2_take] at hl3
    have hown0 : ((w2.alloc (.cells #[] 30)).drew).ownsRow w2.heap.size 30 2 (.slice (some ⟨w2.heap.size, 0, none⟩) 0 0) 0 [] := World.ownsRow_made w2 #[] 0 (Nat.le_refl _) (by simp) (by simp)
    have hln4 : (l.drop q ++ l.take q).length = n := by
      have := HLN.out
      simp; omega
    have HL4 := Lib.hid hln4
    clear hln4
    go_region_law (first
      | (refine step_append_lst _ rfl (.tmp 30) (.tmp 33) 22 rfl w2.heap.size 30 i0 _ 2 16 Try.underlying22 hi0 hz0 hz1 hz2 rfl (by decide) (.slice (some ⟨w2.heap.size, 0, none⟩) 0 0) 0 [] rfl hown0 w2.heap.size _ (n - q) (c - q) (flat2 (l.drop q)) rfl (hl1.below hB2) (flat2_one _) (by unfold maxLen; omega) (by omega) (by simp) ?_; intro v3 w3 hown3 hg3 hat3)
      | (refine step_append_lst _ rfl (.tmp 34) (.tmp 37) 22 rfl w2.heap.size 30 i0 _ 2 16 Try.underlying22 hi0 hz0 hz1 hz2 rfl (by decide) v3 _ _ rfl hown3 w2.heap.size A q c (flat2 (l.take q)) rfl ((hl3.below hB2).grown hg3 (by simp) (by intro g hg; simp [Value.ownBlock] at hg; omega)) (flat2_one _) (by unfold maxLen; omega) (by omega) (by have := hg3.size; simp at this; omega) ?_; intro v4 w4 hown4 hg4 hat4; rw [show 0 + (n - q) + q = n from by omega] at hown4; obtain ⟨A4, c4, rfl⟩ := slice_of_own hown4)
      | (refine step_call rfl 8 #[.tmp 38] _ rfl #[.slice A4 n c4] (by simp [Act.eval, Act.put]) Try.func8 rfl rfl ?_; refine (new_any A4 n c4 (l.drop q ++ l.take q) w4 HL4.out (by omega) (by have h := Lst.of_own hown4; rw [List.nil_append, ← flat2_append] at h; exact h)).mono ?_; rintro e w5 ⟨hbg, vg, dg, rfl, hHg, hb5⟩; refine ⟨_, rfl, ?_⟩))
    have hB5 : Below w2.heap.size w2 w5 := by
      refine Below.trans (Below.grown (Below.grown hB2 hg3 (by simp) ?_) hg4 (by have := hg3.size; simp at this; omega) ?_) (hb5.mono (by have := hg3.size; have := hg4.size; simp at *; omega))
      · intro k hk; simp [Value.ownBlock] at hk; omega
      · intro k hk; exact (hown3.lt k hk).1
    have hw4 : w2.heap.size ≤ w4.heap.size := by have := hg3.size; have := hg4.size; simp at *; omega
    have hhb := hH.at_.head.lt
    have hhbs := hH.hb
    have hhg := hHg.hb
    have hhg2 := hHg.at_.head.lt
    have HSV : Hid (∀ k, v.ownBlock = some k → w.heap.size ≤ k ∧ k < w2.heap.size) := fun k hk => ⟨by have := hH.own k hk; omega, hH.ownlt k hk⟩
    have HSG : Hid (∀ k, vg.ownBlock = some k → w2.heap.size ≤ k ∧ k < w5.heap.size) := fun k hk => ⟨by have := hHg.own k hk; omega, hHg.ownlt k hk⟩
    replace hB := hB.trans (hB5.mono (by omega))
    have hJ : TwoH w w5 w5.heap.size hb hbg v.ownBlock vg.ownBlock n 0 := by
      refine ⟨v, d, l, vg, dg, _, (hH.below hB5).up (by omega), hHg.up (by omega), ?_, ?_, rfl, rfl, hB, Nat.le_refl _⟩
      · have hpc := List.perm_append_comm (l₁ := l.take q) (l₂ := l.drop q)
        rw [List.take_append_drop] at hpc
        exact hpc
      · have := HLN.out; omega
    have hs5 : w2.heap.size ≤ w5.heap.size := hB5.size
    clear hH hHg hb5 hB5 hown4 hg4 hown3 hg3 hown0 hl1 hl3 hB2 hl2 hat3 hat4
    generalize w5.heap.size = M at *
    generalize w2.heap.size = X at *
    generalize (if c = q then A else Option.map (fun x => x.add (q * 2)) A) = A33
    go_wp2
    clear HL4
    go_loopw [8] (fun i wr => ∃ j : Nat, j ≤ n + 1 ∧ i = .int .i64 j ∧ TwoH w wr M hb hbg v.ownBlock vg.ownBlock n j) (fun i _ => n + 2 - (intOf i).toNat)
    case atStart => exact ⟨0, by omega, rfl, hJ⟩
    case round =>
      obtain ⟨j, hj, rfl, hJ'⟩ := hrel
      clear hJ
      obtain ⟨v1, d1, r, v2, d2, r', hH, hHg, hp, hlen, ho1, ho2, hB, hM⟩ := hJ'
      have hs := hB.size
      by_cases hjn : j < n
      · obtain ⟨m, hm⟩ := least_ex r (by intro e; subst e; simp at hlen; omega)
        obtain ⟨mn, ma⟩ := m
        have hm' := least_perm hm hp
        have hlen' := hp.length_eq
        have HM := Lib.hid hm
        have HM' := Lib.hid hm'
        have HP := Lib.hid hp
        have HLEN := Lib.hid hlen
        have HO1 := Lib.hid ho1
        have HO2 := Lib.hid ho2
        have hr : r.length ≤ 1000000 := by omega
        have hr' : r'.length ≤ 1000000 := by omega
        clear hm hm' hp hlen hlen' ho1 ho2
        go_wp2_with fail
        refine (popC hH HM.out hr).mono ?_
        rintro e w6 ⟨rfl, v1', d1', hH2, ho, hK⟩
        replace hHg := hHg.keptS hK (fun h => by rcases h with h | h <;> first | omega | (rw [HO1.out] at h; have := HSV.out _ h; omega)) (fun k hk h => by
          have h2 := HSG.out k (by rw [← HO2.out]; exact hk)
          rcases h with h | h <;> first | omega | (rw [HO1.out] at h; have := HSV.out _ h; omega))
        replace hB := hK.below_of hB hs (fun k hk h => by rcases h with h | h <;> first | omega | (rw [HO1.out] at h; have := HSV.out _ h; omega))
        have hg6 := hK.size
        have hs6 := hB.size
        have hM6 : M ≤ w6.heap.size := by omega
        have HO1' := Lib.hid (ho.trans HO1.out)
        clear hK ho hH hs
        have hR9 := Blok.new w6 30 #[.int .i64 mn, .int .i64 ma]
        have hBa : Below w6.heap.size w6 (w6.alloc (.cells #[.int .i64 mn, .int .i64 ma] 30)) := (Below.refl _ _).alloc (Nat.le_refl _) _
        replace hH2 := hH2.below hBa
        replace hHg := hHg.below hBa
        replace hB := hB.trans (hBa.mono hs6)
        have hz9 : w6.heap.size < (w6.alloc (.cells #[.int .i64 mn, .int .i64 ma] 30)).heap.size := by simp
        clear hBa
        go_wp2_with fail
        generalize w6.alloc (.cells #[.int .i64 mn, .int .i64 ma] 30) = wx at *
        have hs := hB.size
        refine (popC hHg HM'.out hr').mono ?_
        rintro e w7 ⟨rfl, v2', d2', hHg2, ho, hK⟩
        replace hH2 := hH2.keptS hK (fun h => by rcases h with h | h <;> first | omega | (rw [HO2.out] at h; have := HSG.out _ h; omega)) (fun k hk h => by
          have h2 := HSV.out k (by rw [← HO1'.out]; exact hk)
          rcases h with h | h <;> first | omega | (rw [HO2.out] at h; have := HSG.out _ h; omega))
        replace hR9 := hR9.kept hK (fun h => by rcases h with h | h <;> first | omega | (rw [HO2.out] at h; have := HSG.out _ h; omega))
        replace hB := hK.below_of hB hs (fun k hk h => by rcases h with h | h <;> first | omega | (rw [HO2.out] at h; have := HSG.out _ h; omega))
        have hg7 := hK.size
        have HO2' := Lib.hid (ho.trans HO2.out)
        clear hK ho hHg
        have r9a : w7.cell? ⟨w6.heap.size, 0, none⟩ = some (.int .i64 mn) := hR9.cell 0
        have r9b : w7.cell? ⟨w6.heap.size, 1, none⟩ = some (.int .i64 ma) := hR9.cell 1
        have hl9 : w6.heap.size < w7.heap.size := hR9.lt
        have hs7 := hB.size
        have hJn : TwoH w (w7.alloc (.cells #[.int .i64 mn, .int .i64 ma] 30)) M hb hbg v.ownBlock vg.ownBlock n (j + 1) := by
          have hBa : Below w7.heap.size w7 (w7.alloc (.cells #[.int .i64 mn, .int .i64 ma] 30)) := (Below.refl _ _).alloc (Nat.le_refl _) _
          refine ⟨v1', d1', _, v2', d2', _, hH2.below hBa, hHg2.below hBa, HP.out.erase _, ?_, HO1'.out, HO2'.out, hB.trans (hBa.mono hs7), by simp; omega⟩
          rw [List.length_erase_of_mem HM.out.1]
          have := HLEN.out
          omega
        clear hR9 hH2 hHg2
        have heq := neq_ready
        have hgd : Try.prog.eqGuardType Try.prog.depth 30 = false := by kernel_rfl
        have hjB : decide ((j : Int) < (n : Int)) = true := by simp; omega
        have hjn2 : (j : Int) < (n : Int) := by omega
        go_wp2
        refine ⟨⟨j + 1, by omega, by go_num, hJn⟩, ?_⟩
        simp [intOf]
        omega
      · by_cases hj2 : j = n
        · subst hj2
          have hr0 : r = [] := List.eq_nil_of_length_eq_zero (by omega)
          subst hr0
          have hr1 : r' = [] := List.eq_nil_of_length_eq_zero (by have := hp.length_eq; simpa using this.symm)
          subst hr1
          have HO1 := Lib.hid ho1
          have HO2 := Lib.hid ho2
          clear hlen ho1 ho2
          have hbl : hb < wr.heap.size := hH.at_.head.lt
          have hbl2 : hbg < wr.heap.size := hHg.at_.head.lt
          go_wp2_with fail
          refine (pop_none hb _ _ hH.nil_).mono ?_
          rintro e w6 ⟨rfl, hb6⟩
          have hg6 := hb6.size
          have hBa : Below w6.heap.size w6 (w6.alloc (.cells #[.int .i64 0, .int .i64 0] 30)) := (Below.refl _ _).alloc (Nat.le_refl _) _
          replace hH := (hH.below hb6).below hBa
          replace hHg := (hHg.below hb6).below hBa
          replace hB := (hB.trans (hb6.mono hs)).trans (hBa.mono (by omega))
          have hR9 := Blok.new w6 30 #[.int .i64 0, .int .i64 0]
          have hz9 : w6.heap.size < (w6.alloc (.cells #[.int .i64 0, .int .i64 0] 30)).heap.size := by simp
          clear hb6 hBa
          go_wp2_with fail
          generalize w6.alloc (.cells #[.int .i64 0, .int .i64 0] 30) = wx at *
          refine (pop_none hbg _ _ hHg.nil_).mono ?_
          rintro e w7 ⟨rfl, hb7⟩
          have hg7 := hb7.size
          have hBa : Below w7.heap.size w7 (w7.alloc (.cells #[.int .i64 0, .int .i64 0] 30)) := (Below.refl _ _).alloc (Nat.le_refl _) _
          replace hH := (hH.below hb7).below hBa
          replace hHg := (hHg.below hb7).below hBa
          replace hB := (hB.trans (hb7.mono (by omega))).trans (hBa.mono (by omega))
          replace hR9 := hR9.below hb7 hz9
          have r9a : w7.cell? ⟨w6.heap.size, 0, none⟩ = some (.int .i64 0) := hR9.cell 0
          have r9b : w7.cell? ⟨w6.heap.size, 1, none⟩ = some (.int .i64 0) := hR9.cell 1
          have hl9 : w6.heap.size < w7.heap.size := hR9.lt
          have hJn : TwoH w (w7.alloc (.cells #[.int .i64 0, .int .i64 0] 30)) M hb hbg v.ownBlock vg.ownBlock j (j + 1) :=
            ⟨v1, d1, [], v2, d2, [], hH, hHg, List.Perm.refl _, by simp, HO1.out, HO2.out, hB, by simp; omega⟩
          clear hb7 hBa hR9 hH hHg hp
          have heq := neq_ready
          have hgd : Try.prog.eqGuardType Try.prog.depth 30 = false := by kernel_rfl
          have hjB : decide ((j : Int) < (j : Int)) = false := by simp
          go_wp2
          refine ⟨⟨j + 1, by omega, by go_num, hJn⟩, ?_⟩
          simp [intOf]
        · have hj3 : j = n + 1 := by omega
          subst hj3
          clear hp hlen ho1 ho2 hH hHg
          go_wp2
          go_ret
          exact ⟨rfl, hB⟩
theorem heapOrder_own : ownKnob Try.prog.godebug = none := by kernel_rfl
theorem heapOrder_laidOut : laidOutB Try.prog = true := by kernel_rfl

set_option maxHeartbeats 1000000 in
set_option maxRecDepth 100000 in
theorem heapOrder_lifted (os : Os) (started : os.Started) (H : Type) (enc : TypeId × Value → H) :
    ReturnsInHanded {} Try.checked os 6 .any (Rows.heapOrderSpec.pre6 enc Try.prog Try.f6 Rows.heapOrderRow.domain false) (Rows.heapOrderSpec.post enc Try.prog Try.f6 false true false false) := by
  refine returnsInHanded_of_change (C := Try.checked) heapOrder_own started (by kernel_rfl) Try.func6
    (ChangeSpec.witness6 (enc := enc) (C := Try.checked) false ⟨#[], #[.slice none 0 0, .int .i64 0], []⟩ 8 (by kernel_rfl) (by kernel_rfl) (by kernel_rfl) (by kernel_rfl)) ?_
  intro W base args ds gs before hval0 hW hcnd _
  have hval : ∀ (j : Nat) t v, Try.f6.params[j]? = some t → args[j]? = some v → Value.okWide Try.prog W .any base t v := hval0
  have hW' := hW
  obtain ⟨p, q, hA0, hV, rfl, hfz, hnd⟩ := hW
  have hA : DataW.TrodAll enc Try.prog W 0 (fun _ => true) true Try.f6.params.toList args.toList ds p := hA0
  rw [Try.params6] at hA hval
  obtain ⟨v0, vs0, d0, ds0, p0, q0, hargs, rfl, rfl, h0, r0⟩ := trodAll_cons hA
  obtain ⟨v1, vs1, d1, ds1, p1, q1, rfl, rfl, rfl, h1, r1⟩ := trodAll_cons r0
  obtain ⟨rfl, rfl, rfl⟩ := trodAll_nil r1
  obtain rfl : args = #[v0, v1] := by cases args; simp_all
  obtain ⟨rfl, rfl⟩ := trodVars_none hV
  obtain ⟨A0, n0, c0, ns0, rfl, nc0, cm0, hl0, nl0, w0⟩ := open_rows 4 (K := 2) Try.underlying22 (by kernel_rfl) (by kernel_rfl) (by omega) (hval 0 22 v0 rfl rfl) h0
  obtain ⟨a1, rfl, rfl, rfl, w1⟩ := open_int Try.underlying3 (hval 1 3 v1 rfl rfl) h1
  clear hA0 hval0
  refine (heapOrder_walk A0 n0 c0 ns0 a1 nc0 cm0 nl0 w0 w1 W hl0).mono fun e W' ⟨he, bel⟩ => ?_
  subst he
  exact ⟨_, rfl, law_post heapOrder_laidOut (by kernel_rfl) rfl Try.underlying4 rfl rfl hW' bel⟩

theorem heapOrder_proved : Rows.HeapOrderSaid :=
  OpenClaim.holds_of_wide 6 Try.f6 rfl rfl rfl rfl rfl rfl rfl ⟨rfl, rfl, rfl, rfl, rfl⟩ rfl rfl rfl rfl rfl (by kernel_rfl) Try.func6 (by kernel_rfl)
    (of_decide_eq_true (by kernel_rfl)) (by unfold Func.isWrapper; first | (rw [if_pos (by decide +kernel)]; kernel_rfl) | (rw [if_neg (by decide +kernel)]; exact ⟨rfl, rfl⟩))
    (fun os started H enc _ => heapOrder_lifted os started H enc)
#print axioms heapOrder_proved
end Go.Proofs.Ytpmibpclkfidkaa
