/- Several texts of mine in one: DueFew, SortA. No condition. -/
import Derived.Test.YtjkcjbcbnnpmfaaDueMore
import Derived.Deep.LoopGhost
import Derived.Test.YtjkcjbcbnnpmfaaShelfIter
import Derived.Test.YtjkcjbcbnnpmfaaSlLib
import Derived.Sort.OwnSortedInts

/- due.Table's Fewest and Last. They make new memory, and write the table. -/
namespace Go.Proofs.Ytjkcjbcbnnpmfaa
open Go.ChangeShapes Go.WideShapes Go.ChangeAt Go.RowKit Go.Sort Go.Maps Hp
set_option linter.unusedSimpArgs false
set_option linter.unusedVariables false
/-- The least number of hops with which one may be in time. -/
def IsFew (l : List Ed) (size : Int) (op : Int → Bool) (q by_ x now : Int) : Option Nat → Prop
  | some h => (∃ t, lateL l size op q by_ h x = some t ∧ now ≤ t) ∧ ∀ k, k < h → ∀ t, lateL l size op q by_ k x = some t → t < now
  | none => ∀ k t, lateL l size op q by_ k x = some t → t < now
theorem few_ex (l : List Ed) (size : Int) (op : Int → Bool) (q by_ x now : Int) : ∃ o, IsFew l size op q by_ x now o := by
  by_cases h : ∃ k, ∃ t, lateL l size op q by_ k x = some t ∧ now ≤ t
  · obtain ⟨k, h1, h2⟩ := Go.exists_least h
    refine ⟨some k, h1, fun j hj t ht => ?_⟩
    rcases Int.lt_or_le t now with h3 | h3
    · exact h3
    · have := h2 j ⟨t, ht, h3⟩
      omega
  · refine ⟨none, fun k t ht => ?_⟩
    rcases Int.lt_or_le t now with h3 | h3
    · exact h3
    · exact absurd ⟨k, t, ht, h3⟩ h
theorem few_one {l : List Ed} {size : Int} {op : Int → Bool} {q by_ x now : Int} {o o' : Option Nat} (h : IsFew l size op q by_ x now o) (h' : IsFew l size op q by_ x now o') : o = o' := by
  cases o with
  | none =>
    cases o' with
    | none => rfl
    | some k => obtain ⟨⟨t, ht, hn⟩, _⟩ := h'; have := h k t ht; omega
  | some j =>
    cases o' with
    | none => obtain ⟨⟨t, ht, hn⟩, _⟩ := h; have := h' j t ht; omega
    | some k =>
      obtain ⟨⟨t, ht, hn⟩, h1⟩ := h
      obtain ⟨⟨u, hu, hm⟩, h2⟩ := h'
      rcases Nat.lt_trichotomy j k with e | e | e
      · have := h2 j e t ht; omega
      · rw [e]
      · have := h1 k e u hu; omega
theorem bool_iff (p : Prop) : ∃ b : Bool, (b = false ↔ p) := by
  by_cases h : p
  · exact ⟨false, by simp [h]⟩
  · exact ⟨true, by simp [h]⟩
set_option maxHeartbeats 4000000 in
set_option maxRecDepth 100000 in
theorem dfew_any {w0 w : World} {tb : Nat} {A : Option Addr} {n c : Nat} {l : List Ed} {q by_ size : Int} {sh : List Int} (t : TabH w0 w tb A n c l q by_ size sh 0) (hd : l.length = n) (hn : n ≤ 1000) (hre : rightE l = true) (hq : 1 ≤ q ∧ q ≤ 255) (h0 : 0 ≤ by_) (hb : by_ ≤ 1099511627776) (x now : Int) (hx : (Lit.int .i64 x).wf = true) (o : Option Nat) (ho : IsFew l size (opn sh q) q by_ x now o) (ov : Int) (ob : Bool) (hov : ((o.getD 0 : Nat) : Int) = ov) (hob : o.isSome = ob) :
    Calls Try.prog 22 #[.pointer (some ⟨tb, 0, none⟩), .int .i64 x, .int .i64 now] w fun e w' => e = .returned (.tuple #[.int .i64 ov, .bool ob]) ∧ ∃ h', h' ≤ n + 1 ∧ (∀ k, o = some k → h' = k) ∧ TabH w0 w' tb A n c l q by_ size sh h' := by
  have HD := Lib.hid hd
  have HRE := Lib.hid hre
  have HO := Lib.hid ho
  have HOV := Lib.hid hov
  have HOB := Lib.hid hob
  have HT0 := Lib.hid t
  clear hd hre ho hov hob t
  go_enter Try.func22, Try.ntmps22
  go_wp2_with fail
  go_loopg [8] (n + 1) (fun g sv wr => ∃ h : Nat, TabH w0 wr tb A n c l q by_ size sh h ∧ h ≤ n ∧ n + 1 - h ≤ g ∧ Hid (∀ k, k < h → ∀ t, lateL l size (opn sh q) q by_ k x = some t → t < now))
  case atStart => exact ⟨0, HT0.out, by omega, by omega, fun k hk => by omega⟩
  case round =>
    clear HT0
    obtain ⟨h, tt, hh, hg, HN⟩ := hrel
    obtain ⟨u, hu⟩ : ∃ z, (lateL l size (opn sh q) q by_ h x).getD 0 = z := ⟨_, rfl⟩
    obtain ⟨ok, hok⟩ : ∃ z, (lateL l size (opn sh q) q by_ h x).isSome = z := ⟨_, rfl⟩
    have HU := Lib.hid hu
    have HK := Lib.hid hok
    have HTT := Lib.hid tt
    have t5 : wr.cell? ⟨tb, 5, none⟩ = some (.int .i64 (h : Int)) := by obtain ⟨_, _, _, _, _, _, _, _, _, _, _, ht, _⟩ := tt; exact ht.box.cell 5
    have lt_t : tb < wr.heap.size := by obtain ⟨_, _, _, _, _, _, _, _, _, _, _, ht, _⟩ := tt; exact ht.box.lt
    clear hu hok tt
    go_wp2_with fail
    clear t5 lt_t
    refine (dat_any HTT.out (by omega) x h (Nat.le_refl _) hx u ok HU.out HK.out).mono ?_
    rintro e w2 ⟨rfl, hb2⟩
    have HT2 := Lib.hid (HTT.out.below hb2)
    have t5 : w2.cell? ⟨tb, 5, none⟩ = some (.int .i64 (h : Int)) := by obtain ⟨_, _, _, _, _, _, _, _, _, _, _, ht, _⟩ := HT2.out; exact ht.box.cell 5
    have lt_t : tb < w2.heap.size := by obtain ⟨_, _, _, _, _, _, _, _, _, _, _, ht, _⟩ := HT2.out; exact ht.box.lt
    clear hb2 HTT
    by_cases hin : ok = true ∧ now ≤ u
    · obtain ⟨rfl, hnu⟩ := hin
      have hL : lateL l size (opn sh q) q by_ h x = some u := by
        have h1 := HU.out
        have h2 := HK.out
        cases hc : lateL l size (opn sh q) q by_ h x with
        | none => rw [hc] at h2; cases h2
        | some z => rw [hc] at h1; rw [← h1]; rfl
      have he : o = some h := few_one HO.out ⟨⟨u, hL, hnu⟩, HN.out⟩
      have h1 : ov = (h : Int) := by rw [← HOV.out, he]; rfl
      have h2 : ob = true := by rw [← HOB.out, he]; rfl
      subst h1 h2
      have g1 : decide (now ≤ u) = true := decide_eq_true hnu
      have HE := Lib.hid he
      clear hL he hnu
      go_wp2_with fail
      exact bodyPost_ret (v := .tuple #[.int .i64 (h : Int), .bool true]) (by simp [results, Try.results22, go_sem]) rfl ⟨rfl, h, by omega, (fun k hk => by rw [HE.out] at hk; injection hk), HT2.out⟩
    · have hno : ∀ t, lateL l size (opn sh q) q by_ h x = some t → t < now := fun t ht => by
        have h1 := HU.out
        have h2 := HK.out
        rw [ht] at h1 h2
        have h3 : t = u := h1
        rcases not_both hin with e | ⟨_, e⟩
        · rw [e] at h2; cases h2
        · omega
      obtain ⟨b, hbq⟩ := bool_iff (lateL l size (opn sh q) q by_ (h + 1) = lateL l size (opn sh q) q by_ h)
      have HBQ := Lib.hid hbq
      have HN2 : Hid (∀ k, k < h + 1 → ∀ t, lateL l size (opn sh q) q by_ k x = some t → t < now) := fun k hk t ht => by
        by_cases e : k = h
        · subst e; exact hno t ht
        · exact HN.out k (by omega) t ht
      have hc := not_both hin
      clear hin hno hbq
      have hmore := dmore_any HT2.out (by omega) HD.out hn HRE.out hq b HBQ.out
      have HMORE := Lib.hid hmore
      clear hmore
      rcases hc with rfl | ⟨rfl, hnu⟩
      · skip
        go_wp2_with fail
        refine HMORE.out.mono ?_
        rintro e w3 ⟨rfl, ht3⟩
        have HT3 := Lib.hid ht3
        clear ht3 t5 lt_t
        cases b with
        | false =>
          have hst := HBQ.out.1 rfl
          have he : o = none := few_one HO.out (fun k t ht => by
            rcases Nat.lt_or_ge k (h + 1) with e | e
            · exact HN2.out k e t ht
            · rw [lateL_stop hst (k := k) (by omega)] at ht
              exact HN2.out h (by omega) t ht)
          have h1 : ov = 0 := by rw [← HOV.out, he]; rfl
          have h2 : ob = false := by rw [← HOB.out, he]; rfl
          subst h1 h2
          have HE := Lib.hid he
          clear hst he
          go_wp2_with fail
          exact bodyPost_ret (v := .tuple #[.int .i64 0, .bool false]) (by simp [results, Try.results22, go_sem]) rfl ⟨rfl, h + 1, by omega, (fun k hk => by rw [HE.out] at hk; cases hk), HT3.out⟩
        | true =>
          have hlt : h < n := by
            rcases Nat.lt_or_ge h n with e | e
            · exact e
            · have := HBQ.out.2 (lateL_same hb h0 (by rw [HD.out]; omega) (by rw [HD.out]; exact e))
              cases this
          go_wp2_with fail
          go_roundg (gk - 1)
          case measure => omega
          case rel => exact ⟨h + 1, HT3.out, by omega, by omega, HN2⟩
      · have g1 : decide (now ≤ u) = false := decide_eq_false hnu
        clear hnu
        go_wp2_with fail
        refine HMORE.out.mono ?_
        rintro e w3 ⟨rfl, ht3⟩
        have HT3 := Lib.hid ht3
        clear ht3 t5 lt_t
        cases b with
        | false =>
          have hst := HBQ.out.1 rfl
          have he : o = none := few_one HO.out (fun k t ht => by
            rcases Nat.lt_or_ge k (h + 1) with e | e
            · exact HN2.out k e t ht
            · rw [lateL_stop hst (k := k) (by omega)] at ht
              exact HN2.out h (by omega) t ht)
          have h1 : ov = 0 := by rw [← HOV.out, he]; rfl
          have h2 : ob = false := by rw [← HOB.out, he]; rfl
          subst h1 h2
          have HE := Lib.hid he
          clear hst he
          go_wp2_with fail
          exact bodyPost_ret (v := .tuple #[.int .i64 0, .bool false]) (by simp [results, Try.results22, go_sem]) rfl ⟨rfl, h + 1, by omega, (fun k hk => by rw [HE.out] at hk; cases hk), HT3.out⟩
        | true =>
          have hlt : h < n := by
            rcases Nat.lt_or_ge h n with e | e
            · exact e
            · have := HBQ.out.2 (lateL_same hb h0 (by rw [HD.out]; omega) (by rw [HD.out]; exact e))
              cases this
          go_wp2_with fail
          go_roundg (gk - 1)
          case measure => omega
          case rel => exact ⟨h + 1, HT3.out, by omega, by omega, HN2⟩
set_option maxHeartbeats 4000000 in
set_option maxRecDepth 100000 in
theorem dlast_any {w0 w : World} {tb : Nat} {A : Option Addr} {n c : Nat} {l : List Ed} {q by_ size : Int} {sh : List Int} {h : Nat} (t : TabH w0 w tb A n c l q by_ size sh h) (hh : h ≤ 10000) (hre : rightE l = true) (hq : 1 ≤ q ∧ q ≤ 255) :
    Calls Try.prog 27 #[.pointer (some ⟨tb, 0, none⟩)] w fun e w' => ∃ b k, e = .returned (.map (some b)) ∧ MapT w' b k (lateL l size (opn sh q) q by_ h) ∧ k ≤ 255 ∧ Below w.heap.size w w' := by
  have HT : Hid (∀ w', Below w.heap.size w w' → TabH w0 w' tb A n c l q by_ size sh h) := fun w' hb => t.below hb
  have HRE := Lib.hid hre
  obtain ⟨w1, pb, ub, sb, nm, ct, P, cs, vf, F, hdc, ht, hS, hC, hF, hF3, hF2, hP, hnm⟩ := t
  have HTB : Hid (∀ w', Below w.heap.size w w' → TB w1 w' tb pb ub A n c q size h sb nm P cs vf F) := fun w' hb => ht.below hb
  have hkeys : ∀ x, (rowsS P cs (.int .i64 x)).isSome = (lateL l size (opn sh q) q by_ h x).isSome := fun x => by
    show (if P x = [] then none else some (cs x)).isSome = _
    by_cases e : P x = []
    · rw [if_pos e, (hS.2.2 x).1 e]; rfl
    · rw [if_neg e]
      cases hc : lateL l size (opn sh q) q by_ h x with
      | none => exact absurd ((hS.2.2 x).2 hc) e
      | some z => rfl
  have HKEYS := Lib.hid hkeys
  have hmk := run_makeMap0 (P := Try.prog) 52 3 3 Try.underlying52 w
  have hM0 := MapT.made w
  have hb0 : Below w.heap.size w (w.alloc (.map #[] 0)) := (Below.refl _ _).alloc (Nat.le_refl _) _
  have hsl := MapV.lt ht.sm.map
  clear hre hdc ht hS hC hF hF3 hF2 hP hnm hkeys
  go_enter Try.func27, Try.ntmps27
  go_upto_region 2 with fail
  clear hmk
  generalize w.alloc (.map #[] 0) = w2 at *
  have t6 : w2.cell? ⟨tb, 6, none⟩ = some (.map (some sb)) := (HTB.out _ hb0).box.cell 6
  have lt_t := (HTB.out _ hb0).box.lt
  have HM2 := Lib.hid (HTB.out _ hb0).sm.map
  go_wp2_with (at_range; refine wpList_range_mapV rfl _ _ rfl 71 Try.underlying66 sb nm (rowsS P cs) rfl HM2.out ?_; intro wR lf0 cnt0 hrg0 hlf0 hgr0 hsz0)
  go_frame
  clear t6 lt_t HM2
  have hlbl : w.heap.size < w2.heap.size := MapV.lt hM0
  obtain ⟨rB, hrB⟩ : ∃ z, w2.heap.size = z := ⟨_, rfl⟩
  rw [hrB] at hrg0 hlbl ⊢
  have hbR := hb0.trans ((below_none hgr0).mono hb0.size)
  have hMR := MapV.below hM0 (below_none hgr0)
  have H0 : Hid (∀ x, (if lf0 (.int .i64 x) = true then none else lateL l size (opn sh q) q by_ h x) = none) := fun x => by
    rw [hlf0 _ (isKeyI x), HKEYS.out x]
    cases lateL l size (opn sh q) q by_ h x <;> simp
  clear hlf0 hgr0 hsz0 hrB hb0 hM0 w2
  go_loopw [4] (fun _ wr => ∃ (lf : Lit → Bool) (cnt k : Nat) (T : Int → Option Int) (V : List Int), RngV wr sb rB nm (rowsS P cs) lf cnt ∧ MapT wr w.heap.size k T ∧ Hid (∀ x, T x = if lf (.int .i64 x) = true then none else lateL l size (opn sh q) q by_ h x) ∧ Hid (V.Nodup ∧ V.length = k ∧ ∀ x ∈ V, (1 ≤ x ∧ x ≤ 255) ∧ lf (.int .i64 x) = false) ∧ Below w.heap.size w wr) (fun _ wr => wr.rangeLeft sb rB)
  case atStart => exact ⟨lf0, cnt0, 0, fun _ => none, [], hrg0, hMR, fun x => (H0.out x).symm, ⟨List.nodup_nil, rfl, by simp⟩, hbR⟩
  case round =>
    clear hrg0 hMR H0 hbR
    obtain ⟨lf, cnt, k, T, V, hrg, hM, HTE, HV, hB⟩ := hrel
    go_wp2_with (at_next; refine wpList_next_mapV rfl _ rfl sb rB nm (rowsS P cs) lf cnt rfl hrg ?_ ?_)
    · intro hl0
      have hTT : T = lateL l size (opn sh q) q by_ h := funext fun x => by rw [HTE.out x, hl0]; simp
      have hk : k ≤ 255 := by
        have h1 := few_nodes HV.out.1 (fun x hx => (HV.out.2.2 x hx).1)
        rw [HV.out.2.1] at h1
        exact h1
      rw [hTT] at hM
      have HM := Lib.hid hM
      clear hTT hM hrg
      go_wp2_with fail
      go_ret
      exact ⟨_, k, rfl, HM.out, hk, hB⟩
    · intro x v w3 cnt1 hwx hlx hSx hrg1 hlt hg1 hs1 hen
      have hrl := hrg.lt
      have hws : w.heap.size ≠ rB := by
        intro e
        obtain ⟨D, ⟨es, clock, g1, _⟩, _⟩ := hM
        obtain ⟨_, s, sn, c0, hb⟩ := hrg.blocks
        rw [e, hb] at g1
        cases g1
      have hB3 : Below w.heap.size w w3 := hB.grown hg1 hB.size (fun j hj => by injection hj with hj; omega)
      have hM3 := MapV.kept hM hg1 (fun e => by injection e with e; exact hws e)
      have hsx : (lateL l size (opn sh q) q by_ h x).isSome = true := by rw [← HKEYS.out x, hSx]; rfl
      obtain ⟨a, ha⟩ := Option.isSome_iff_exists.1 hsx
      have hxr := lateL_node HRE.out hq h x a ha
      have HA := Lib.hid ha
      have HLX := Lib.hid hlx
      have HLE := Lib.hid hrg.left_eq
      have HRG1 := Lib.hid hrg1
      have HM3 := Lib.hid hM3
      have HLT := Lib.hid hlt
      have t5 : w3.cell? ⟨tb, 5, none⟩ = some (.int .i64 (h : Int)) := (HTB.out _ hB3).box.cell 5
      have lt_t := (HTB.out _ hB3).box.lt
      clear hSx hlx hg1 hs1 hrg1 hrg hM3 hM hsx ha hlt hB
      go_wp2_with fail
      clear hen t5 lt_t
      refine (dat_any (HT.out _ hB3) hh x h (Nat.le_refl _) hwx a true (by rw [HA.out]; rfl) (by rw [HA.out]; rfl)).mono ?_
      rintro e w4 ⟨rfl, hb4⟩
      have hB4 := hB3.trans (hb4.mono hB3.size)
      have hM4 := MapV.below HM3.out hb4
      have hrg4 := HRG1.out.below hb4
      have hkb : k < maxLen := by
        have h1 := few_nodes HV.out.1 (fun x hx => (HV.out.2.2 x hx).1)
        rw [HV.out.2.1] at h1
        unfold maxLen
        omega
      obtain ⟨w5, hput, hM5, hg5⟩ := MapT.put hM4 hkb hwx a
      have hB5 := hB4.grown hg5 hB4.size (fun j hj => by injection hj with hj; omega)
      have hrg5 := hrg4.kept hg5 (fun e => by injection e with e; omega) (fun e => by injection e with e; exact hws e.symm)
      have HM5 := Lib.hid hM5
      have HR5 := Lib.hid hrg5
      clear hb4 hM4 hrg4 hM5 hg5 hrg5 hB3 HM3 HRG1 hB4
      go_wp2_with fail
      try go_frame
      go_roundw
      case rel =>
        refine ⟨_, cnt1, k + 1, _, V ++ [x], HR5.out, HM5.out, fun y => ?_, ⟨?_, by rw [List.length_append, HV.out.2.1]; rfl, fun y hy => ?_⟩, hB5⟩
        · by_cases e : y = x
          · subst e
            rw [setT_same, WideAt.sameKey_self (isKeyI y)]
            simp [HA.out]
          · have hs : (Lit.int .i64 y).sameKey (.int .i64 x) = false := by
              cases h2 : (Lit.int .i64 y).sameKey (.int .i64 x) with
              | false => rfl
              | true => have := WideAt.sameKey_eq h2; injection this with _ h3; exact absurd h3 e
            rw [setT_ne _ _ e, HTE.out y, hs]
            simp
        · rw [List.nodup_append]
          refine ⟨HV.out.1, by simp, fun y hy z hz => ?_⟩
          rw [List.mem_singleton.1 hz]
          intro e2
          subst e2
          have := (HV.out.2.2 y hy).2
          rw [HLX.out] at this
          cases this
        · rcases List.mem_append.1 hy with h1 | h1
          · have h2 := HV.out.2.2 y h1
            exact ⟨h2.1, by rw [h2.2]; rfl⟩
          · rw [List.mem_singleton.1 h1]
            exact ⟨hxr, by rw [WideAt.sameKey_self (isKeyI x)]; simp⟩
      case measure => rw [HR5.out.left_eq, HLE.out]; exact HLT.out
end Go.Proofs.Ytjkcjbcbnnpmfaa

/- slices.Sort at ints, a row of the call's own. No condition. -/
namespace Go.Proofs.Ytjkcjbcbnnpmfaa
open Go.Shelf Go.ChangeShapes Go.WideShapes Go.ChangeAt Go.RowKit Go.Sort
set_option linter.unusedSimpArgs false
set_option linter.unusedVariables false
def sortI (l : List Int) : List Int := l.mergeSort fun x y => decide (x ≤ y)
theorem sortI_length (l : List Int) : (sortI l).length = l.length := by unfold sortI; exact List.length_mergeSort _
theorem sortI_any (u : Value) (l : List Int) (base : Nat) (w : World) (hl : l.length ≤ 1000000) (hown : w.ownsRow base 3 1 u l.length (l.map (Value.int .i64))) :
    Calls Try.prog 43 #[u] w fun e w' => e = .returned (.tuple #[]) ∧ w'.ownsRow base 3 1 u l.length ((sortI l).map (Value.int .i64)) ∧ w.grownBy w' u.ownBlock := by
  rcases hown.2 with ⟨rfl, h0⟩ | ⟨g, cap, cur, rfl, hbase, hb, h1, h2, h3, h4⟩
  · have hl0 : l = [] := by simpa using h0
    subst hl0
    refine (AnyM.slices_Sort_int_none Try.sortA none 0 w).mono ?_
    rintro e w' ⟨rfl, rfl⟩
    exact ⟨rfl, by rw [show sortI [] = [] from by simp [sortI]]; exact hown, grown_refl _ _⟩
  · have hH := holds_of_blockI hb (by simpa using h4)
    have hgl : g < w.heap.size := (Array.getElem?_eq_some_iff.1 hb).1
    refine (AnyM.slices_Sort_int Try.sortA g 0 cap l w hH hgl (by omega)).mono ?_
    rintro e w' ⟨rfl, nn, os, rfl⟩
    exact ⟨rfl, ownsRow_sortedI (sortI_length l) hbase hb h1 h2 h3, grownBy_sortedI _⟩
theorem own_ne {w : World} {b b' : Nat} {e e' : TypeId} {s s' n n' : Nat} {v v' : Value} {xs xs' : List Value} (h : w.ownsRow b e s v n xs) (h' : w.ownsRow b' e' s' v' n' xs') (hne : e ≠ e') : v.ownBlock = none ∨ v.ownBlock ≠ v'.ownBlock := by
  rcases h.2 with ⟨rfl, _⟩ | ⟨g, cap, cur, rfl, _, hg, _⟩
  · exact .inl rfl
  · rcases h'.2 with ⟨rfl, _⟩ | ⟨g', cap', cur', rfl, _, hg', _⟩
    · exact .inr (by simp [Value.ownBlock])
    · refine .inr (fun e2 => hne ?_)
      simp only [Value.ownBlock, Option.some.injEq] at e2
      rw [e2, hg'] at hg
      injection hg with hg
      injection hg with _ hg
      exact hg.symm
end Go.Proofs.Ytjkcjbcbnnpmfaa
