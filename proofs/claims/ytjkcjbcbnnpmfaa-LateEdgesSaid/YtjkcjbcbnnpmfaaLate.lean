/- late: sorted, Times, Fewest. They make new memory alone. -/
import Derived.Test.YtjkcjbcbnnpmfaaDueNew
import Derived.Test.YtjkcjbcbnnpmfaaGM
import Derived.Test.YtjkcjbcbnnpmfaaGP
namespace Go.Proofs.Ytjkcjbcbnnpmfaa
open Go.ChangeShapes Go.WideShapes Go.ChangeAt Go.RowKit Go.Sort Go.Maps Hp
set_option linter.unusedSimpArgs false
set_option linter.unusedVariables false
set_option maxHeartbeats 8000000 in
set_option maxRecDepth 100000 in
theorem lsort_any (b n : Nat) (T : Int → Option Int) (w : World) (hM : MapT w b n T) (hwf : ∀ x, (T x).isSome = true → 1 ≤ x ∧ x ≤ 255) :
    Calls Try.prog 26 #[.map (some b)] w fun e w' => ∃ v r, e = .returned v ∧ Srt r ∧ atR r = T ∧ r.length ≤ 255 ∧ w'.ownsRow w.heap.size 36 2 v r.length (flat2 r) ∧ Below w.heap.size w w' := by
  obtain ⟨i0, hi0, hz0, hz1, hz2⟩ := info_parts ready_info
  obtain ⟨j0, hj0, hy0, hy1, hy2⟩ := info_parts infoIM
  have HWN := Lib.hid hwf
  have HWF : Hid (∀ x, (T x).isSome = true → (Lit.int .i64 x).wf = true) := fun x hx => by have := HWN.out x hx; exact wfI (by omega)
  have HM := Lib.hid hM
  have hbl := MapV.lt hM
  clear hwf hM
  go_enter Try.func26, Try.ntmps26
  go_wp2_with (at_range; refine wpList_range_mapV rfl _ _ rfl 3 Try.underlying52 b n (tabS T) rfl HM.out ?_; intro wR lf0 cnt0 hrg0 hlf0 hgr0 hsz0)
  go_frame
  obtain ⟨rB, hrB⟩ : ∃ z, w.heap.size = z := ⟨_, rfl⟩
  rw [hrB] at hrg0
  have HRB := Lib.hid hrB
  have hbR := below_none hgr0
  have H0 : Hid (∀ x, x ∈ ([] : List Int) ↔ (T x).isSome = true ∧ lf0 (.int .i64 x) = false) := fun x => by
    rw [hlf0 _ (isKeyI x)]
    show _ ↔ (T x).isSome = true ∧ ((T x).map (Value.int .i64)).isSome = false
    cases T x <;> simp
  clear hlf0 hgr0 hsz0 hrB
  try rw [HRB.out]
  go_loopw [3] (fun nv wr => ∃ (lf : Lit → Bool) (cnt : Nat) (V : List Int), RngV wr b rB n (tabS T) lf cnt ∧ wr.ownsRow rB 3 1 nv V.length (V.map (Value.int .i64)) ∧ Hid (V.Nodup) ∧ Hid (∀ x, x ∈ V ↔ (T x).isSome = true ∧ lf (.int .i64 x) = false) ∧ Below w.heap.size w wr) (fun _ wr => wr.rangeLeft b rB)
  case atStart => exact ⟨lf0, cnt0, [], hrg0, World.ownsRow_nil _ _ _ _, List.nodup_nil, H0, hbR⟩
  case round =>
    clear hrg0 H0 hbR
    obtain ⟨lf, cnt, V, hrg, hown, HND, HV, hB⟩ := hrel
    obtain ⟨Av, cv, rfl⟩ := slice_of_own hown
    have hV5 : V.length ≤ 255 := few_nodes HND.out (fun x hx => HWN.out x ((HV.out x).1 hx).1)
    go_wp2_with (at_next; refine wpList_next_mapV rfl _ rfl b rB n (tabS T) lf cnt rfl hrg ?_ ?_)
    · intro hl0
      have hmem : ∀ x, x ∈ sortI V ↔ (T x).isSome = true := fun x => by
        rw [show x ∈ sortI V ↔ x ∈ V from (List.mergeSort_perm V _).mem_iff, HV.out x, hl0]; simp
      have hnk : (sortI V).Nodup := (List.mergeSort_perm V _).nodup_iff.2 HND.out
      have hsk : (sortI V).Pairwise (fun a b => a ≤ b) := by
        have := List.pairwise_mergeSort (le := fun (a b : Int) => decide (a ≤ b)) (fun a b c h1 h2 => by simp at *; omega) (fun a b => by simp; omega) V
        exact this.imp (fun h => by simpa using h)
      have hkl := sortI_length V
      have HMR := Lib.hid hrg.map
      have HOW := Lib.hid hown
      clear hrg hown
      go_wp2_with fail
      refine (sortI_any (.slice Av V.length cv) V rB wr (by omega) HOW.out).mono ?_
      rintro e w2 ⟨rfl, hrow, hg2⟩
      have hMw : MapT w2 b n T := MapV.kept HMR.out hg2 (fun e => by have := (HOW.out.lt b e.symm).1; have := HRB.out; omega)
      have hb2 : Below w.heap.size w w2 := hB.grown hg2 hB.size (fun k hk => by have := (HOW.out.lt k hk).1; have := HRB.out; omega)
      obtain ⟨ks, hks⟩ : ∃ l, sortI V = l := ⟨_, rfl⟩
      rw [hks] at hrow hmem hnk hsk hkl
      obtain ⟨m, hm⟩ : ∃ m, V.length = m := ⟨_, rfl⟩
      rw [hm] at hrow hkl hV5
      have hkr := Sl.of_own hrow
      have HMM : Hid (∀ x, x ∈ ks ↔ (T x).isSome = true) := hmem
      have HNK : Hid ks.Nodup := hnk
      have HSK := Lib.hid hsk
      have HKL := Lib.hid hkl
      have HKR := Lib.hid (fun w' (hb : Below w2.heap.size w2 w') => hkr.up hb)
      have HB := Lib.hid hb2
      have HMW := Lib.hid hMw
      have HVM := Lib.hid hm
      have hs2 := hb2.size
      have hmn : m ≤ 255 := hV5
      clear hks hmem hnk hsk hkl hrow hkr hb2 hMw hg2 HMR HOW HND HV hV5 hm hl0 hB
      try rw [HVM.out]
      go_wp2_with fail
      go_loopw [5, 22] (fun ev iv wr => ∃ (i : Nat), iv = .int .i64 i ∧ i ≤ m ∧ wr.ownsRow w2.heap.size 36 2 ev i (flat2 ((ks.take i).map fun x => (x, (T x).getD 0))) ∧ Below w2.heap.size w2 wr) (fun ev iv _ => m - (intOf iv).toNat)
      case atStart => exact ⟨0, rfl, by omega, World.ownsRow_nil _ _ _ _, Below.refl _ _⟩
      case round =>
        obtain ⟨i, rfl, hi, hown, hB⟩ := hrel
        have hs := hB.size
        obtain ⟨Ae, ce, rfl⟩ := slice_of_own hown
        have HNW := Lib.hid hown
        clear hown
        by_cases him : i < m
        · obtain ⟨ad, rfl, hab, c0⟩ := (HKR.out _ hB).lst.atI HKL.out him
          have hik : i < ks.length := by rw [HKL.out]; exact him
          have htk : ks.take (i + 1) = ks.take i ++ [ks.getD i 0] := by
            rw [List.take_succ_eq_append_getElem hik, List.getD_eq_getElem?_getD, List.getElem?_eq_getElem hik]; rfl
          have hmx : ks.getD i 0 ∈ ks := by
            rw [List.getD_eq_getElem?_getD, List.getElem?_eq_getElem hik]; exact List.getElem_mem _
          obtain ⟨x, hx⟩ : ∃ x, ks.getD i 0 = x := ⟨_, rfl⟩
          rw [hx] at c0 htk hmx
          have hTx := (HMM.out x).1 hmx
          have HW := Lib.hid (HWF.out x hTx)
          obtain ⟨u, hu⟩ := Option.isSome_iff_exists.1 hTx
          have HU := Lib.hid hu
          have HTK := Lib.hid htk
          have hMr := HMW.out.below hB
          have HMR := Lib.hid (show MapV wr 3 b n (tabS T) from hMr)
          clear hik htk hmx hx hTx hu hMr
          go_wp2_with (first
            | (at_lookup; refine wpList_look_map rfl _ _ _ rfl 3 3 b n (tabS T) rfl HMR.out (Maps.int_keyed Try.underlying3) Try.underlying52 (zeroI5 _) (.int .i64 x) (.int .i64 x) rfl (keyI x HW.out) (isKeyI x) (.int .i64 u) (by show ((T x).map (Value.int .i64)).getD _ = _; rw [HU.out]; rfl) ?_)
            | (at_builtin; refine wpList_append_own _ rfl _ _ 29 rfl w2.heap.size 36 i0 _ 2 16 Try.underlying29 hi0 hz0 hz1 hz2 rfl (by decide) _ _ _ rfl (HNW.out.alloc _) ⟨wr.heap.size, 0, none⟩ 1 1 [.int .i64 x, .int .i64 u] rfl rfl (by exact lit_cells wr #[.int .i64 x, .int .i64 u] _ _ rfl) (by simp [Value.oneCell']) (by unfold maxLen; omega) (by omega) (by simp; omega) ?_; intro v' w3 hown' hgrow3 hnil3; clear hnil3))
          have hbN : Below w2.heap.size w2 w3 := (hB.alloc hs _).grown hgrow3 (by simp; omega) (fun g hg => (HNW.out.lt g hg).1)
          have HON : Hid (w3.ownsRow w2.heap.size 36 2 v' (i + 1) (flat2 ((ks.take (i + 1)).map fun x => (x, (T x).getD 0)))) := by
            show w3.ownsRow w2.heap.size 36 2 v' (i + 1) _
            rw [HTK.out, List.map_append, flat2_append]
            show w3.ownsRow w2.heap.size 36 2 v' (i + 1) (_ ++ [.int .i64 x, .int .i64 ((T x).getD 0)])
            rw [HU.out]
            exact hown'
          clear hgrow3 hown'
          go_roundw
          case rel => exact ⟨i + 1, by go_num, by omega, HON.out, hbN⟩
          case measure => simp [intOf]; omega
        · obtain rfl : i = m := by omega
          have htk : ks.take i = ks := List.take_of_length_le (by rw [HKL.out]; exact Nat.le_refl _)
          have HTK := Lib.hid htk
          clear htk
          have hat : atR (ks.map fun x => (x, (T x).getD 0)) = T := by
            funext x
            rw [sorted_at]
            by_cases h : x ∈ ks
            · rw [if_pos h]
              obtain ⟨u, hu⟩ := Option.isSome_iff_exists.1 ((HMM.out x).1 h)
              rw [hu]; rfl
            · rw [if_neg h]
              cases hu : T x with
              | none => rfl
              | some u => exact absurd ((HMM.out x).2 (by rw [hu]; rfl)) h
          have HAT := Lib.hid hat
          clear hat
          go_wp2_with fail
          go_ret
          refine ⟨_, ks.map fun x => (x, (T x).getD 0), rfl, sorted_srt HNK.out HSK.out, HAT.out, by rw [List.length_map, HKL.out]; omega, ?_, HB.out.trans (hB.mono hs2)⟩
          have h := HNW.out
          rw [HTK.out] at h
          rw [List.length_map, HKL.out]
          exact own_down h hs2
    · intro x v w3 cnt1 hwx hlx hSx hrg1 hlt hg1 hs1 hen
      have hown3 : w3.ownsRow rB 3 1 (.slice Av V.length cv) V.length (V.map (Value.int .i64)) := hown.kept hg1 (.inr (fun e => by obtain ⟨_, s, sn, c0, hb⟩ := hrg.blocks; exact own_not_iter hown hb e))
      have hB3 : Below w.heap.size w w3 := hB.grown hg1 hB.size (fun k hk => by injection hk with hk; have := HRB.out; omega)
      have hxs : (T x).isSome = true := by
        have h1 : ((T x).map (Value.int .i64)) = some v := hSx
        cases hT : T x with
        | none => rw [hT] at h1; cases h1
        | some a => rfl
      obtain ⟨nv, hnv⟩ : ∃ z, V.length = z := ⟨_, rfl⟩
      have HNV := Lib.hid hnv
      have hown4 := hown3
      rw [hnv] at hown4 hV5
      have HO3 := Lib.hid hown4
      have HLX := Lib.hid hlx
      have HXS := Lib.hid hxs
      have HLE := Lib.hid hrg.left_eq
      have HR1 := Lib.hid hrg1
      have HLT := Lib.hid hlt
      have hlit := Sl.of_own (own_lit w3 0 3 1 1 #[.int .i64 x] (Nat.zero_le _) rfl (by unfold maxLen; omega))
      have hrb3 : rB ≤ w3.heap.size := by have := HRB.out; have := hB3.size; omega
      clear hSx hrg1 hg1 hs1 hrg hown hown3 hown4 hB hlt hxs hlx hnv
      try rw [HNV.out]
      go_wp2_with (at_builtin; refine wpList_append_lst _ rfl (.tmp 14) (.tmp 16) 23 rfl rB 3 j0 _ 1 8 Try.underlying23 hj0 hy0 hy1 hy2 rfl (by decide) (.slice Av nv cv) nv (V.map (Value.int .i64)) rfl (HO3.out.alloc _) _ _ 1 1 [.int .i64 x] rfl hlit.lst (by simp [Value.oneCell']) (by unfold maxLen; omega) (by omega) (by simp; omega) ?_; intro v7 w7 hown7 hg7 hl7; obtain ⟨A7, q7, rfl⟩ := slice_of_own hown7; have HO7 := Lib.hid hown7; have HG7 := Lib.hid hg7; clear hown7 hg7 hl7)
      try go_frame
      have hw7 : Below w3.heap.size w3 (w3.alloc (.cells #[.int .i64 x] 3)) := by (repeat (first | exact Below.refl _ _ | refine Below.alloc ?_ (by first | omega | (simp; done) | (simp; omega)) _ | refine Below.setCell ?_ (by first | omega | (simp; done) | (simp; omega)) _ | refine Below.drew ?_))
      have hB7 : Below w.heap.size w w7 := (hB3.trans (hw7.mono hB3.size)).grown HG7.out (by have := hB3.size; have := hw7.size; omega) (fun k hk => by have := (HO3.out.lt k hk).1; have := HRB.out; omega)
      have hrg7 := (HR1.out.below hw7).kept HG7.out (fun e => by obtain ⟨⟨es, ck, hb⟩, _⟩ := HR1.out.blocks; exact own_not_map HO3.out hb e.symm) (fun e => by obtain ⟨_, s, sn, c0, hb⟩ := HR1.out.blocks; exact own_not_iter HO3.out hb e.symm)
      have HR7 := Lib.hid hrg7
      clear hrg7 hw7 HG7 hlit hB3 hen
      go_roundw
      case rel =>
        refine ⟨_, cnt1, V ++ [x], HR7.out, ?_, ?_, fun y => ?_, hB7⟩
        · rw [List.length_append, List.map_append, HNV.out]; exact HO7.out
        · show (V ++ [x]).Nodup
          rw [List.nodup_append]
          refine ⟨HND.out, by simp, fun y hy z hz => ?_⟩
          rw [List.mem_singleton.1 hz]
          intro e2
          subst e2
          have := ((HV.out y).1 hy).2
          rw [HLX.out] at this
          cases this
        · rw [List.mem_append, HV.out y, List.mem_singleton]
          by_cases e : y = x
          · subst e; rw [WideAt.sameKey_self (isKeyI y)]; simp [HXS.out]
          · have hs : (Lit.int .i64 y).sameKey (.int .i64 x) = false := by
              cases h2 : (Lit.int .i64 y).sameKey (.int .i64 x) with
              | false => rfl
              | true => have := WideAt.sameKey_eq h2; injection this with _ h3; exact absurd h3 e
            rw [hs]; simp [e]
      case measure => rw [HR7.out.left_eq, HLE.out]; exact HLT.out
/-- The latest times, with so many hops: by rising nodes. -/
structure IsLateT (l : List Ed) (q by_ size hops : Int) (sh : List Int) (r : List (Int × Int)) : Prop where
  srt : Srt r
  no : askE l q by_ size = false ∨ hops < 0 → r = []
  yes : askE l q by_ size = true → 0 ≤ hops → atR r = lateL l size (opn sh q) q by_ hops.toNat
theorem IsLateT.one {l : List Ed} {q by_ size hops : Int} {sh : List Int} {r r' : List (Int × Int)} (h : IsLateT l q by_ size hops sh r) (h' : IsLateT l q by_ size hops sh r') : r = r' := by
  by_cases hc : askE l q by_ size = true ∧ 0 ≤ hops
  · exact Srt.ext h.srt h'.srt fun n => by rw [h.yes hc.1 hc.2, h'.yes hc.1 hc.2]
  · have : askE l q by_ size = false ∨ hops < 0 := by
      cases ha : askE l q by_ size with
      | false => exact .inl rfl
      | true => exact .inr (by rcases Int.lt_or_le hops 0 with h1 | h1; exact h1; exact absurd ⟨ha, h1⟩ hc)
    rw [h.no this, h'.no this]
set_option maxHeartbeats 8000000 in
set_option maxRecDepth 100000 in
theorem ltimes_any (Ae : Option Addr) (ne ce : Nat) (l : List Ed) (q by_ size hops : Int) (As : Option Addr) (ns cs : Nat) (sh : List Int) (w : World) (hde : l.length = ne) (hne : ne ≤ 1000) (hds : sh.length = ns) (hns : ns ≤ 100000) (hwf : ∀ k, k < ns → (Lit.int .i64 (sh.getD k 0)).wf = true) (hle : Sl w w.heap.size 8 Ae ne ce (flatEd l)) (hls : Sl w w.heap.size 1 As ns cs (sh.map (Value.int .i64))) :
    Calls Try.prog 12 #[.slice Ae ne ce, .int .i64 q, .int .i64 by_, .int .i64 size, .int .i64 hops, .slice As ns cs] w fun e w' => ∃ A' n' c' r, e = .returned (.slice A' n' c') ∧ r.length = n' ∧ n' ≤ 255 ∧ IsLateT l q by_ size hops sh r ∧ Sl w' w'.heap.size 2 A' n' c' (flat2 r) ∧ Below w.heap.size w w' := by
  have HDE := Lib.hid hde
  have HDS := Lib.hid hds
  have HWF := Lib.hid hwf
  obtain ⟨ab, hab⟩ : ∃ b, askE l q by_ size = b := ⟨_, rfl⟩
  have HAB := Lib.hid hab
  have HO : Hid (walkE l [] q by_ size = if ab = true then some [] else none) := by
    show walkE l [] q by_ size = _
    unfold walkE
    rw [hab]; rfl
  clear hde hds hwf hab
  by_cases hno : ab = false ∨ hops < 0
  · have HNO : Hid (askE l q by_ size = false ∨ hops < 0) := by show _; rw [HAB.out]; exact hno
    have hcs : ab = false ∨ (ab = true ∧ hops < 0) := by cases ab with | false => exact .inl rfl | true => exact .inr ⟨rfl, hno.resolve_left (by simp)⟩
    clear hno
    rcases hcs with rfl | ⟨rfl, hneg⟩
    all_goals
      go_enter Try.func12, Try.ntmps12
      go_wp2_with fail
      refine (pwalk_any Ae ne ce l none 0 0 [] q by_ size w HDE.out (by omega) rfl (by omega) (fun k hk => by omega) hle (Sl.nil0 _ _ _) _ HO.out).mono ?_
      rintro e w1 ⟨v, rfl, hv, hb⟩
      clear hv
      simp only [reduceIte, Option.isSome, Bool.false_eq_true]
      go_wp2_with fail
      go_ret
      exact ⟨none, 0, 0, [], rfl, rfl, by omega, ⟨List.Pairwise.nil, fun _ => rfl, fun h1 h2 => by rcases HNO.out with h | h; rw [h1] at h; cases h; omega⟩, Sl.nil0 _ _ _, hb⟩
  · obtain rfl : ab = true := by cases ab with | false => exact absurd (.inl rfl) hno | true => rfl
    have h0 : 0 ≤ hops := by omega
    obtain ⟨H, hH⟩ : ∃ H : Nat, hops = (H : Int) := ⟨hops.toNat, by omega⟩
    subst hH
    obtain ⟨hq, ⟨hb0, hb1⟩, hsz, hre⟩ := askE_spec.1 HAB.out
    have HRE := Lib.hid hre
    have HOK : Hid (∀ k, k < ne → (gEd l k).ok = true) := fun k hk => rightE_ok hre (gEd_mem (by have := HDE.out; omega))
    clear hno hre hsz
    go_enter Try.func12, Try.ntmps12
    go_wp2_with fail
    refine (pwalk_any Ae ne ce l none 0 0 [] q by_ size w HDE.out (by omega) rfl (by omega) (fun k hk => by omega) hle (Sl.nil0 _ _ _) (some []) HO.out).mono ?_
    rintro e w1 ⟨v, rfl, hv, hb⟩
    have hB := hb
    replace hle := hle.up hb
    replace hls := hls.up hb
    clear hv hb
    go_wp2_with fail
    refine (dnew_any Ae ne ce l q by_ size As ns cs sh w1 HDE.out hne HOK.out hq HDS.out hns HWF.out hle hls).mono ?_
    rintro e w2 ⟨tb, rfl, htb, ht⟩
    have HT0 := Lib.hid ht
    have HB1 := Lib.hid hB
    clear hle hls ht hB
    go_wp2_with fail
    go_loopw [37] (fun iv wr => ∃ k : Nat, iv = .int .i64 k ∧ k ≤ H ∧ k ≤ ne ∧ TabH w1 wr tb Ae ne ce l q by_ size sh k) (fun iv _ => H - (intOf iv).toNat)
    case atStart => exact ⟨0, rfl, by omega, by omega, HT0.out⟩
    case round =>
      clear HT0
      obtain ⟨k, rfl, hk, hkn, ht⟩ := hrel
      by_cases hkH : k < H
      · obtain ⟨b, hbq⟩ := bool_iff (lateL l size (opn sh q) q by_ (k + 1) = lateL l size (opn sh q) q by_ k)
        have HBQ := Lib.hid hbq
        clear hbq
        go_wp2_with fail
        refine (dmore_any ht (by omega) HDE.out hne HRE.out hq b HBQ.out).mono ?_
        rintro e w3 ⟨rfl, ht3⟩
        clear ht
        cases b with
        | false =>
          have hst := HBQ.out.1 rfl
          have hall : lateL l size (opn sh q) q by_ (k + 1) = lateL l size (opn sh q) q by_ H := by
            rw [lateL_stop hst (k := k + 1) (by omega), lateL_stop hst (k := H) (by omega)]
          have HALL := Lib.hid hall
          clear hst hall
          go_wp2_with fail
          refine (dlast_any ht3 (by omega) HRE.out hq).mono ?_
          rintro e w4 ⟨bm, km, rfl, hM4, hkm, hb4⟩
          have HB3 := Lib.hid (ht3.up.trans (hb4.mono ht3.up.size))
          clear hb4 ht3
          go_wp2_with fail
          refine (lsort_any bm km _ w4 hM4 (fun y hy => by obtain ⟨t, ht⟩ := Option.isSome_iff_exists.1 hy; exact lateL_node HRE.out hq _ y t ht)).mono ?_
          rintro e w5 ⟨v5, r, rfl, hsr, hat, hrn, hown, hb5⟩
          obtain ⟨A5, c5, rfl⟩ := slice_of_own hown
          have HOW := Lib.hid (Sl.of_own hown)
          have HSR := Lib.hid hsr
          have HAT := Lib.hid hat
          have hB5 := HB3.out.trans (hb5.mono HB3.out.size)
          clear hown hsr hat hM4 hb5
          go_wp2_with fail
          go_ret
          exact ⟨A5, r.length, c5, r, rfl, rfl, hrn, ⟨HSR.out, fun h => h.elim (fun h => by rw [HAB.out] at h; cases h) (fun h => by omega), fun _ _ => by rw [HAT.out, Int.toNat_natCast]; try exact HALL.out⟩, HOW.out, HB1.out.trans (hB5.mono HB1.out.size)⟩
        | true =>
          have hlt : k < ne := by
            rcases Nat.lt_or_ge k ne with e | e
            · exact e
            · have := HBQ.out.2 (lateL_same hb1 hb0 (by rw [HDE.out]; omega) (by rw [HDE.out]; exact e))
              cases this
          go_wp2_with fail
          go_roundw
          case rel => exact ⟨k + 1, by go_num, by omega, by omega, ht3⟩
          case measure => simp [intOf]; omega
      · obtain rfl : k = H := by omega
        have ht3 := ht
        have HALL : Hid (lateL l size (opn sh q) q by_ k = lateL l size (opn sh q) q by_ k) := rfl
        go_wp2_with fail
        refine (dlast_any ht3 (by omega) HRE.out hq).mono ?_
        rintro e w4 ⟨bm, km, rfl, hM4, hkm, hb4⟩
        have HB3 := Lib.hid (ht3.up.trans (hb4.mono ht3.up.size))
        clear hb4 ht3
        go_wp2_with fail
        refine (lsort_any bm km _ w4 hM4 (fun y hy => by obtain ⟨t, ht⟩ := Option.isSome_iff_exists.1 hy; exact lateL_node HRE.out hq _ y t ht)).mono ?_
        rintro e w5 ⟨v5, r, rfl, hsr, hat, hrn, hown, hb5⟩
        obtain ⟨A5, c5, rfl⟩ := slice_of_own hown
        have HOW := Lib.hid (Sl.of_own hown)
        have HSR := Lib.hid hsr
        have HAT := Lib.hid hat
        have hB5 := HB3.out.trans (hb5.mono HB3.out.size)
        clear hown hsr hat hM4 hb5
        go_wp2_with fail
        go_ret
        exact ⟨A5, r.length, c5, r, rfl, rfl, hrn, ⟨HSR.out, fun h => h.elim (fun h => by rw [HAB.out] at h; cases h) (fun h => by omega), fun _ _ => by rw [HAT.out, Int.toNat_natCast]; try exact HALL.out⟩, HOW.out, HB1.out.trans (hB5.mono HB1.out.size)⟩
set_option maxHeartbeats 8000000 in
set_option maxRecDepth 100000 in
theorem lfew_any (Ae : Option Addr) (ne ce : Nat) (l : List Ed) (x q now by_ size : Int) (As : Option Addr) (ns cs : Nat) (sh : List Int) (w : World) (hde : l.length = ne) (hne : ne ≤ 1000) (hds : sh.length = ns) (hns : ns ≤ 100000) (hwf : ∀ k, k < ns → (Lit.int .i64 (sh.getD k 0)).wf = true) (hle : Sl w w.heap.size 8 Ae ne ce (flatEd l)) (hls : Sl w w.heap.size 1 As ns cs (sh.map (Value.int .i64)))
    (o : Option Nat) (ho : (askE l x now size && nodeB q && inB by_ 0 1099511627776) = true → IsFew l size (opn sh q) q by_ x now o) (hno : (askE l x now size && nodeB q && inB by_ 0 1099511627776) = false → o = none) (ov : Int) (ob : Bool) (hov : ((o.getD 0 : Nat) : Int) = ov) (hob : o.isSome = ob) :
    Calls Try.prog 9 #[.slice Ae ne ce, .int .i64 x, .int .i64 q, .int .i64 now, .int .i64 by_, .int .i64 size, .slice As ns cs] w fun e w' => e = .returned (.tuple #[.int .i64 ov, .bool ob]) ∧ Below w.heap.size w w' := by
  have HDE := Lib.hid hde
  have HDS := Lib.hid hds
  have HWF := Lib.hid hwf
  obtain ⟨b1, e1⟩ : ∃ b, askE l x now size = b := ⟨_, rfl⟩
  obtain ⟨b2, e2⟩ : ∃ b, nodeB q = b := ⟨_, rfl⟩
  obtain ⟨b3, e3⟩ : ∃ b, inB by_ 0 1099511627776 = b := ⟨_, rfl⟩
  have HAB := Lib.hid e1
  have H2 := Lib.hid e2
  have H3 := Lib.hid e3
  have HO : Hid (walkE l [] x now size = if b1 = true then some [] else none) := by
    show walkE l [] x now size = _
    unfold walkE
    rw [e1]; rfl
  rw [e1, e2, e3] at ho hno
  have HFO := Lib.hid ho
  have HNO := Lib.hid hno
  have HOV := Lib.hid hov
  have HOB := Lib.hid hob
  clear hde hds hwf e1 e2 e3 ho hno hov hob
  by_cases hall : b1 = true ∧ b2 = true ∧ b3 = true
  · obtain ⟨rfl, rfl, rfl⟩ := hall
    obtain ⟨hx, hnow, hsz, hre⟩ := askE_spec.1 HAB.out
    have hq : 1 ≤ q ∧ q ≤ 255 := by have := H2.out; unfold nodeB inB at this; exact of_decide_eq_true this
    have hby : 0 ≤ by_ ∧ by_ ≤ 1099511627776 := by have := H3.out; unfold inB at this; exact of_decide_eq_true this
    have HRE := Lib.hid hre
    have HOK : Hid (∀ k, k < ne → (gEd l k).ok = true) := fun k hk => rightE_ok hre (gEd_mem (by have := HDE.out; omega))
    have hxw : (Lit.int .i64 x).wf = true := wfI (by omega)
    clear hre
    go_enter Try.func9, Try.ntmps9
    go_wp2_with fail
    refine (pwalk_any Ae ne ce l none 0 0 [] x now size w HDE.out (by omega) rfl (by omega) (fun k hk => by omega) hle (Sl.nil0 _ _ _) (some []) HO.out).mono ?_
    rintro e w1 ⟨v, rfl, hv, hb⟩
    have hB := hb
    replace hle := hle.up hb
    replace hls := hls.up hb
    clear hv hb
    go_wp2_with (first | (go_at_call 19; refine (node_is _ H2.out _).mono ?_; rintro e w' ⟨rfl, rfl⟩) | (go_at_call 20; refine (in_is _ H3.out _).mono ?_; rintro e w' ⟨rfl, rfl⟩))
    refine (dnew_any Ae ne ce l q by_ size As ns cs sh w1 HDE.out hne HOK.out hq HDS.out hns HWF.out hle hls).mono ?_
    rintro e w2 ⟨tb, rfl, htb, ht⟩
    have HT0 := Lib.hid ht
    have HB1 := Lib.hid hB
    clear hle hls ht hB
    go_wp2_with fail
    refine (dfew_any HT0.out HDE.out hne HRE.out hq hby.1 hby.2 x now hxw o (HFO.out rfl) ov ob HOV.out HOB.out).mono ?_
    rintro e w3 ⟨rfl, h', hh', hk', ht3⟩
    have HB3 := Lib.hid ht3.up
    clear ht3
    go_wp2_with fail
    exact bodyPost_ret (v := .tuple #[.int .i64 ov, .bool ob]) (by simp [results, Try.results9, go_sem]) rfl ⟨rfl, HB1.out.trans (HB3.out.mono HB1.out.size)⟩
  · have he : o = none := HNO.out (by cases b1 <;> cases b2 <;> cases b3 <;> simp at hall ⊢)
    have h1 : ov = 0 := by rw [← HOV.out, he]; rfl
    have h2 : ob = false := by rw [← HOB.out, he]; rfl
    subst h1 h2
    have hcs : b1 = false ∨ (b1 = true ∧ b2 = false) ∨ (b1 = true ∧ b2 = true ∧ b3 = false) := by cases b1 <;> cases b2 <;> cases b3 <;> simp at hall ⊢
    clear he hall
    rcases hcs with rfl | ⟨rfl, rfl⟩ | ⟨rfl, rfl, rfl⟩
    all_goals
      go_enter Try.func9, Try.ntmps9
      go_wp2_with fail
      refine (pwalk_any Ae ne ce l none 0 0 [] x now size w HDE.out (by omega) rfl (by omega) (fun k hk => by omega) hle (Sl.nil0 _ _ _) _ HO.out).mono ?_
      rintro e w1 ⟨v, rfl, hv, hb⟩
      clear hv
      simp only [reduceIte, Option.isSome, Bool.false_eq_true]
      go_wp2_with (first | (go_at_call 19; refine (node_is _ H2.out _).mono ?_; rintro e w' ⟨rfl, rfl⟩) | (go_at_call 20; refine (in_is _ H3.out _).mono ?_; rintro e w' ⟨rfl, rfl⟩))
      exact bodyPost_ret (v := .tuple #[.int .i64 0, .bool false]) (by simp [results, Try.results9, go_sem]) rfl ⟨rfl, hb⟩
end Go.Proofs.Ytjkcjbcbnnpmfaa
