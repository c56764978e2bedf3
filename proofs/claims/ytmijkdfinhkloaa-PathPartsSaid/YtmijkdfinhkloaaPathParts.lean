/- A walk is that of its first contacts, and then that of the others from where it is then: PathParts returns true. No condition. -/
import Derived.Test.YtmijkdfinhkloaaRows
import Derived.Test.YtmijkdfinhkloaaSmall12
import Derived.Test.YtmijkdfinhkloaaRef12
import Derived.Test.YtmijkdfinhkloaaOpenS
import Derived.Deep.RegionHeld3
namespace Go.Proofs.Ytmijkdfinhkloaa
open Go.ChangeShapes Go.WideShapes Go.ChangeAt Go.RowKit Go.Sort
set_option linter.unusedSimpArgs false
set_option linter.unusedVariables false
theorem wpList_append_lst_on {P : Program} (w : World) {ops : Array Oper} {rest : List Oper} {o : Oper} {a : Act} {Q : Exit → Act → World → Prop} (hw : Region.wanted o (yielded ops a.tmps) = true) (s x : Operand) (t : TypeId)
    (ho : o.op = .call { callee := .builtin .append, args := #[s, x], argTypes := #[t, t] })
    (base : Nat) (e : TypeId) (i : TypeInfo) (z : Value) (size bytes : Nat) (ht : P.underlying t = some (.slice e)) (hi : P.info? e = some i) (hz : i.zero = some z)
    (hsize : i.size = size) (hby : i.bytes = bytes) (hzs : z.cells.size = size) (hsz : 0 < size)
    (v : Value) (n : Nat) (xs : List Value) (hs : a.eval s = v) (hown : w.ownsRow base e size v n xs)
    (B : Nat) (A : Option Addr) (m c : Nat) (news : List Value) (hx : a.eval x = .slice A m c) (hr : Lst w B size A m news) (h1 : ∀ u ∈ news, u.oneCell' = true)
    (h63 : n + m ≤ maxLen) (hbytes : (n + m) * bytes ≤ 140737488355328) (hbase : base ≤ w.heap.size)
    (h : ∀ v' w', w'.ownsRow base e size v' (n + m) (xs ++ news) → w.grownBy w' v.ownBlock → (v'.ownBlock = v.ownBlock ∨ v'.ownBlock = some w.heap.size) → wpList P ops Q rest (a.put o.dst v') w') : wpList P ops Q (o :: rest) a w := by
  unfold wpList
  rw [if_pos hw]
  exact .inl (wp_append_lst w s x t ho base e i z size bytes ht hi hz hsize hby hzs hsz v n xs hs hown B A m c news hx hr h1 h63 hbytes hbase h)
theorem own_far {w w' : World} {base : Nat} {e : TypeId} {size n : Nat} {v : Value} {xs : List Value} {row : Option Nat} {b : Nat} (h : w.ownsRow base e size v n xs) (hv : ∀ q, v.ownBlock = some q → q < b) (hg : w.grownBy w' row) (hr : ∀ q, row = some q → b ≤ q) : w'.ownsRow base e size v n xs :=
  h.kept hg (by
    cases hq : v.ownBlock with
    | none => exact .inl rfl
    | some q => exact .inr (fun e => by have := hr q e.symm; have := hv q hq; omega))
theorem wf_ints12 {ns : List Int} (hw : ∀ m ∈ ns, (Lit.int .i64 m).wf = true) : ∀ q, q < ns.length → (Lit.int .i64 (ns.getD q 0)).wf = true := fun q hq => by
  rw [List.getD_eq_getElem?_getD, List.getElem?_eq_getElem hq]
  exact hw _ (List.getElem_mem hq)
theorem arr_bound {size : Int} : ∀ {es : List Ed} {t : Int} {hs : List Hp}, passE size es t = some hs → 0 ≤ t → t ≤ 1099511627776 → 0 ≤ arrE t hs ∧ arrE t hs ≤ 1099511627776
  | [], t, hs, h, h0, h1 => by rw [passE_nil] at h; cases h; exact ⟨h0, h1⟩
  | e :: r, t, hs, h, h0, h1 => by
    obtain ⟨a, b, hs', h2, h3, rfl⟩ := passE_cons h
    obtain ⟨p1, p2, p3, p4, p5, p6, p7, p8, p9, p10, p11, p12, p13, p14, p15, p16, p17, p18, _⟩ := pass_facts h2
    have := Ed.ok_spec.1 p1
    rw [arrE_cons]
    exact arr_bound (t := b) h3 (show 0 ≤ b by omega) (show b ≤ 1099511627776 by omega)
theorem nodes_ok {q : Int} {d es : List Ed} (hq : 1 ≤ q ∧ q ≤ 255) (hd : ∀ e ∈ es, e.ok = true) {k : Nat} (hk : k < es.length + 1) : 1 ≤ (nodesE q es).getD k 0 ∧ (nodesE q es).getD k 0 ≤ 255 := by
  have hm : (nodesE q es).getD k 0 ∈ nodesE q es := by
    rw [List.getD_eq_getElem?_getD, List.getElem?_eq_getElem (by rw [nodesE_len]; exact hk)]
    exact List.getElem_mem _
  generalize (nodesE q es).getD k 0 = z at *
  unfold nodesE at hm
  rcases List.mem_cons.1 hm with rfl | hm
  · exact hq
  · obtain ⟨e, he, rfl⟩ := List.mem_map.1 hm
    have := Ed.ok_spec.1 (hd e he)
    omega
/-- The whole walk, by its first part. -/
theorem walk_parts {d : List Ed} {ids : List Int} {q now size : Int} (k : Nat) (hk : k ≤ ids.length) {hs : List Hp} (h : walkE d (ids.take k) q now size = some hs) :
    ∃ ns, endsE d (ids.take k) q = some ns ∧ ns.length = k + 1 ∧ hs.length = k ∧ walkE d ids q now size = (walkE d (ids.drop k) (ns.getD k 0) (arrE now hs) size).map (hs ++ ·) := by
  obtain ⟨es, ha, hf, hp⟩ := walkE_some h
  have hl := followE_len hf
  rw [List.length_take, Nat.min_eq_left hk] at hl
  have hl2 := passE_len hp
  have hs' := askE_spec.1 ha
  have hb := arr_bound hp hs'.2.1.1 hs'.2.1.2
  have hno := nodes_ok (d := d) hs'.1 (fun e he => rightE_ok hs'.2.2.2 (followE_mem hf e he)) (show k < es.length + 1 by omega)
  have ha2 : askE d ((nodesE q es).getD k 0) (arrE now hs) size = true := askE_spec.2 ⟨hno, hb, hs'.2.2.1, hs'.2.2.2⟩
  refine ⟨nodesE q es, endsE_of (askE_ends ha) hf, by rw [nodesE_len, hl], by omega, ?_⟩
  have happ := followE_app (l := d) (ids.take k) (ids.drop k) q
  rw [List.take_append_drop, hf, List.length_take, Nat.min_eq_left hk] at happ
  unfold walkE
  rw [if_pos ha, if_pos ha2, happ]
  simp only [Option.bind_some]
  cases hf2 : followE d (ids.drop k) ((nodesE q es).getD k 0) with
  | none => rfl
  | some es2 =>
    simp only [Option.map_some, Option.bind_some]
    rw [passE_app, hp]; rfl
theorem walk_none {d : List Ed} {ids : List Int} {q now size : Int} (k : Nat) (h : walkE d (ids.take k) q now size = none) : walkE d ids q now size = none := by
  unfold walkE at h ⊢
  split at h
  · rename_i ha
    rw [if_pos ha]
    have happ := followE_app (l := d) (ids.take k) (ids.drop k) q
    rw [List.take_append_drop] at happ
    rw [happ]
    cases hf : followE d (ids.take k) q with
    | none => rfl
    | some es =>
      rw [hf] at h
      simp only [Option.bind_some] at h ⊢
      cases followE d (ids.drop k) ((nodesE q es).getD (ids.take k).length 0) with
      | none => rfl
      | some es2 => simp only [Option.map_some, Option.bind_some]; rw [passE_app, h]; rfl
  · rename_i ha
    rw [if_neg ha]
theorem wf_take {ids : List Int} {m k : Nat} (hk : k ≤ m) (hi : ids.length = m) (h : ∀ q, q < m → (Lit.int .i64 (ids.getD q 0)).wf = true) : (∀ q, q < k → (Lit.int .i64 ((ids.take k).getD q 0)).wf = true) ∧ ∀ q, q < m - k → (Lit.int .i64 ((ids.drop k).getD q 0)).wf = true := by
  refine ⟨fun j hj => ?_, fun j hj => ?_⟩
  · have h := h j (by omega)
    rw [List.getD_eq_getElem?_getD] at h ⊢
    rw [List.getElem?_take_of_lt hj]
    exact h
  · have h := h (k + j) (by omega)
    rw [List.getD_eq_getElem?_getD] at h ⊢
    rw [List.getElem?_drop]
    exact h
set_option maxHeartbeats 8000000 in
set_option maxRecDepth 100000 in
theorem pathParts_w (A : Option Addr) (n c : Nat) (d : List Ed) (A' : Option Addr) (m c' : Nat) (ids : List Int) (k q now size : Int) (hd : d.length = n) (hi : ids.length = m) (hwf : ∀ q, q < m → (Lit.int .i64 (ids.getD q 0)).wf = true) (w : World) (hl : Sl w w.heap.size 8 A n c (flatEd d)) (hl' : Sl w w.heap.size 1 A' m c' (ids.map (Value.int .i64))) :
    Calls Try.prog 6 #[.slice A n c, .slice A' m c', .int .i64 k, .int .i64 q, .int .i64 now, .int .i64 size] w fun e w' => e = .returned (.bool true) ∧ Below w.heap.size w w' := by
  obtain ⟨i0, hi0, hz0, hz1, hz2⟩ := info_parts infoHp
  by_cases hn : 50 < n ∨ 50 < m ∨ k < 0 ∨ (m : Int) < k
  · have hn' : 50 < n ∨ (n ≤ 50 ∧ 50 < m) ∨ (n ≤ 50 ∧ m ≤ 50 ∧ k < 0) ∨ (n ≤ 50 ∧ m ≤ 50 ∧ ¬ (k < 0) ∧ k > (m : Int)) := by omega
    clear hn
    rcases hn' with hn | ⟨hn, hn2⟩ | ⟨hn, hn2, hn3⟩ | ⟨hn, hn2, hn3, hn4⟩
    all_goals
      go_enter Try.func6, Try.ntmps6
      go_wp2_with fail
      refine (small12 _).mono ?_
      rintro e w1 ⟨rfl, hB⟩
      go_wp2
      go_ret
      exact ⟨rfl, hB⟩
  · have hn1 : n ≤ 50 := by omega
    have hn2 : m ≤ 50 := by omega
    obtain ⟨k, rfl⟩ : ∃ j : Nat, k = j := ⟨k.toNat, by omega⟩
    have hkm : k ≤ m := by omega
    clear hn
    have hcap := hl'.cap
    have hmax := hl'.max
    unfold maxLen at hmax
    have g1 : decide ((n : Int) > 50) = false := decide_eq_false (by omega)
    have g2 : decide ((m : Int) > 50) = false := decide_eq_false (by omega)
    have g3 : decide ((k : Int) < 0) = false := decide_eq_false (by omega)
    have g4 : decide ((k : Int) > (m : Int)) = false := decide_eq_false (by omega)
    have hk0 : (0 : Int) ≤ (k : Int) := by omega
    have hkc : k ≤ c' := by omega
    have hkcI : (k : Int) ≤ (c' : Int) := by omega
    have hkI : (k : Int) ≤ (m : Int) := by omega
    obtain ⟨o1, ho1⟩ : ∃ o, walkE d (ids.take k) q now size = o := ⟨_, rfl⟩
    obtain ⟨oE, hoE⟩ : ∃ o, endsE d (ids.take k) q = o := ⟨_, rfl⟩
    obtain ⟨oA, hoA⟩ : ∃ o, walkE d ids q now size = o := ⟨_, rfl⟩
    have HD := Lib.hid hd
    have HI := Lib.hid hi
    have HWF := Lib.hid hwf
    have HO1 := Lib.hid ho1
    have HOE := Lib.hid hoE
    have HOA := Lib.hid hoA
    have HWT := Lib.hid (wf_take hkm hi hwf)
    have HIT := Lib.hid (show (ids.take k).length = k by rw [List.length_take, hi]; omega)
    have HID := Lib.hid (show (ids.drop k).length = m - k by rw [List.length_drop, hi])
    clear hd hi hwf ho1 hoE hoA
    go_enter Try.func6, Try.ntmps6
    go_wp2_with fail
    refine (small12 _).mono ?_
    rintro e w1 ⟨rfl, hB⟩
    replace hl := hl.up hB
    replace hl' := hl'.up hB
    have hs := hB.size
    have hlt := hl'.upto hkm
    rw [Nat.mul_one, ← List.map_take] at hlt
    go_wp2_with fail
    clear g1 g2 g3 g4
    refine (pwalk_any A n c d A' k c' (ids.take k) q now size w1 HD.out (by omega) HIT.out (by omega) HWT.out.1 hl hlt o1 HO1.out).mono ?_
    rintro e w2 ⟨v1, rfl, hv1, hb⟩
    replace hl := hl.up hb
    replace hl' := hl'.up hb
    replace hlt := hlt.up hb
    replace hB := hB.trans (hb.mono hs)
    replace hs := hB.size
    clear hb
    obtain ⟨A1, c1, rfl⟩ := slice_of_own hv1
    go_wp2_with fail
    refine (pEnds_any A n c d A' k c' (ids.take k) q w2 HD.out (by omega) HIT.out (by omega) HWT.out.1 hl hlt oE HOE.out).mono ?_
    rintro e w3 ⟨v2, rfl, hv2, hb⟩
    replace hl := hl.up hb
    replace hl' := hl'.up hb
    replace hv1 := own_below hv1 hb
    replace hB := hB.trans (hb.mono hs)
    replace hs := hB.size
    clear hb hlt
    obtain ⟨A2, c2, rfl⟩ := slice_of_own hv2
    go_wp2_with fail
    refine (pwalk_any A n c d A' m c' ids q now size w3 HD.out (by omega) HI.out (by omega) HWF.out hl hl' oA HOA.out).mono ?_
    rintro e w4 ⟨v3, rfl, hv3, hb⟩
    replace hl := hl.up hb
    replace hl' := hl'.up hb
    replace hv1 := own_below hv1 hb
    replace hv2 := own_below hv2 hb
    replace hB := hB.trans (hb.mono hs)
    replace hs := hB.size
    clear hb
    obtain ⟨A3, c3, rfl⟩ := slice_of_own hv3
    cases o1 with
    | none =>
      have hoA2 : oA = none := by rw [← HOA.out]; exact walk_none k HO1.out
      subst hoA2
      change w4.ownsRow _ _ 3 (.slice A3 0 c3) 0 [] at hv3
      clear hv1 hv2 hv3
      go_wp2_with fail
      go_ret
      exact ⟨rfl, hB⟩
    | some hs1 =>
      obtain ⟨ns, e1, e2, e3, e4⟩ := walk_parts k (by rw [HI.out]; exact hkm) HO1.out
      have hoE2 : oE = some ns := by rw [← HOE.out]; exact e1
      subst hoE2
      rw [HOA.out] at e4
      change w4.ownsRow _ _ 3 (.slice A1 hs1.length c1) hs1.length (flatHp hs1) at hv1
      change w4.ownsRow _ _ 1 (.slice A2 ns.length c2) ns.length (ns.map (Value.int .i64)) at hv2
      have H2 := Lib.hid e2
      have H3 := Lib.hid e3
      have H4 := Lib.hid e4
      have hv1' : w4.ownsRow w1.heap.size 47 3 (.slice A1 k c1) k (flatHp hs1) := by rw [e3] at hv1; exact hv1
      have hv2' : w4.ownsRow w2.heap.size 3 1 (.slice A2 (k + 1) c2) (k + 1) (ns.map (Value.int .i64)) := by rw [e2] at hv2; exact hv2
      have q1 : (Option.getD (some hs1) []).length = k := e3
      have q2 : (Option.getD (some ns) []).length = k + 1 := e2
      clear e1 e2 e3 e4 hv1 hv2 HOE HO1 HOA
      rw [q1, q2]
      clear q1 q2
      have z1 : IntKind.i64.wrap ((k : Int) + 1) = (k : Int) + 1 := IntWalk.i64_in _ (by omega)
      have z2 : (((k + 1 : Nat) : Int) != ((k : Int) + 1)) = false := by simp
      have z3 : ((k : Int) != (k : Int)) = false := by simp
      obtain ⟨tm, htm⟩ : ∃ x, arrE now hs1 = x := ⟨_, rfl⟩
      have HTM := Lib.hid htm
      have HV1 := Lib.hid hv1'
      have HV2 := Lib.hid hv2'
      clear htm
      go_upto_if 101 with fail
      clear z1 z2 z3
      go_cut [20] (fun s20 wx => s20 = .int .i64 tm ∧ w4 = wx)
      case first =>
        by_cases hk : k = 0
        · subst hk
          have hnil : hs1 = [] := List.eq_nil_of_length_eq_zero H3.out
          have htm : tm = now := by rw [← HTM.out, hnil]; rfl
          subst htm
          clear hnil
          go_wp2_with fail
          go_meet
          exact ⟨rfl, rfl⟩
        · obtain ⟨p, rfl⟩ : ∃ p, k = p + 1 := ⟨k - 1, by omega⟩
          obtain ⟨ad, rfl, hab, c0, c1', c2'⟩ := (Sl.of_own HV1.out).lst.atHp H3.out (show p < p + 1 by omega)
          have hta : (gHp hs1 p).ar = tm := by
            rw [← HTM.out, arrE_at (fun e => by have := H3.out; rw [e] at this; simp at this), H3.out, Nat.add_sub_cancel]
          rw [hta] at c2'
          have t0 : IntKind.i64.wrap (((p + 1 : Nat) : Int) - 1) = (p : Int) := by rw [IntWalk.i64_in _ (by omega)]; omega
          have t1 : ((p + 1 : Nat) : Int) - 1 = (p : Int) := by omega
          have g3 : decide (((p + 1 : Nat) : Int) > 0) = true := decide_eq_true (by omega)
          clear hta hk
          go_wp2_with fail
          go_meet
          exact ⟨rfl, rfl⟩
      case rest =>
        revert wc
        intro w4' hcut
        obtain ⟨rfl, rfl⟩ := hcut
        obtain ⟨nk, hnk⟩ : ∃ x, ns.getD k 0 = x := ⟨_, rfl⟩
        obtain ⟨ad, rfl, hab, n0⟩ := (Sl.of_own HV2.out).lst.atI H2.out (show k < k + 1 by omega)
        rw [hnk] at n0
        obtain ⟨oB, hoB⟩ : ∃ o, walkE d (ids.drop k) nk tm size = o := ⟨_, rfl⟩
        have HOB := Lib.hid hoB
        have h4 := H4.out
        rw [hnk, HTM.out, hoB] at h4
        have HAL := Lib.hid h4
        obtain ⟨Ad, hAd⟩ : ∃ x, (if c' = k then A' else A'.map (·.add k)) = x := ⟨_, rfl⟩
        have hld := hl'.from_ hkm
        rw [Nat.mul_one, ← List.map_drop, hAd] at hld
        have hrun : ∀ w0, (Instr.slice 23 (.slice A' m c') (some (.int .i64 (k : Int))) none none).run Try.prog w0 = .ok (.slice Ad (m - k) (c' - k)) w0 := fun w0 => by
          have ht : Try.prog.underlying 23 = some (.slice (Try.prog.elem 23)) := by kernel_rfl
          have hsz : (sizeOf (Try.prog.elem 23)).run Try.prog w0 = .ok 1 w0 := by kernel_rfl
          rw [run_slice_l w0 23 A' m c' ht .i64 (k : Int) (by omega) (by omega), hsz]
          simp only [Result.andThen, sliced, Int.toNat_natCast, Nat.mul_one, hAd]
        have HLD : Hid (∀ w', Below w4.heap.size w4 w' → Sl w' w'.heap.size 1 Ad (m - k) (c' - k) ((ids.drop k).map (Value.int .i64))) := fun w' h => hld.up h
        have HLL : Hid (∀ w', Below w4.heap.size w4 w' → Sl w' w'.heap.size 8 A n c (flatEd d)) := fun w' h => hl.up h
        have HN0 : Hid (∀ w', Below w4.heap.size w4 w' → w'.cell? (ad.add k) = some (.int .i64 nk)) := fun w' h => by
          obtain ⟨ae, he, _, h0⟩ := (Sl.of_own (own_below HV2.out h)).lst.atI H2.out (show k < k + 1 by omega)
          injection he with he
          subst he
          rw [hnk] at h0
          exact h0
        have i1 : (k : Int) < (k : Int) + 1 := by omega
        have i2 : (k : Int) < ((k + 1 : Nat) : Int) := by omega
        clear hnk hoB h4 hAd hld
        go_wp2_with fail
        go_region_held3 (fun w' => w'.cell? (ad.add k) = some (.int .i64 nk))
          (first | go_keep | exact HN0.out _ hB5)
          (first | (go_at_call 10; (with_reducible refine Calls.mono (pwalk_any A n c d Ad (m - k) (c' - k) (ids.drop k) nk tm size _ HD.out (by omega) HID.out (by omega) HWT.out.2 (HLL.out _ (by (repeat (first | exact Below.refl _ _ | refine Below.alloc ?_ (by first | omega | (simp; done) | (simp; omega)) _ | refine Below.setCell ?_ (by first | omega | (simp; done) | (simp; omega)) _ | refine Below.drew ?_)))) (HLD.out _ (by (repeat (first | exact Below.refl _ _ | refine Below.alloc ?_ (by first | omega | (simp; done) | (simp; omega)) _ | refine Below.setCell ?_ (by first | omega | (simp; done) | (simp; omega)) _ | refine Below.drew ?_)))) oB HOB.out) ?_); rintro e w5 ⟨v5, rfl, hv5, hb5⟩; have hB5 : Below w4.heap.size w4 w5 := Below.trans (by (repeat (first | exact Below.refl _ _ | refine Below.alloc ?_ (by first | omega | (simp; done) | (simp; omega)) _ | refine Below.setCell ?_ (by first | omega | (simp; done) | (simp; omega)) _ | refine Below.drew ?_))) (hb5.mono (by simp))))
        clear i1 i2 n0 hrun
        have HV3 := Lib.hid (own_below hv3 hB5)
        have HV15 := Lib.hid (own_below HV1.out hB5)
        obtain ⟨A5, c5, rfl⟩ := slice_of_own hv5
        replace hB := hB.trans (hB5.mono hs)
        replace hs := hB.size
        have hwb5 := hb5
        clear hv3 hB5 hb5 hwb5 hl hl' HV1 HV2
        cases oB with
        | none =>
          have hoA2 : oA = none := HAL.out
          subst hoA2
          clear hv5
          go_wp2_with fail
          go_ret
          exact ⟨rfl, hB⟩
        | some hs2 =>
          have hoA2 : oA = some (hs1 ++ hs2) := HAL.out
          subst hoA2
          have hl2 : hs2.length = m - k := by
            obtain ⟨es, _, hf, hp⟩ := walkE_some HOB.out
            rw [passE_len hp, followE_len hf]; exact HID.out
          change w5.ownsRow _ _ 3 (.slice A5 hs2.length c5) hs2.length (flatHp hs2) at hv5
          have hv3 := HV3.out
          change w5.ownsRow _ _ 3 (.slice A3 (hs1 ++ hs2).length c3) (hs1 ++ hs2).length (flatHp (hs1 ++ hs2)) at hv3
          have hl12 : (hs1 ++ hs2).length = m := by rw [List.length_append, H3.out, hl2]; omega
          have HL2 := Lib.hid hl2
          have HL12 := Lib.hid hl12
          have q1 : (Option.getD (some hs2) []).length = m - k := hl2
          have q2 : (Option.getD (some (hs1 ++ hs2)) []).length = m := hl12
          rw [hl2] at hv5
          rw [hl12] at hv3
          rw [q1, q2]
          have h1 := HV15.out
          obtain ⟨b4, hb4⟩ : ∃ b4, w5.heap.size = b4 := ⟨_, rfl⟩
          have p2 : ∀ q, (Value.slice A5 (m - k) c5).ownBlock = some q → q < b4 := fun q hq => by rw [← hb4]; exact (hv5.lt q hq).2
          have p3 : ∀ q, (Value.slice A3 m c3).ownBlock = some q → q < b4 := fun q hq => by rw [← hb4]; exact (hv3.lt q hq).2
          have hE : (w5.alloc (.cells #[] 47)).ownsRow b4 47 3 (.slice (some ⟨b4, 0, none⟩) 0 0) 0 [] := by rw [← hb4]; exact own_lit w5 w5.heap.size 47 3 0 #[] (Nat.le_refl _) rfl (by simp [maxLen])
          have f1 := h1.alloc (.cells #[] 47)
          have f2 := hv5.alloc (.cells #[] 47)
          have f3 := hv3.alloc (.cells #[] 47)
          have hB4 := hB.alloc hs (.cells #[] 47)
          have hz4 : (w5.alloc (.cells #[] 47)).heap.size = b4 + 1 := by rw [World.size_alloc, hb4]
          have hwb : w.heap.size ≤ b4 := by rw [← hb4]; exact hs
          clear hv5 hv3 h1 hB hs hl2 hl12 q1 q2 HV3 HV15
          go_wp2_with (first
            | (at_builtin; refine wpList_append_lst_on _ (by rfl) (.tmp 140) (.tmp 141) 24 rfl b4 47 i0 (.agg #[.int .i64 0, .int .i64 0, .int .i64 0]) 3 24 Try.underlying24 hi0 hz0 hz1 hz2 rfl (by decide) (.slice (some ⟨b4, 0, none⟩) 0 0) 0 [] (by simp [Act.eval, hb4]) hE _ A1 k c1 (flatHp hs1) rfl (Sl.of_own f1).lst (flatHp_one hs1) (by unfold maxLen; omega) (by omega) (by omega) ?_
               intro v6 w6 hown6 hg6 hx6
               have r6 : ∀ q, (some b4 : Option Nat) = some q → b4 ≤ q := fun q hq => by injection hq with hq; omega
               replace f2 := own_far f2 p2 hg6 r6
               replace f3 := own_far f3 p3 hg6 r6
               replace hB4 := Below.grown hB4 hg6 (by omega) (fun q hq => by have := r6 q hq; omega)
               have hz6 := hg6.size
               rw [hz4] at hz6
               clear hE f1 hz4 hx6 hg6)
            | (at_builtin; refine wpList_append_lst_on _ (by rfl) (.tmp 142) (.tmp 143) 24 rfl b4 47 i0 (.agg #[.int .i64 0, .int .i64 0, .int .i64 0]) 3 24 Try.underlying24 hi0 hz0 hz1 hz2 rfl (by decide) v6 (0 + k) ([] ++ flatHp hs1) rfl hown6 _ A5 (m - k) c5 (flatHp hs2) rfl (Sl.of_own f2).lst (flatHp_one hs2) (by unfold maxLen; omega) (by omega) (by omega) ?_
               intro v7 w7 hown7 hg7 hx7
               have r7 : ∀ q, v6.ownBlock = some q → b4 ≤ q := fun q hq => (hown6.lt q hq).1
               replace f3 := own_far f3 p3 hg7 r7
               replace hB4 := Below.grown hB4 hg7 (by omega) (fun q hq => by have := r7 q hq; omega)
               have hs7 := hB4.size
               rw [Nat.zero_add, List.nil_append, ← flatHp_append, show k + (m - k) = m by omega] at hown7
               obtain ⟨A7, c7, rfl⟩ := slice_of_own hown7
               clear hown6 f2 hx7 hg7))
          refine (rhops12_any A3 A7 m c3 m c7 (hs1 ++ hs2) (hs1 ++ hs2) _ HL12.out HL12.out (by omega) (by omega) (Sl.of_own f3) (Sl.of_own hown7) true (decide_eq_true rfl)).mono ?_
          rintro e w8 ⟨rfl, hb⟩
          replace hB4 := hB4.trans (hb.mono hs7)
          clear hb f3 hown7
          go_wp2_with fail
          go_ret
          exact ⟨rfl, hB4⟩
theorem pathParts_walk (A : Option Addr) (n k : Nat) (ns : List Int) (A' : Option Addr) (n' k' : Nat) (ns' : List Int) (kk q now size : Int) (hnl : ns.length = n * 8) (_ : ∀ m ∈ ns, (Lit.int .i64 m).wf = true) (hnl' : ns'.length = n' * 1) (hw' : ∀ m ∈ ns', (Lit.int .i64 m).wf = true) (_ : (Lit.int .i64 kk).wf = true) (_ : (Lit.int .i64 q).wf = true) (_ : (Lit.int .i64 now).wf = true) (_ : (Lit.int .i64 size).wf = true) (w : World) (hl : Sl w w.heap.size 8 A n k (ns.map (Value.int .i64))) (hl' : Sl w w.heap.size 1 A' n' k' (ns'.map (Value.int .i64))) :
    Calls Try.prog 6 #[.slice A n k, .slice A' n' k', .int .i64 kk, .int .i64 q, .int .i64 now, .int .i64 size] w fun e w' => e = .returned (.bool true) ∧ Below w.heap.size w w' := by
  obtain ⟨d, hd, hlf⟩ := rowsEd_of n ns hnl
  have hi : ns'.length = n' := by omega
  rw [hlf] at hl
  exact pathParts_w A n k d A' n' k' ns' kk q now size hd hi (fun q hq => wf_ints12 hw' q (by omega)) w hl hl'
theorem pathParts_own : ownKnob Try.prog.godebug = none := by kernel_rfl
theorem pathParts_laidOut : laidOutB Try.prog = true := by kernel_rfl

set_option maxHeartbeats 1000000 in
set_option maxRecDepth 100000 in
theorem pathParts_lifted (os : Os) (started : os.Started) (H : Type) (enc : TypeId × Value → H) :
    ReturnsInHanded {} Try.checked os 6 .any (Rows.pathPartsSpec.pre6 enc Try.prog Try.f6 Rows.pathPartsRow.domain false) (Rows.pathPartsSpec.post enc Try.prog Try.f6 false true false false) := by
  refine returnsInHanded_of_change (C := Try.checked) pathParts_own started (by kernel_rfl) Try.func6
    (ChangeSpec.witness6 (enc := enc) (C := Try.checked) false ⟨#[], #[.slice none 0 0, .slice none 0 0, .int .i64 0, .int .i64 0, .int .i64 0, .int .i64 0], []⟩ 8 (by kernel_rfl) (by kernel_rfl) (by kernel_rfl) (by kernel_rfl)) ?_
  intro W base args ds gs before hval0 hW hcnd _
  have hval : ∀ (j : Nat) t v, Try.f6.params[j]? = some t → args[j]? = some v → Value.okWide Try.prog W .any base t v := hval0
  have hW' := hW
  obtain ⟨p, q, hA0, hV, rfl, hfz, hnd⟩ := hW
  have hA : DataW.TrodAll enc Try.prog W 0 (fun _ => true) true Try.f6.params.toList args.toList ds p := hA0
  rw [Try.params6] at hA hval
  obtain ⟨v0, vs0, d0, ds0, p0, q0, hargs, rfl, rfl, h0, r0⟩ := trodAll_cons hA
  obtain ⟨v1, vs1, d1, ds1, p1, q1, rfl, rfl, rfl, h1, r1⟩ := trodAll_cons r0
  obtain ⟨v2, vs2, d2, ds2, p2, q2, rfl, rfl, rfl, h2, r2⟩ := trodAll_cons r1
  obtain ⟨v3, vs3, d3, ds3, p3, q3, rfl, rfl, rfl, h3, r3⟩ := trodAll_cons r2
  obtain ⟨v4, vs4, d4, ds4, p4, q4, rfl, rfl, rfl, h4, r4⟩ := trodAll_cons r3
  obtain ⟨v5, vs5, d5, ds5, p5, q5, rfl, rfl, rfl, h5, r5⟩ := trodAll_cons r4
  obtain ⟨rfl, rfl, rfl⟩ := trodAll_nil r5
  obtain rfl : args = #[v0, v1, v2, v3, v4, v5] := by cases args; simp_all
  obtain ⟨rfl, rfl⟩ := trodVars_none hV
  obtain ⟨A0, n0, c0, ns0, rfl, hl0, nl0, w0⟩ := open_rowsS 4 (K := 8) Try.underlying22 (by kernel_rfl) (by kernel_rfl) (by omega) (hval 0 22 v0 rfl rfl) h0
  obtain ⟨A1, n1, c1, ns1, rfl, hl1, nl1, w1⟩ := open_rowsS 4 (K := 1) Try.underlying23 (by kernel_rfl) (by kernel_rfl) (by omega) (hval 1 23 v1 rfl rfl) h1
  obtain ⟨a2, rfl, rfl, rfl, w2⟩ := open_int Try.underlying3 (hval 2 3 v2 rfl rfl) h2
  obtain ⟨a3, rfl, rfl, rfl, w3⟩ := open_int Try.underlying3 (hval 3 3 v3 rfl rfl) h3
  obtain ⟨a4, rfl, rfl, rfl, w4⟩ := open_int Try.underlying3 (hval 4 3 v4 rfl rfl) h4
  obtain ⟨a5, rfl, rfl, rfl, w5⟩ := open_int Try.underlying3 (hval 5 3 v5 rfl rfl) h5
  clear hA0 hval0
  refine (pathParts_walk A0 n0 c0 ns0 A1 n1 c1 ns1 a2 a3 a4 a5 nl0 w0 nl1 w1 w2 w3 w4 w5 W hl0 hl1).mono fun e W' ⟨he, bel⟩ => ?_
  subst he
  exact ⟨_, rfl, law_post pathParts_laidOut (by kernel_rfl) rfl Try.underlying4 rfl rfl hW' bel⟩

theorem pathParts_proved : Rows.PathPartsSaid :=
  OpenClaim.holds_of_wide 6 Try.f6 rfl rfl rfl rfl rfl rfl rfl ⟨rfl, rfl, rfl, rfl, rfl⟩ rfl rfl rfl rfl rfl (by kernel_rfl) Try.func6 (by kernel_rfl)
    (of_decide_eq_true (by kernel_rfl)) (by unfold Func.isWrapper; first | (rw [if_pos (by decide +kernel)]; kernel_rfl) | (rw [if_neg (by decide +kernel)]; exact ⟨rfl, rfl⟩))
    (fun os started H enc _ => pathParts_lifted os started H enc)
#print axioms pathParts_proved
end Go.Proofs.Ytmijkdfinhkloaa
