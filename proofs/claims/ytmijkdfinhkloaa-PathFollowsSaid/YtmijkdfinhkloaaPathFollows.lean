/- Hops follow each other: each is by the edge of its ID, from where the one ahead ended, sent when that is there, or later, and passes: PathFollows returns true. No condition. -/
import Derived.Test.YtmijkdfinhkloaaRows
import Derived.Test.YtmijkdfinhkloaaSmall12
import Derived.Test.YtmijkdfinhkloaaOpenS
namespace Go.Proofs.Ytmijkdfinhkloaa
open Go.ChangeShapes Go.WideShapes Go.ChangeAt Go.RowKit Go.Sort
set_option linter.unusedSimpArgs false
set_option linter.unusedVariables false
theorem wf_ints12 {ns : List Int} (hw : ∀ m ∈ ns, (Lit.int .i64 m).wf = true) : ∀ q, q < ns.length → (Lit.int .i64 (ns.getD q 0)).wf = true := fun q hq => by
  rw [List.getD_eq_getElem?_getD, List.getElem?_eq_getElem hq]
  exact hw _ (List.getElem_mem hq)
theorem add_succ' (ad : Addr) (j : Nat) : ad.add (j + 1) = ⟨ad.block, ad.off + (j + 1), none⟩ := by
  unfold Addr.add; simp
/-- What is known of hop i. -/
structure HopAt (d : List Ed) (ids : List Int) (ns : List Int) (hs : List Hp) (now size : Int) (i : Nat) (x : Ed) (h : Hp) : Prop where
  find : findE d (ids.getD i 0) = some x
  pass : x.pass (readyE now hs i) size = some (h.se, h.ar)
  id : h.id = ids.getD i 0
  hop : gHp hs i = h
  fr : x.fr = ns.getD i 0
  tn : ns.getD (i + 1) 0 = x.tn
  send : readyE now hs i ≤ h.se
  arr : h.se ≤ h.ar
  unl : ∀ k, k ≤ i → ns.getD k 0 ≠ ns.getD (i + 1) 0
theorem route_hops {d : List Ed} {ids : List Int} {q tt now size : Int} {hs : List Hp} {ar : Int} (h : routeE d ids q tt now size = some (hs, ar)) :
    ∃ ns, endsE d ids q = some ns ∧ ns.length = ids.length + 1 ∧ hs.length = ids.length ∧ hs.map Hp.id = ids ∧ ar = readyE now hs ids.length ∧ ns.getD 0 0 = q ∧ ns.getD ids.length 0 = tt ∧ ∀ i, i < ids.length → ∃ x y, HopAt d ids ns hs now size i x y := by
  obtain ⟨es, hs', ha, hn, hf, hl, hp, he⟩ := routeE_some h
  injection he with e1 e2
  subst e1
  have hle := followE_len hf
  have hlp := passE_len hp
  have hll := leadE_spec.1 hl
  refine ⟨nodesE q es, endsE_of (askE_ends ha) hf, by rw [nodesE_len, hle], by omega, by rw [passE_ids hp, followE_ids hf], ?_, rfl, ?_, fun i hi => ?_⟩
  · rw [e2]
    unfold readyE
    by_cases h0 : ids.length = 0
    · rw [if_pos h0]
      have : hs = [] := List.eq_nil_of_length_eq_zero (by omega)
      rw [this]; rfl
    · rw [if_neg h0, arrE_at (fun e => by rw [e] at hlp; simp at hlp; omega), hlp, hle]
  · have := hll.2
    rw [nodesE_len, Nat.add_sub_cancel, hle] at this
    exact this
  · obtain ⟨a1, a2, a3⟩ := followE_at hf i (by omega)
    obtain ⟨b1, b2⟩ := passE_at hp i (by omega)
    have hfx := pass_facts b1
    have h1 := hfx.2.2.1
    have h2 : (gHp hs i).se ≤ (gHp hs i).ar := by
      obtain ⟨p1, p2, p3, p4, p5, p6, p7, p8, p9, p10, p11, p12, p13, p14, p15, p16, p17, p18, _⟩ := hfx
      omega
    exact ⟨gEd es i, gHp hs i, a3, b1, by rw [b2]; exact (findE_some a3).2, rfl, a1, a2, h1, h2, fun k hk => nodup_ne hll.1 (by omega) (by rw [nodesE_len]; omega)⟩
theorem vfind_yes (A : Option Addr) (n c : Nat) (d : List Ed) (id : Int) (w : World) (hd : d.length = n) (hn : n ≤ 1000000) (h : Sl w w.heap.size 8 A n c (flatEd d)) (x : Ed) (hx : findE d id = some x) :
    Calls Try.prog 24 #[.slice A n c, .int .i64 id] w fun e w' => e = .returned (.tuple #[.agg #[.int .i64 x.id, .int .i64 x.fr, .int .i64 x.tn, .int .i64 x.op, .int .i64 x.en, .int .i64 x.ra, .int .i64 x.ow, .int .i64 x.ro], .bool true]) ∧ Below w.heap.size w w' :=
  vfind_any A n c d id w hd hn h x true (by rw [hx]; rfl) (by rw [hx]; rfl)
set_option maxHeartbeats 16000000 in
set_option maxRecDepth 100000 in
theorem pathFollows_w (A : Option Addr) (n c : Nat) (d : List Ed) (A' : Option Addr) (m c' : Nat) (ids : List Int) (q tt now size : Int) (hd : d.length = n) (hi : ids.length = m) (hwf : ∀ q, q < m → (Lit.int .i64 (ids.getD q 0)).wf = true) (w : World) (hl : Sl w w.heap.size 8 A n c (flatEd d)) (hl' : Sl w w.heap.size 1 A' m c' (ids.map (Value.int .i64))) :
    Calls Try.prog 4 #[.slice A n c, .slice A' m c', .int .i64 q, .int .i64 tt, .int .i64 now, .int .i64 size] w fun e w' => e = .returned (.bool true) ∧ Below w.heap.size w w' := by
  by_cases hn : 50 < n ∨ 50 < m
  · have hn' : 50 < n ∨ (n ≤ 50 ∧ 50 < m) := by omega
    clear hn
    rcases hn' with hn | ⟨hn, hn2⟩
    all_goals
      go_enter Try.func4, Try.ntmps4
      go_wp2_with fail
      refine (small12 _).mono ?_
      rintro e w1 ⟨rfl, hB⟩
      go_wp2
      go_ret
      exact ⟨rfl, hB⟩
  · have hn1 : n ≤ 50 := by omega
    have hn2 : m ≤ 50 := by omega
    clear hn
    have g1 : decide ((n : Int) > 50) = false := decide_eq_false (by omega)
    have g2 : decide ((m : Int) > 50) = false := decide_eq_false (by omega)
    obtain ⟨o, ho⟩ : ∃ o, routeE d ids q tt now size = o := ⟨_, rfl⟩
    have HD := Lib.hid hd
    have HI := Lib.hid hi
    have HWF := Lib.hid hwf
    have HO := Lib.hid ho
    clear hd hi hwf ho
    go_enter Try.func4, Try.ntmps4
    go_wp2_with fail
    refine (small12 _).mono ?_
    rintro e w1 ⟨rfl, hB⟩
    replace hl := hl.up hB
    replace hl' := hl'.up hB
    have hs := hB.size
    go_wp2_with fail
    clear g1 g2
    cases o with
    | none =>
      refine (proute_no A n c d A' m c' ids q tt now size w1 HD.out (by omega) HI.out (by omega) HWF.out hl hl' HO.out).mono ?_
      rintro e w2 ⟨v, rfl, hv, hb⟩
      obtain ⟨Av, cv, rfl⟩ := slice_of_own hv
      replace hB := hB.trans (hb.mono hs)
      replace hs := hB.size
      have hb2 : Below w2.heap.size w2 (w2.alloc (.cells #[.slice Av 0 cv, .int .i64 0] 26)) := by (repeat (first | exact Below.refl _ _ | refine Below.alloc ?_ (by first | omega | (simp; done) | (simp; omega)) _ | refine Below.setCell ?_ (by first | omega | (simp; done) | (simp; omega)) _ | refine Below.drew ?_))
      have hvs : Sl w2 w2.heap.size 3 Av 0 cv (flatHp []) := Sl.of_own hv
      replace hvs := hvs.up hb2
      replace hB := hB.trans (hb2.mono hs)
      replace hs := hB.size
      clear hb hv hl hl' hb2
      go_wp2_with fail
      generalize w2.alloc (.cells #[.slice Av 0 cv, .int .i64 0] 26) = w3 at *
      refine (psame_refl Av none 0 cv 0 [] 0 w3 rfl (by omega) hvs (nil_sl _)).mono ?_
      rintro e w4 ⟨rfl, hb⟩
      go_wp2
      go_ret
      exact ⟨rfl, hB.trans (hb.mono hs)⟩
    | some p =>
      obtain ⟨hs5, ar⟩ := p
      obtain ⟨ns, r1, r2, r3, r4, r5, r6, r7, r8⟩ := route_hops HO.out
      rw [HI.out] at r2 r3 r5 r7 r8
      have HR1 := Lib.hid r1
      have HR2 := Lib.hid r2
      have HR3 := Lib.hid r3
      have HR4 := Lib.hid r4
      have HR5 := Lib.hid r5
      have HR6 := Lib.hid r6
      have HR7 := Lib.hid r7
      have HR8 := Lib.hid r8
      refine (proute_yes A n c d A' m c' ids q tt now size w1 HD.out (by omega) HI.out (by omega) HWF.out hl hl' hs5 ar HO.out).mono ?_
      rintro e w2 ⟨v, rfl, hv, hb⟩
      rw [r3] at hv
      obtain ⟨Av, cv, rfl⟩ := slice_of_own hv
      replace hl := hl.up hb
      replace hl' := hl'.up hb
      replace hB := hB.trans (hb.mono hs)
      replace hs := hB.size
      have hb2 : Below w2.heap.size w2 (w2.alloc (.cells #[.slice Av m cv, .int .i64 ar] 26)) := by (repeat (first | exact Below.refl _ _ | refine Below.alloc ?_ (by first | omega | (simp; done) | (simp; omega)) _ | refine Below.setCell ?_ (by first | omega | (simp; done) | (simp; omega)) _ | refine Below.drew ?_))
      have hX := Blok.new w2 26 #[.slice Av m cv, .int .i64 ar]
      have hvs := (Sl.of_own hv).up hb2
      replace hl := hl.up hb2
      replace hl' := hl'.up hb2
      replace hB := hB.trans (hb2.mono hs)
      replace hs := hB.size
      clear hb hv hb2 r1 r2 r3 r4 r5 r6 r7 r8
      go_wp2_with fail
      generalize w2.alloc (.cells #[.slice Av m cv, .int .i64 ar] 26) = w3 at *
      refine (pEnds_yes A n c d A' m c' ids q w3 HD.out (by omega) HI.out (by omega) HWF.out hl hl' ns HR1.out).mono ?_
      rintro e w4 ⟨vn, rfl, hvn, hb⟩
      rw [HR2.out] at hvn
      obtain ⟨An, cn, rfl⟩ := slice_of_own hvn
      replace hl := hl.up hb
      replace hl' := hl'.up hb
      replace hvs := hvs.up hb
      replace hX := hX.below hb hX.lt
      replace hB := hB.trans (hb.mono hs)
      replace hs := hB.size
      have hns := Sl.of_own hvn
      generalize w2.heap.size = bx at *
      have x0 : w4.cell? ⟨bx, 0, none⟩ = some (.slice Av m cv) := hX.cell 0
      have x1 : w4.cell? ⟨bx, 1, none⟩ = some (.int .i64 ar) := hX.cell 1
      have lt_x := hX.lt
      have z1 : IntKind.i64.wrap ((m : Int) + 1) = (m : Int) + 1 := IntWalk.i64_in _ (by omega)
      have z2 : (((m + 1 : Nat) : Int) != ((m : Int) + 1)) = false := by simp
      have z3 : ((m : Int) != (m : Int)) = false := by simp
      have HFX : Hid (∀ w', Below w4.heap.size w4 w' → Blok w' bx 26 #[.slice Av m cv, .int .i64 ar]) := fun w' h => hX.below h hX.lt
      have HFL : Hid (∀ w', Below w4.heap.size w4 w' → Sl w' w'.heap.size 8 A n c (flatEd d)) := fun w' h => hl.up h
      have HFI : Hid (∀ w', Below w4.heap.size w4 w' → Sl w' w'.heap.size 1 A' m c' (ids.map (Value.int .i64))) := fun w' h => hl'.up h
      have HFH : Hid (∀ w', Below w4.heap.size w4 w' → Sl w' w'.heap.size 3 Av m cv (flatHp hs5)) := fun w' h => hvs.up h
      have HFN : Hid (∀ w', Below w4.heap.size w4 w' → Sl w' w'.heap.size 1 An (m + 1) cn (ns.map (Value.int .i64))) := fun w' h => hns.up h
      have HB := Lib.hid hB
      clear hb hvn hl hl' hvs hX hns hB HO HR1
      go_wp2_with fail
      clear z1 z2 z3 x0 x1 lt_x hs
      go_loopw [18, 19] (fun tv iv wr => ∃ i : Nat, tv = .int .i64 (readyE now hs5 i) ∧ iv = .int .i64 i ∧ i ≤ m ∧ Below w4.heap.size w4 wr) (fun _ iv _ => m - (intOf iv).toNat)
      case atStart => exact ⟨0, rfl, rfl, by omega, Below.refl _ _⟩
      case round =>
        obtain ⟨i, rfl, rfl, hi, hb⟩ := hrel
        by_cases him : i < m
        · obtain ⟨ad, rfl, hab, i0⟩ := (HFI.out wr hb).lst.atI HI.out him
          obtain ⟨x, y, hA⟩ := HR8.out i him
          obtain ⟨id, hid⟩ : ∃ v, ids.getD i 0 = v := ⟨_, rfl⟩
          obtain ⟨t, ht⟩ : ∃ v, readyE now hs5 i = v := ⟨_, rfl⟩
          have hf := hA.find
          have hp := hA.pass
          have hidy := hA.id
          have hsend := hA.send
          have harr := hA.arr
          rw [hid] at i0 hf hidy
          rw [ht] at hp hsend ⊢
          subst hidy
          have HA := Lib.hid hA
          have HF := Lib.hid hf
          have HP := Lib.hid hp
          clear hA hid ht hf hp
          go_wp2_with fail
          refine (vfind_yes A n c d y.id wr HD.out (by omega) (HFL.out wr hb) x HF.out).mono ?_
          rintro e w5 ⟨rfl, hb5⟩
          replace hb := hb.trans (hb5.mono hb.size)
          have hsz := hb.size
          have hb2 : Below w5.heap.size w5 (w5.alloc (.cells #[.int .i64 x.id, .int .i64 x.fr, .int .i64 x.tn, .int .i64 x.op, .int .i64 x.en, .int .i64 x.ra, .int .i64 x.ow, .int .i64 x.ro] 41)) := by (repeat (first | exact Below.refl _ _ | refine Below.alloc ?_ (by first | omega | (simp; done) | (simp; omega)) _ | refine Below.setCell ?_ (by first | omega | (simp; done) | (simp; omega)) _ | refine Below.drew ?_))
          have hE := Blok.new w5 41 #[.int .i64 x.id, .int .i64 x.fr, .int .i64 x.tn, .int .i64 x.op, .int .i64 x.en, .int .i64 x.ra, .int .i64 x.ow, .int .i64 x.ro]
          replace hb := hb.trans (hb2.mono hsz)
          replace hsz := hb.size
          clear i0 hb5 hb2
          go_upto_region 15 with fail
          generalize w5.alloc (.cells #[.int .i64 x.id, .int .i64 x.fr, .int .i64 x.tn, .int .i64 x.op, .int .i64 x.en, .int .i64 x.ra, .int .i64 x.ow, .int .i64 x.ro] 41) = w6 at *
          generalize w5.heap.size = be at *
          have k0 : w6.cell? ⟨be, 0, none⟩ = some (.int .i64 x.id) := hE.cell 0
          have k1 : w6.cell? ⟨be, 1, none⟩ = some (.int .i64 x.fr) := hE.cell 1
          have k2 : w6.cell? ⟨be, 2, none⟩ = some (.int .i64 x.tn) := hE.cell 2
          have k3 : w6.cell? ⟨be, 3, none⟩ = some (.int .i64 x.op) := hE.cell 3
          have k4 : w6.cell? ⟨be, 4, none⟩ = some (.int .i64 x.en) := hE.cell 4
          have k5 : w6.cell? ⟨be, 5, none⟩ = some (.int .i64 x.ra) := hE.cell 5
          have k6 : w6.cell? ⟨be, 6, none⟩ = some (.int .i64 x.ow) := hE.cell 6
          have k7 : w6.cell? ⟨be, 7, none⟩ = some (.int .i64 x.ro) := hE.cell 7
          have lt_e := hE.lt
          go_wp2_with fail
          refine (hpass_yes HP.out _).mono ?_
          rintro e w7 ⟨rfl, hb7⟩
          replace hb := hb.trans (hb7.mono hsz)
          replace hE := hE.below hb7 hE.lt
          replace hsz := hb.size
          obtain ⟨ad', he, hab', i0⟩ := (HFI.out w7 hb).lst.atI HI.out him
          injection he with he
          subst he
          rw [← HA.out.id] at i0
          clear k0 k1 k2 k3 k4 k5 k6 k7 lt_e hb7
          have hb2 : Below w7.heap.size w7 (w7.alloc (.cells #[.int .i64 y.id, .int .i64 y.se, .int .i64 y.ar] 47)) := by (repeat (first | exact Below.refl _ _ | refine Below.alloc ?_ (by first | omega | (simp; done) | (simp; omega)) _ | refine Below.setCell ?_ (by first | omega | (simp; done) | (simp; omega)) _ | refine Below.drew ?_))
          have hH := Blok.new w7 47 #[.int .i64 y.id, .int .i64 y.se, .int .i64 y.ar]
          replace hE := hE.below hb2 hE.lt
          replace hb := hb.trans (hb2.mono hsz)
          replace hsz := hb.size
          go_upto_region 17 with fail
          generalize w7.alloc (.cells #[.int .i64 y.id, .int .i64 y.se, .int .i64 y.ar] 47) = w8 at *
          generalize w7.heap.size = bh at *
          clear i0 hb2
          have k0 : w8.cell? ⟨be, 0, none⟩ = some (.int .i64 x.id) := hE.cell 0
          have k1 : w8.cell? ⟨be, 1, none⟩ = some (.int .i64 x.fr) := hE.cell 1
          have k2 : w8.cell? ⟨be, 2, none⟩ = some (.int .i64 x.tn) := hE.cell 2
          have k3 : w8.cell? ⟨be, 3, none⟩ = some (.int .i64 x.op) := hE.cell 3
          have k4 : w8.cell? ⟨be, 4, none⟩ = some (.int .i64 x.en) := hE.cell 4
          have k5 : w8.cell? ⟨be, 5, none⟩ = some (.int .i64 x.ra) := hE.cell 5
          have k6 : w8.cell? ⟨be, 6, none⟩ = some (.int .i64 x.ow) := hE.cell 6
          have k7 : w8.cell? ⟨be, 7, none⟩ = some (.int .i64 x.ro) := hE.cell 7
          have lt_e := hE.lt
          have h0 : w8.cell? ⟨bh, 0, none⟩ = some (.int .i64 y.id) := hH.cell 0
          have h1 : w8.cell? ⟨bh, 1, none⟩ = some (.int .i64 y.se) := hH.cell 1
          have h2 : w8.cell? ⟨bh, 2, none⟩ = some (.int .i64 y.ar) := hH.cell 2
          have lt_h := hH.lt
          have hX := HFX.out w8 hb
          have x0 : w8.cell? ⟨bx, 0, none⟩ = some (.slice Av m cv) := hX.cell 0
          have x1 : w8.cell? ⟨bx, 1, none⟩ = some (.int .i64 ar) := hX.cell 1
          have lt_x := hX.lt
          obtain ⟨av, rfl, hav, c0, c1, c2⟩ := (HFH.out w8 hb).lst.atHp HR3.out him
          rw [HA.out.hop] at c0 c1 c2
          obtain ⟨an, rfl, han, n0⟩ := (HFN.out w8 hb).lst.atI HR2.out (show i < m + 1 by omega)
          rw [← HA.out.fr] at n0
          obtain ⟨an', he, _, n1⟩ := (HFN.out w8 hb).lst.atI HR2.out (show i + 1 < m + 1 by omega)
          injection he with he
          subst he
          rw [HA.out.tn, add_succ'] at n1
          have hrun : ∀ w0, (binOp .neq 47 (.agg #[.int .i64 y.id, .int .i64 y.se, .int .i64 y.ar]) (.agg #[.int .i64 y.id, .int .i64 y.se, .int .i64 y.ar])).run Try.prog w0 = .ok (.bool false) w0 := fun w0 => by
            have := neqHp y y w0
            simpa using this
          have s1 : IntKind.i64.wrap ((i : Int) + 1) = (i : Int) + 1 := IntWalk.i64_in _ (by omega)
          have s2 : (0 : Int) ≤ (i : Int) + 1 := by omega
          have s3 : ((i : Int) + 1).toNat = i + 1 := by omega
          have s4 : (x.fr != x.fr) = false := by simp
          have s5 : (x.tn != x.tn) = false := by simp
          have s6 : decide (y.se < t) = false := decide_eq_false (by omega)
          have s7 : decide (y.ar < y.se) = false := decide_eq_false (by omega)
          have s8 : (i : Int) + 1 < ((m + 1 : Nat) : Int) := by omega
          have s9 : (i : Int) + 1 < (m : Int) + 1 := by omega
          clear hX hE hH
          have q_c0 := fun d os => cell_regrown c0 d os
          have q_c1 := fun d os => cell_regrown c1 d os
          have q_c2 := fun d os => cell_regrown c2 d os
          have q_k0 := fun d os => cell_regrown k0 d os
          have q_k1 := fun d os => cell_regrown k1 d os
          have q_k2 := fun d os => cell_regrown k2 d os
          have q_k3 := fun d os => cell_regrown k3 d os
          have q_k4 := fun d os => cell_regrown k4 d os
          have q_k5 := fun d os => cell_regrown k5 d os
          have q_k6 := fun d os => cell_regrown k6 d os
          have q_k7 := fun d os => cell_regrown k7 d os
          have q_h0 := fun d os => cell_regrown h0 d os
          have q_h1 := fun d os => cell_regrown h1 d os
          have q_h2 := fun d os => cell_regrown h2 d os
          have q_x0 := fun d os => cell_regrown x0 d os
          have q_x1 := fun d os => cell_regrown x1 d os
          have q_n0 := fun d os => cell_regrown n0 d os
          have q_n1 := fun d os => cell_regrown n1 d os
          try simp only [List.append]
          first | refine wp_region_text_below ?_ | refine wp_region_quiet_below (by kernel_rfl) (by kernel_rfl) ?_
          repeat (go_big_quiet_step ((fail)))
          refine wpQuiet_nil ?_
          intro _ hqw
          obtain ⟨pq, hqw⟩ := hqw
          subst hqw
          clear q_c0 q_c1 q_c2 q_k0 q_k1 q_k2 q_k3 q_k4 q_k5 q_k6 q_k7 q_h0 q_h1 q_h2 q_x0 q_x1 q_n0 q_n1
          replace hb := hb.trans ((below_regrown w8 pq.d pq.os).mono hsz)
          clear c0 c1 c2 k0 k1 k2 k3 k4 k5 k6 k7 h0 h1 h2 x0 x1 n0 n1 hrun s1 s2 s3 s4 s5 s6 s7 s8 s9 lt_e lt_h lt_x hsz hsend harr
          generalize grow (redrawn w8 pq.d) pq.os = w9 at *
          have HBB := Lib.hid hb
          clear hb
          go_wp2_with fail
          go_loopw [26] (fun kv wx => ∃ k : Nat, kv = .int .i64 k ∧ k ≤ i + 1 ∧ Below w9.heap.size w9 wx) (fun kv _ => i + 1 - (intOf kv).toNat)
          case atStart => exact ⟨0, rfl, by omega, Below.refl _ _⟩
          case round =>
            obtain ⟨k, rfl, hk, hbx⟩ := hrel
            have hb := HBB.out.trans (hbx.mono HBB.out.size)
            by_cases hki : k ≤ i
            · have g3 : decide ((k : Int) ≤ (i : Int)) = true := decide_eq_true (by omega)
              obtain ⟨ae, he, _, e0⟩ := (HFN.out wr hb).lst.atI HR2.out (show k < m + 1 by omega)
              injection he with he
              subst he
              obtain ⟨ae, he, _, e1⟩ := (HFN.out wr hb).lst.atI HR2.out (show i + 1 < m + 1 by omega)
              injection he with he
              subst he
              rw [add_succ'] at e1
              obtain ⟨u, hu⟩ : ∃ v, ns.getD k 0 = v := ⟨_, rfl⟩
              obtain ⟨v, hv⟩ : ∃ v, ns.getD (i + 1) 0 = v := ⟨_, rfl⟩
              have huv : (u == v) = false := by
                rw [← hu, ← hv]
                exact beq_eq_false_iff_ne.2 (HA.out.unl k hki)
              rw [hu] at e0
              rw [hv] at e1
              have s1 : IntKind.i64.wrap ((i : Int) + 1) = (i : Int) + 1 := IntWalk.i64_in _ (by omega)
              have s2 : (0 : Int) ≤ (i : Int) + 1 := by omega
              have s3 : ((i : Int) + 1).toNat = i + 1 := by omega
              have s8 : (i : Int) + 1 < ((m + 1 : Nat) : Int) := by omega
              have s9 : (i : Int) + 1 < (m : Int) + 1 := by omega
              have t8 : (k : Int) < ((m + 1 : Nat) : Int) := by omega
              have t9 : (k : Int) < (m : Int) + 1 := by omega
              clear hu hv
              go_wp2_with fail
              have q_e0 := fun d os => cell_regrown e0 d os
              have q_e1 := fun d os => cell_regrown e1 d os
              try simp only [List.append]
              first | refine wp_region_text_below ?_ | refine wp_region_quiet_below (by kernel_rfl) (by kernel_rfl) ?_
              repeat (go_big_quiet_step ((fail)))
              refine wpQuiet_nil ?_
              intro _ hqw
              obtain ⟨pq, hqw⟩ := hqw
              subst hqw
              clear q_e0 q_e1
              have hbq := hbx.trans ((below_regrown wr pq.d pq.os).mono hbx.size)
              clear e0 e1 s1 s2 s3 s8 s9 t8 t9 huv hbx hb g3
              generalize grow (redrawn wr pq.d) pq.os = wq at *
              go_wp2_with fail
              go_roundw
              case rel => exact ⟨k + 1, by go_num, by omega, hbq⟩
              case measure => simp [intOf]; omega
            · obtain rfl : k = i + 1 := by omega
              have g3 : decide (((i + 1 : Nat) : Int) ≤ (i : Int)) = false := decide_eq_false (by omega)
              have hrd : readyE now hs5 (i + 1) = y.ar := by
                unfold readyE
                rw [if_neg (by omega), Nat.add_sub_cancel, HA.out.hop]
              have HRD := Lib.hid hrd
              clear hrd
              go_wp2_with fail
              go_roundw
              case rel => exact ⟨i + 1, by rw [HRD.out], by go_num, by omega, hb⟩
              case measure => simp [intOf]; omega
        · obtain rfl : i = m := by omega
          have hX := HFX.out wr hb
          have x0 : wr.cell? ⟨bx, 0, none⟩ = some (.slice Av i cv) := hX.cell 0
          have x1 : wr.cell? ⟨bx, 1, none⟩ = some (.int .i64 ar) := hX.cell 1
          have lt_x := hX.lt
          obtain ⟨an, rfl, han, n0⟩ := (HFN.out wr hb).lst.atI HR2.out (show 0 < i + 1 by omega)
          rw [HR6.out] at n0
          have n0' : wr.cell? an = some (.int .i64 q) := by have h := n0; unfold Addr.add at h; simpa using h
          have n0'' : wr.cell? ⟨an.block, an.off, none⟩ = some (.int .i64 q) ∨ True := .inr trivial
          clear n0''
          obtain ⟨an', he, _, n1⟩ := (HFN.out wr hb).lst.atI HR2.out (show i < i + 1 by omega)
          injection he with he
          subst he
          rw [HR7.out] at n1
          have s1 : (ar == readyE now hs5 i) = true := by rw [HR5.out]; simp
          have s8 : (i : Int) < ((i + 1 : Nat) : Int) := by omega
          have s9 : (i : Int) < (i : Int) + 1 := by omega
          have s7 : (0 : Int) < (i : Int) + 1 := by omega
          have s6 : (0 : Int) < ((i + 1 : Nat) : Int) := by omega
          have hsz := hb.size
          obtain ⟨rt, hrt⟩ : ∃ v, readyE now hs5 i = v := ⟨_, rfl⟩
          rw [hrt] at s1 ⊢
          have HRT := Lib.hid hrt
          clear hrt hX
          go_wp2_with fail
          refine (pids_any Av i cv hs5 ar wr HR3.out (by omega) (HFH.out wr hb)).mono ?_
          rw [HR4.out]
          rintro e w5 ⟨v5, rfl, hv5, hb5⟩
          obtain ⟨A5, c5, rfl⟩ := slice_of_own hv5
          have hb6 := hb.trans (hb5.mono hsz)
          clear x0 x1 lt_x n0 n0' n1 s1 s8 s9 s7 s6
          go_wp2_with fail
          refine (ints_refl A5 A' i c5 c' ids w5 HI.out (by omega) (Sl.of_own hv5) (HFI.out w5 hb6)).mono ?_
          rintro e w6 ⟨rfl, hb7⟩
          go_wp2
          go_ret
          exact ⟨rfl, HB.out.trans ((hb6.trans (hb7.mono hb6.size)).mono HB.out.size)⟩
theorem pathFollows_walk (A : Option Addr) (n k : Nat) (ns : List Int) (A' : Option Addr) (n' k' : Nat) (ns' : List Int) (q tt now size : Int) (hnl : ns.length = n * 8) (_ : ∀ m ∈ ns, (Lit.int .i64 m).wf = true) (hnl' : ns'.length = n' * 1) (hw' : ∀ m ∈ ns', (Lit.int .i64 m).wf = true) (_ : (Lit.int .i64 q).wf = true) (_ : (Lit.int .i64 tt).wf = true) (_ : (Lit.int .i64 now).wf = true) (_ : (Lit.int .i64 size).wf = true) (w : World) (hl : Sl w w.heap.size 8 A n k (ns.map (Value.int .i64))) (hl' : Sl w w.heap.size 1 A' n' k' (ns'.map (Value.int .i64))) :
    Calls Try.prog 4 #[.slice A n k, .slice A' n' k', .int .i64 q, .int .i64 tt, .int .i64 now, .int .i64 size] w fun e w' => e = .returned (.bool true) ∧ Below w.heap.size w w' := by
  obtain ⟨d, hd, hlf⟩ := rowsEd_of n ns hnl
  have hi : ns'.length = n' := by omega
  rw [hlf] at hl
  exact pathFollows_w A n k d A' n' k' ns' q tt now size hd hi (fun q hq => wf_ints12 hw' q (by omega)) w hl hl'
theorem pathFollows_own : ownKnob Try.prog.godebug = none := by kernel_rfl
theorem pathFollows_laidOut : laidOutB Try.prog = true := by kernel_rfl

set_option maxHeartbeats 1000000 in
set_option maxRecDepth 100000 in
theorem pathFollows_lifted (os : Os) (started : os.Started) (H : Type) (enc : TypeId × Value → H) :
    ReturnsInHanded {} Try.checked os 4 .any (Rows.pathFollowsSpec.pre6 enc Try.prog Try.f4 Rows.pathFollowsRow.domain false) (Rows.pathFollowsSpec.post enc Try.prog Try.f4 false true false false) := by
  refine returnsInHanded_of_change (C := Try.checked) pathFollows_own started (by kernel_rfl) Try.func4
    (ChangeSpec.witness6 (enc := enc) (C := Try.checked) false ⟨#[], #[.slice none 0 0, .slice none 0 0, .int .i64 0, .int .i64 0, .int .i64 0, .int .i64 0], []⟩ 8 (by kernel_rfl) (by kernel_rfl) (by kernel_rfl) (by kernel_rfl)) ?_
  intro W base args ds gs before hval0 hW hcnd _
  have hval : ∀ (j : Nat) t v, Try.f4.params[j]? = some t → args[j]? = some v → Value.okWide Try.prog W .any base t v := hval0
  have hW' := hW
  obtain ⟨p, q, hA0, hV, rfl, hfz, hnd⟩ := hW
  have hA : DataW.TrodAll enc Try.prog W 0 (fun _ => true) true Try.f4.params.toList args.toList ds p := hA0
  rw [Try.params4] at hA hval
  obtain ⟨v0, vs0, d0, ds0, p0, q0, hargs, rfl, rfl, h0, r0⟩ := trodAll_cons hA
  obtain ⟨v1, vs1, d1, ds1, p1, q1, rfl, rfl, rfl, h1, r1⟩ := trodAll_cons r0
  obtain ⟨v2, vs2, d2, ds2, p2, q2, rfl, rfl, rfl, h2, r2⟩ := trodAll_cons r1
  obtain ⟨v3, vs3, d3, ds3, p3, q3, rfl, rfl, rfl, h3, r3⟩ := trodAll_cons r2
  obtain ⟨v4, vs4, d4, ds4, p4, q4, rfl, rfl, rfl, h4, r4⟩ := trodAll_cons r3
  obtain ⟨v5, vs5, d5, ds5, p5, q5, rfl, rfl, rfl, h5, r5⟩ := trodAll_cons r4
  obtain ⟨rfl, rfl, rfl⟩ := trodAll_nil r5
  obtain rfl : args = #[v0, v1, v2, v3, v4, v5] := by cases args; simp_all
  obtain ⟨rfl, rfl⟩ := trodVars_none hV
  obtain ⟨A0, n0, c0, ns0, rfl, hl0, nl0, w0⟩ := open_rowsS 4 (K := 8) Try.underlying22 (by kernel_rfl) (by kernel_rfl) (by omega) (hval 0 22 v0 rfl rfl) h0
  obtain ⟨A1, n1, c1, ns1, rfl, hl1, nl1, w1⟩ := open_rowsS 4 (K := 1) Try.underlying23 (by kernel_rfl) (by kernel_rfl) (by omega) (hval 1 23 v1 rfl rfl) h1
  obtain ⟨a2, rfl, rfl, rfl, w2⟩ := open_int Try.underlying3 (hval 2 3 v2 rfl rfl) h2
  obtain ⟨a3, rfl, rfl, rfl, w3⟩ := open_int Try.underlying3 (hval 3 3 v3 rfl rfl) h3
  obtain ⟨a4, rfl, rfl, rfl, w4⟩ := open_int Try.underlying3 (hval 4 3 v4 rfl rfl) h4
  obtain ⟨a5, rfl, rfl, rfl, w5⟩ := open_int Try.underlying3 (hval 5 3 v5 rfl rfl) h5
  clear hA0 hval0
  refine (pathFollows_walk A0 n0 c0 ns0 A1 n1 c1 ns1 a2 a3 a4 a5 nl0 w0 nl1 w1 w2 w3 w4 w5 W hl0 hl1).mono fun e W' ⟨he, bel⟩ => ?_
  subst he
  exact ⟨_, rfl, law_post pathFollows_laidOut (by kernel_rfl) rfl Try.underlying4 rfl rfl hW' bel⟩

theorem pathFollows_proved : Rows.PathFollowsSaid :=
  OpenClaim.holds_of_wide 4 Try.f4 rfl rfl rfl rfl rfl rfl rfl ⟨rfl, rfl, rfl, rfl, rfl⟩ rfl rfl rfl rfl rfl (by kernel_rfl) Try.func4 (by kernel_rfl)
    (of_decide_eq_true (by kernel_rfl)) (by unfold Func.isWrapper; first | (rw [if_pos (by decide +kernel)]; kernel_rfl) | (rw [if_neg (by decide +kernel)]; exact ⟨rfl, rfl⟩))
    (fun os started H enc _ => pathFollows_lifted os started H enc)
#print axioms pathFollows_proved
end Go.Proofs.Ytmijkdfinhkloaa
