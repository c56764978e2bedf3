/- The document's order of routes: Sort. It makes new memory alone. No condition but on sizes. -/
import Derived.Test.YtbhhkaaidhapbaaO13b
namespace Go.Proofs.Ytbhhkaaidhapbaa
open Go.ChangeShapes Go.WideShapes Go.ChangeAt Go.RowKit Go.Sort
set_option linter.unusedSimpArgs false
set_option linter.unusedVariables false
theorem own_downS {w : World} {b b' : Nat} {e : TypeId} {s n : Nat} {v : Value} {xs : List Value} (h : w.ownsRow b e s v n xs) (hb : b' ≤ b) : w.ownsRow b' e s v n xs := by
  refine ⟨h.1, ?_⟩
  rcases h.2 with hn | ⟨g, cap, cur, h1, h2, rest⟩
  · exact .inl hn
  · exact .inr ⟨g, cap, cur, h1, Nat.le_trans hb h2, rest⟩
theorem run_hiS (w0 : World) (A : Option Addr) (n c p : Nat) (hp : p ≤ c) : (Instr.slice 22 (.slice A n c) none (some (.int .i64 (p : Int))) none).run Try.prog w0 = .ok (.slice A p c) w0 := by
  have ht : Try.prog.underlying 22 = some (.slice (Try.prog.elem 22)) := by kernel_rfl
  have hsz : (sizeOf (Try.prog.elem 22)).run Try.prog w0 = .ok 2 w0 := by kernel_rfl
  rw [run_slice_h w0 22 A n c ht .i64 (p : Int) (by omega) (by omega), hsz]
  simp [Result.andThen, sliced]
  intro _
  cases A <;> simp [Addr.add_zero']
theorem run_loS (w0 : World) (A : Option Addr) (n c p : Nat) (hp : p ≤ n) (Ad : Option Addr) (hAd : (if c = p then A else A.map (·.add (p * 2))) = Ad) : (Instr.slice 22 (.slice A n c) (some (.int .i64 (p : Int))) none none).run Try.prog w0 = .ok (.slice Ad (n - p) (c - p)) w0 := by
  have ht : Try.prog.underlying 22 = some (.slice (Try.prog.elem 22)) := by kernel_rfl
  have hsz : (sizeOf (Try.prog.elem 22)).run Try.prog w0 = .ok 2 w0 := by kernel_rfl
  rw [run_slice_l w0 22 A n c ht .i64 (p : Int) (by omega) (by omega), hsz]
  simp only [Result.andThen, sliced, Int.toNat_natCast, hAd]
theorem hdRx_take (l : List Rx) (n : Nat) : hdRx (l.take n) = (hdRx l).take n := by simp [hdRx, List.map_take]
theorem hdRx_drop (l : List Rx) (n : Nat) : hdRx (l.drop n) = (hdRx l).drop n := by simp [hdRx, List.map_drop]
/-- One more in its place. -/
theorem srt_put {O : List Rtp} {x : Rtp} {k : Nat} (hs : SrtT O) (hlo : ∀ a, a < k → cT (O.getD a ([], 0)) x < 0) (hhi : ∀ a, k ≤ a → a < O.length → 0 ≤ cT (O.getD a ([], 0)) x) (hz : ∀ a, a < O.length → cT (O.getD a ([], 0)) x ≠ 0) (hk : k ≤ O.length) : SrtT (O.take k ++ [x] ++ O.drop k) := by
  have hg : ∀ a (h : a < O.length), O.getD a ([], 0) = O[a] := fun a h => by rw [List.getD_eq_getElem?_getD, List.getElem?_eq_getElem h]; rfl
  refine List.pairwise_append.2 ⟨List.pairwise_append.2 ⟨hs.sublist (List.take_sublist _ _), List.pairwise_singleton .., fun y hy z hzz => ?_⟩, hs.sublist (List.drop_sublist _ _), fun y hy z hzz => ?_⟩
  · rw [List.mem_singleton.1 hzz]
    obtain ⟨a, ha, e⟩ := List.getElem_of_mem hy
    rw [List.length_take] at ha
    rw [List.getElem_take] at e
    rw [← e, ← hg a (by omega)]
    exact hlo a (by omega)
  · obtain ⟨b, hb, eb⟩ := List.getElem_of_mem hzz
    rw [List.length_drop] at hb
    rw [List.getElem_drop] at eb
    have h1 := hhi (k + b) (by omega) (by omega)
    have h2 := hz (k + b) (by omega)
    rw [hg (k + b) (by omega), eb] at h1 h2
    have hxz : cT x z < 0 := by have := cT_anti x z; omega
    rcases List.mem_append.1 hy with hy | hy
    · obtain ⟨a, ha, e⟩ := List.getElem_of_mem hy
      rw [List.length_take] at ha
      rw [List.getElem_take] at e
      have h3 := hlo a (by omega)
      rw [hg a (by omega), e] at h3
      exact cT_lt_of_lt_le h3 (Int.le_of_lt hxz)
    · rw [List.mem_singleton.1 hy]; exact hxz
/-- Whether an equal one stands before `j`. -/
def HadP (had : Bool) (l : List Rtp) (x : Rtp) (j : Nat) : Prop := had = true ↔ ∃ a, a < j ∧ cT (l.getD a ([], 0)) x = 0
def SortP (w : World) (l : List Rtp) (e : Ending) (w' : World) : Prop := ∃ (v : Value) (R : List Rtp), e = .returned v ∧ RO w' w.heap.size v R ∧ SrtT R ∧ (∀ z ∈ R, Fst l z) ∧ (∀ z ∈ l, ∃ y ∈ R, cT z y = 0) ∧ Below w.heap.size w w'
theorem rtAt {O : List Rx} {a : Nat} (h : a < O.length) : (O.map Rx.rt).getD a ([], 0) = (gRx O a).rt := by
  unfold gRx
  rw [List.getD_eq_getElem?_getD, List.getD_eq_getElem?_getD, List.getElem?_map, List.getElem?_eq_getElem h]
  rfl
theorem had_mem {l : List Rtp} {x : Rtp} {j : Nat} (hj : j ≤ l.length) (h : HadP true l x j) : ∃ y ∈ l, cT x y = 0 := by
  obtain ⟨a, ha, e⟩ := h.1 rfl
  have hl : a < l.length := by omega
  have eg : l.getD a ([], 0) = l[a] := by rw [List.getD_eq_getElem?_getD, List.getElem?_eq_getElem hl]; rfl
  refine ⟨l[a], List.getElem_mem hl, ?_⟩
  rw [eg] at e
  have := cT_anti x l[a]
  omega
theorem had_no {l : List Rtp} {x : Rtp} {j : Nat} (h : HadP false l x j) (a : Nat) (ha : a < j) : cT (l.getD a ([], 0)) x ≠ 0 := fun e => absurd (h.2 ⟨a, ha, e⟩) (by simp)
theorem put_len (O : List Rx) (x : Rx) {k : Nat} (hk : k ≤ O.length) : (O.take k ++ [x] ++ O.drop k).length = O.length + 1 := by simp; omega
theorem put_flat (O : List Rx) (x : Rx) (k : Nat) : flatRh (hdRx (O.take k ++ [x] ++ O.drop k)) = ([] ++ flatRh (hdRx (O.take k))) ++ [.slice x.h.A x.h.n x.h.c, .int .i64 x.h.t] ++ flatRh (hdRx (O.drop k)) := by rw [hdRx_app, hdRx_app, hdRx_one]; rfl
theorem put_mem {α : Type} {O : List α} {x y : α} {k : Nat} (h : y ∈ O.take k ++ [x] ++ O.drop k) : y ∈ O ∨ y = x := by
  rcases List.mem_append.1 h with h | h
  · rcases List.mem_append.1 h with h | h
    · exact .inl (List.mem_of_mem_take h)
    · exact .inr (List.mem_singleton.1 h)
  · exact .inl (List.mem_of_mem_drop h)
theorem mem_put {α : Type} {O : List α} {x y : α} {k : Nat} (h : y ∈ O ∨ y = x) : y ∈ O.take k ++ [x] ++ O.drop k := by
  rcases h with h | rfl
  · rw [← List.take_append_drop k O] at h
    rcases List.mem_append.1 h with h | h
    · exact List.mem_append_left _ (List.mem_append_left _ h)
    · exact List.mem_append_right _ h
  · exact List.mem_append_left _ (List.mem_append_right _ (List.mem_singleton.2 rfl))
theorem put_map (O : List Rx) (x : Rx) (k : Nat) : (O.take k ++ [x] ++ O.drop k).map Rx.rt = (O.map Rx.rt).take k ++ [x.rt] ++ (O.map Rx.rt).drop k := by simp [List.map_take, List.map_drop]
theorem RO.down {w : World} {b b' : Nat} {v : Value} {R : List (List Hp × Int)} (h : RO w b v R) (hb : b' ≤ b) : RO w b' v R := by
  obtain ⟨L, h1, h2, h3⟩ := h
  exact ⟨L, own_downS h1 hb, h2, h3⟩
set_option maxHeartbeats 16000000 in
set_option maxRecDepth 100000 in
theorem rsort13_any (A : Option Addr) (n c : Nat) (L : List Rx) (w : World) (hl : L.length = n) (hn : n ≤ 20000000000) (h : Sl w w.heap.size 2 A n c (flatRh (hdRx L))) (hok : ∀ x ∈ L, x.ok w) :
    Calls Try.prog 12 #[.slice A n c] w (SortP w (L.map Rx.rt)) := by
  obtain ⟨i0, hi0, hz0, hz1, hz2⟩ := info_parts infoRh
  have HL := Lib.hid hl
  have HH := Lib.hid (fun w' (hb : Below w.heap.size w w') => h.up hb)
  have HOKL := Lib.hid hok
  clear hl h hok
  go_enter Try.func12, Try.ntmps12
  go_wp2_with fail
  go_loopw [3, 4] (fun ov iv wr => ∃ (i : Nat) (O : List Rx) (A5 : Option Addr) (c5 : Nat), iv = .int .i64 (i : Int) ∧ i ≤ n ∧ ov = .slice A5 O.length c5 ∧ Hid (wr.ownsRow w.heap.size 25 2 (.slice A5 O.length c5) O.length (flatRh (hdRx O))) ∧ Hid (∀ x ∈ O, x.ok wr) ∧ Hid (SrtT (O.map Rx.rt)) ∧ Hid (∀ z ∈ O.map Rx.rt, Fst ((L.take i).map Rx.rt) z) ∧ Hid (∀ z ∈ (L.take i).map Rx.rt, ∃ y ∈ O.map Rx.rt, cT z y = 0) ∧ O.length ≤ i ∧ Below w.heap.size w wr) (fun _ iv _ => n - (intOf iv).toNat)
  case atStart => exact ⟨0, [], none, 0, rfl, Nat.zero_le _, rfl, World.ownsRow_nil _ _ _ _, fun x hx => (by cases hx), List.Pairwise.nil, fun x hx => (by cases hx), fun x hx => (by cases hx), Nat.le_refl _, Below.refl _ _⟩
  case round =>
    obtain ⟨i, O, A5, c5, rfl, hi, rfl, HO, HOK, HS, HM, HZ, hOl, hB⟩ := hrel
    by_cases hin : i < n
    · obtain ⟨x, hx⟩ : ∃ x, gRx L i = x := ⟨_, rfl⟩
      have hxL : x ∈ L := by rw [← hx]; exact gRx_mem (by rw [HL.out]; exact hin)
      have HTK : Hid ((L.take (i + 1)).map Rx.rt = (L.take i).map Rx.rt ++ [x.rt]) := by show _ = _; rw [take_nextR (by rw [HL.out]; exact hin), List.map_append, hx]; rfl
      have HXL := Lib.hid hxL
      have HXE := Lib.hid hx
      have HBW := Lib.hid hB
      have hws := hB.size
      obtain ⟨⟨xA, xn, xc, xt⟩, xd⟩ := x
      have HXO : Hid (xd.length = xn ∧ xn ≤ 1000000 ∧ ∀ w', Below w.heap.size w w' → Sl w' w'.heap.size 3 xA xn xc (flatHp xd)) := by
        obtain ⟨q1, q2, q3⟩ := HOKL.out _ HXL.out
        exact ⟨q1, q2, fun w' hb => q3.up hb⟩
      obtain ⟨m, hm⟩ : ∃ m, O.length = m := ⟨_, rfl⟩
      rw [hm] at HO hOl ⊢
      have HMm := Lib.hid hm
      obtain ⟨wA, hwA⟩ : ∃ z, z = wr := ⟨_, rfl⟩
      subst hwA
      clear hx hxL hm
      go_wp2_with fail
      go_loopw [5, 6, 7] (fun kv hv jv wr => ∃ (j k : Nat) (had : Bool), kv = .int .i64 (k : Int) ∧ hv = .bool had ∧ jv = .int .i64 (j : Int) ∧ k ≤ j ∧ j ≤ m ∧ Hid (∀ a, a < k → cT ((O.map Rx.rt).getD a ([], 0)) (xd, xt) < 0) ∧ Hid (∀ a, k ≤ a → a < j → 0 ≤ cT ((O.map Rx.rt).getD a ([], 0)) (xd, xt)) ∧ Hid (HadP had (O.map Rx.rt) (xd, xt) j) ∧ Below wA.heap.size wA wr) (fun _ _ jv _ => m - (intOf jv).toNat)
      case atStart => exact ⟨0, 0, false, rfl, rfl, rfl, Nat.le_refl _, Nat.zero_le _, fun a h => (by omega), fun a _ h => (by omega), ⟨fun h => (by cases h), fun ⟨a, h, _⟩ => (by omega)⟩, Below.refl _ _⟩
      case round =>
        obtain ⟨j, k, had, rfl, rfl, rfl, hkj, hjm, HLO, HHI, HHD, hBr⟩ := hrel
        have hBw := HBW.out.trans (hBr.mono HBW.out.size)
        by_cases hj : j < m
        · obtain ⟨ad, hA, hab, p0, p1⟩ := rl_cell HL.out (HH.out _ hBw) hin
          subst hA
          rw [HXE.out] at p0 p1
          have hOr := own_belowK HO.out hBr
          obtain ⟨g, c5', e5, hc5⟩ := own_posJ hOr (by omega)
          simp only [Value.slice.injEq] at e5
          obtain ⟨rfl, _, rfl⟩ := e5
          have hjO : j < O.length := by rw [HMm.out]; exact hj
          obtain ⟨r0, r1⟩ := ownRh_at hOr (by simp [hdRx, HMm.out]) hj
          rw [gRx_hd hjO] at r0 r1
          obtain ⟨y, hy⟩ : ∃ y, gRx O j = y := ⟨_, rfl⟩
          rw [hy] at r0 r1
          have hyO : y ∈ O := by rw [← hy]; exact gRx_mem hjO
          have hyok := (HOK.out y hyO).below hBr
          have hyr : (O.map Rx.rt).getD j ([], 0) = y.rt := by rw [rtAt hjO, hy]
          obtain ⟨⟨yA, yn, yc, yt⟩, yd⟩ := y
          obtain ⟨y1, y2, y3⟩ := hyok
          have x3 := HXO.out.2.2 _ hBw
          have hxm : xn ≤ 1000000 := HXO.out.2.1
          have hym : yn ≤ 1000000 := y2
          have HYR := Lib.hid hyr
          have HYL : Hid (yd.length = yn) := y1
          have HXLn : Hid (xd.length = xn) := HXO.out.1
          have q0 : wr.cell? ⟨g, j * 2, none⟩ = some (.slice yA yn yc) := r0
          have q1 : wr.cell? ⟨g, j * 2 + 1, none⟩ = some (.int .i64 yt) := r1
          have s0 : wr.cell? (ad.add (i * 2)) = some (.slice xA xn xc) := p0
          have s1 : wr.cell? ⟨(ad.add (i * 2)).block, (ad.add (i * 2)).off + 1, none⟩ = some (.int .i64 xt) := p1
          have HQY := Lib.hid (fun w' (hb : Below wr.heap.size wr w') => Sl.up (show Sl wr wr.heap.size 3 yA yn yc (flatHp yd) from y3) hb)
          have HQX := Lib.hid (fun w' (hb : Below wr.heap.size wr w') => x3.up hb)
          have HQ1 := Lib.hid (fun (dd : Nat) (os : Array Obj) => HQY.out _ (below_regrown wr dd os))
          have HQ2 := Lib.hid (fun (dd : Nat) (os : Array Obj) => HQX.out _ (below_regrown wr dd os))
          obtain ⟨z, hz⟩ : ∃ z, cmpR yt yd xt xd = z := ⟨_, rfl⟩
          have HZZ := Lib.hid hz
          obtain ⟨b, hb⟩ : ∃ b, decide (z < 0) = b := ⟨_, rfl⟩
          have HBB := Lib.hid hb
          have HLS : Hid (decide (cmpR yt yd xt xd < 0) = b) := by show _ = _; rw [HZZ.out]; exact hb
          have HCT : Hid (cT ((O.map Rx.rt).getD j ([], 0)) (xd, xt) = z) := by show cT _ _ = z; rw [HYR.out]; exact hz
          have hjI : (j : Int) < (m : Int) := by omega
          have hiI : (i : Int) < (n : Int) := by omega
          have S0 := Lib.hid s0
          have S1 := Lib.hid s1
          have Q0 := Lib.hid q0
          have Q1 := Lib.hid q1
          clear p0 p1 r0 r1 hy hyO hyr y1 y2 y3 x3 hz hb hOr hBw hjO
          go_wp2_with fail
          have q_q0 := fun d os => cell_regrown q0 d os
          have q_q1 := fun d os => cell_regrown q1 d os
          have q_s0 := fun d os => cell_regrown s0 d os
          have q_s1 := fun d os => cell_regrown s1 d os
          try simp only [List.append]
          first | refine wp_region_text_below ?_ | refine wp_region_quiet_below (by kernel_rfl) (by kernel_rfl) ?_
          repeat (go_big_quiet_step (((go_at_call 20; with_reducible exact Calls.regrown_of (rless13_any yA xA yn yc xn xc yd xd yt xt _ HYL.out HXLn.out hym hxm (HQ1.out _ _) (HQ2.out _ _) b HLS.out)))))
          refine wpQuiet_nil ?_
          intro _ hqw
          obtain ⟨pq, hqw⟩ := hqw
          subst hqw
          clear q_q0 q_q1 q_s0 q_s1
          have hbel := below_regrown wr pq.d pq.os
          have q0' := cell_regrown q0 pq.d pq.os
          have q1' := cell_regrown q1 pq.d pq.os
          have s0' := cell_regrown s0 pq.d pq.os
          have s1' := cell_regrown s1 pq.d pq.os
          have hBq := hBr.trans (hbel.mono hBr.size)
          have HQY2 := Lib.hid (HQY.out _ hbel)
          have HQX2 := Lib.hid (HQX.out _ hbel)
          clear q0 q1 s0 s1 HQ1 HQ2 HQY HQX hbel
          generalize grow (redrawn wr pq.d) pq.os = wq at *
          have HQ1 := Lib.hid (fun (dd : Nat) (os : Array Obj) => HQY2.out.up (below_regrown wq dd os))
          have HQ2 := Lib.hid (fun (dd : Nat) (os : Array Obj) => HQX2.out.up (below_regrown wq dd os))
          have hne : b = true → z ≠ 0 := fun h => by have := HBB.out; rw [h] at this; have := of_decide_eq_true this; omega
          obtain ⟨ze, hze⟩ : ∃ e, (z == 0) = e := ⟨_, rfl⟩
          have HZE := Lib.hid hze
          have HHD2 : Hid (HadP (had || ze) (O.map Rx.rt) (xd, xt) (j + 1)) := by
            show (had || ze) = true ↔ _
            rw [Bool.or_eq_true, show (had = true ↔ _) from HHD.out]
            constructor
            · rintro (⟨a, h1, h2⟩ | h)
              · exact ⟨a, by omega, h2⟩
              · refine ⟨j, by omega, ?_⟩
                rw [HCT.out]
                have := HZE.out
                rw [h] at this
                exact beq_iff_eq.1 this
            · rintro ⟨a, h1, h2⟩
              by_cases e : a = j
              · subst e
                right
                rw [HCT.out] at h2
                rw [← HZE.out, h2]; rfl
              · exact .inl ⟨a, by omega, h2⟩
          obtain ⟨k2, hk2⟩ : ∃ k2, (if b = true then j + 1 else k) = k2 := ⟨_, rfl⟩
          have hk2j : k2 ≤ j + 1 := by rw [← hk2]; split <;> omega
          have HLO2 : Hid (∀ a, a < k2 → cT ((O.map Rx.rt).getD a ([], 0)) (xd, xt) < 0) := fun a ha => by
            rw [← hk2] at ha
            split at ha
            · rename_i hbt
              have hzl : z < 0 := by have h := HBB.out; rw [hbt] at h; exact of_decide_eq_true h
              by_cases e : a = j
              · subst e; rw [HCT.out]; exact hzl
              · have hsr := HS.out
                have hml : (O.map Rx.rt).length = m := by rw [List.length_map]; exact HMm.out
                have h3 := srtT_ne hsr (i := a) (j := j) (by omega) (by omega) (by omega)
                have e1 : (O.map Rx.rt).getD a ([], 0) = (O.map Rx.rt)[a]'(by omega) := by rw [List.getD_eq_getElem?_getD, List.getElem?_eq_getElem (by omega)]; rfl
                have e2 : (O.map Rx.rt).getD j ([], 0) = (O.map Rx.rt)[j]'(by omega) := by rw [List.getD_eq_getElem?_getD, List.getElem?_eq_getElem (by omega)]; rfl
                rw [← e1, ← e2] at h3
                have h4 := HCT.out
                exact cT_lt_of_lt_le h3 (by rw [h4]; omega)
            · exact HLO.out a ha
          have HHI2 : Hid (∀ a, k2 ≤ a → a < j + 1 → 0 ≤ cT ((O.map Rx.rt).getD a ([], 0)) (xd, xt)) := fun a h1 h2 => by
            rw [← hk2] at h1
            split at h1
            · omega
            · rename_i hbf
              by_cases e : a = j
              · subst e
                rw [HCT.out]
                exact Int.not_lt.1 fun hzl => hbf (by rw [← HBB.out]; exact decide_eq_true hzl)
              · exact HHI.out a h1 (by omega)
          have HK2 := Lib.hid hk2
          clear hze hne hk2 hBr
          cases b with
          | true =>
            obtain rfl : k2 = j + 1 := by have := HK2.out; rw [if_pos rfl] at this; exact this.symm
            cases had with
            | true =>
              go_wp2_with fail
              try simp only [List.append]
              first | refine wp_region_text_below ?_ | refine wp_region_quiet_below (by kernel_rfl) (by kernel_rfl) ?_
              repeat (go_big_quiet_step ((fail)))
              refine wpQuiet_nil ?_
              intro _ hqw
              obtain ⟨pq, hqw⟩ := hqw
              subst hqw
              have hbel := below_regrown wq pq.d pq.os
              have hBq2 := hBq.trans (hbel.mono hBq.size)
              clear hbel q0' q1' s0' s1' hBq
              generalize grow (redrawn wq pq.d) pq.os = wq2 at *
              go_wp2_with fail
              go_roundw
              case rel => exact ⟨j + 1, j + 1, true, by go_num, rfl, by go_num, by omega, by omega, HLO2, HHI2, by have h := HHD2.out; show HadP _ _ _ _; simpa using h, hBq2⟩
              case measure => simp [intOf]; omega
            | false =>
              go_wp2_with fail
              have q_q0' := fun d os => cell_regrown q0' d os
              have q_q1' := fun d os => cell_regrown q1' d os
              have q_s0' := fun d os => cell_regrown s0' d os
              have q_s1' := fun d os => cell_regrown s1' d os
              try simp only [List.append]
              first | refine wp_region_text_below ?_ | refine wp_region_quiet_below (by kernel_rfl) (by kernel_rfl) ?_
              repeat (go_big_quiet_step (((go_at_call 18; with_reducible exact Calls.regrown_of (rcmp13_any yA xA yn yc xn xc yd xd yt xt _ HYL.out HXLn.out hym hxm (HQ1.out _ _) (HQ2.out _ _) z HZZ.out)))))
              refine wpQuiet_nil ?_
              intro _ hqw
              obtain ⟨pq, hqw⟩ := hqw
              subst hqw
              clear q_q0' q_q1' q_s0' q_s1'
              have hbel := below_regrown wq pq.d pq.os
              have hBq2 := hBq.trans (hbel.mono hBq.size)
              clear hbel q0' q1' s0' s1' hBq
              generalize grow (redrawn wq pq.d) pq.os = wq2 at *
              rw [HZE.out]
              go_wp2_with fail
              go_roundw
              case rel => exact ⟨j + 1, j + 1, ze, by go_num, rfl, by go_num, by omega, by omega, HLO2, HHI2, by have h := HHD2.out; show HadP _ _ _ _; simpa using h, hBq2⟩
              case measure => simp [intOf]; omega
          | false =>
            obtain rfl : k2 = k := by have := HK2.out; rw [if_neg (by simp)] at this; exact this.symm
            cases had with
            | true =>
              go_wp2_with fail
              try simp only [List.append]
              first | refine wp_region_text_below ?_ | refine wp_region_quiet_below (by kernel_rfl) (by kernel_rfl) ?_
              repeat (go_big_quiet_step ((fail)))
              refine wpQuiet_nil ?_
              intro _ hqw
              obtain ⟨pq, hqw⟩ := hqw
              subst hqw
              have hbel := below_regrown wq pq.d pq.os
              have hBq2 := hBq.trans (hbel.mono hBq.size)
              clear hbel q0' q1' s0' s1' hBq
              generalize grow (redrawn wq pq.d) pq.os = wq2 at *
              go_wp2_with fail
              go_roundw
              case rel => exact ⟨j + 1, k2, true, by go_num, rfl, by go_num, by omega, by omega, HLO2, HHI2, by have h := HHD2.out; show HadP _ _ _ _; simpa using h, hBq2⟩
              case measure => simp [intOf]; omega
            | false =>
              go_wp2_with fail
              have q_q0' := fun d os => cell_regrown q0' d os
              have q_q1' := fun d os => cell_regrown q1' d os
              have q_s0' := fun d os => cell_regrown s0' d os
              have q_s1' := fun d os => cell_regrown s1' d os
              try simp only [List.append]
              first | refine wp_region_text_below ?_ | refine wp_region_quiet_below (by kernel_rfl) (by kernel_rfl) ?_
              repeat (go_big_quiet_step (((go_at_call 18; with_reducible exact Calls.regrown_of (rcmp13_any yA xA yn yc xn xc yd xd yt xt _ HYL.out HXLn.out hym hxm (HQ1.out _ _) (HQ2.out _ _) z HZZ.out)))))
              refine wpQuiet_nil ?_
              intro _ hqw
              obtain ⟨pq, hqw⟩ := hqw
              subst hqw
              clear q_q0' q_q1' q_s0' q_s1'
              have hbel := below_regrown wq pq.d pq.os
              have hBq2 := hBq.trans (hbel.mono hBq.size)
              clear hbel q0' q1' s0' s1' hBq
              generalize grow (redrawn wq pq.d) pq.os = wq2 at *
              rw [HZE.out]
              go_wp2_with fail
              go_roundw
              case rel => exact ⟨j + 1, k2, ze, by go_num, rfl, by go_num, by omega, by omega, HLO2, HHI2, by have h := HHD2.out; show HadP _ _ _ _; simpa using h, hBq2⟩
              case measure => simp [intOf]; omega
        · obtain rfl : j = m := by omega
          have HZX : Hid (∀ (O2 : List Rtp), (∀ z ∈ O.map Rx.rt, z ∈ O2) → (∃ y ∈ O2, cT (xd, xt) y = 0) → ∀ z ∈ (L.take (i + 1)).map Rx.rt, ∃ y ∈ O2, cT z y = 0) := fun O2 h1 h2 z hz => by
            rw [HTK.out] at hz
            rcases List.mem_append.1 hz with hz | hz
            · obtain ⟨y, hy, e⟩ := HZ.out z hz
              exact ⟨y, h1 y hy, e⟩
            · rw [List.mem_singleton.1 hz]; exact h2
          have HML : Hid ((O.map Rx.rt).length = j) := by show _ = _; rw [List.length_map]; exact HMm.out
          have hOw := own_belowK HO.out hBr
          cases had with
          | true =>
            have HOW := Lib.hid hOw
            clear hOw
            go_wp2_with fail
            go_roundw
            case rel => exact ⟨i + 1, O, A5, c5, by go_num, by omega, by rw [HMm.out], by rw [HMm.out]; exact HOW.out, fun y hy => (HOK.out y hy).below hBr, HS.out, (fun z hz => by rw [HTK.out]; exact fst_app.2 (.inl (HM.out z hz))), HZX.out _ (fun z hz => hz) (had_mem (by rw [HML.out]; exact Nat.le_refl _) HHD.out), by rw [HMm.out]; omega, hBw⟩
            case measure => simp [intOf]; omega
          | false =>
            have hSl := Sl.of_own hOw
            have hS1 : Sl wr wr.heap.size 2 A5 k c5 (flatRh (hdRx (O.take k))) := by have h := hSl.upto hkj; rwa [flatRh_take, ← hdRx_take] at h
            have hS2 := hSl.from_ hkj
            rw [flatRh_drop, ← hdRx_drop] at hS2
            have hc5 : k ≤ c5 := Nat.le_trans hkj hSl.cap
            obtain ⟨A6, hA6⟩ : ∃ A6, (if c5 = k then A5 else A5.map (·.add (k * 2))) = A6 := ⟨_, rfl⟩
            rw [hA6] at hS2
            have z1 := fun w0 => run_hiS w0 A5 j c5 k hc5
            have z2 := fun w0 => run_loS w0 A5 j c5 k hkj A6 hA6
            have HS1 := Lib.hid hS1
            have HS2 := Lib.hid hS2
            clear hOw hSl hS1 hS2 hA6
            go_upto_region 16 with (first | (at_builtin; refine wpList_append_lst _ rfl (.tmp 46) (.tmp 49) 22 rfl wr.heap.size 25 i0 _ 2 32 Try.underlying22 hi0 hz0 hz1 hz2 rfl (by decide) (.slice none 0 0) 0 [] rfl (World.ownsRow_nil _ _ _ _) wr.heap.size A5 k c5 (flatRh (hdRx (O.take k))) rfl HS1.out.lst (flatRh_one _) (by unfold maxLen; omega) (by omega) (Nat.le_refl _) ?_; intro v1 w1 hown1 hg1 hx1))
            have hB1 : Below wr.heap.size wr w1 := Below.grown (Below.refl _ _) hg1 (Nat.le_refl _) (fun g hg => by simp [Value.ownBlock] at hg)
            obtain ⟨A8, c8, rfl⟩ := slice_of_own hown1
            have HOB1 : Hid (∀ g, (Value.slice A8 (0 + k) c8).ownBlock = some g → wr.heap.size ≤ g) := fun g hg => (hown1.lt g hg).1
            have HO1 := Lib.hid hown1
            have hBw1 := hBw.trans (hB1.mono hBw.size)
            obtain ⟨ad, hA, hab, p0, p1⟩ := rl_cell HL.out (HH.out _ hBw1) hin
            subst hA
            rw [HXE.out] at p0 p1
            have s0 : w1.cell? (ad.add (i * 2)) = some (.slice xA xn xc) := p0
            have s1 : w1.cell? ⟨(ad.add (i * 2)).block, (ad.add (i * 2)).off + 1, none⟩ = some (.int .i64 xt) := p1
            have hs1w := hB1.size
            have hiI : (i : Int) < (n : Int) := by omega
            clear hown1 hg1 hx1 p0 p1 hBw1
            go_upto_region 17 with (first | (at_builtin; refine wpList_append_own_at _ rfl (.tmp 51) (.tmp 56) 22 rfl wr.heap.size 25 i0 _ 2 32 Try.underlying22 hi0 hz0 hz1 hz2 rfl (by decide) (.slice A8 (0 + k) c8) (0 + k) ([] ++ flatRh (hdRx (O.take k))) rfl (HO1.out.alloc _) ⟨w1.heap.size, 0, none⟩ 1 1 [.slice xA xn xc, .int .i64 xt] rfl rfl (by exact lit_cells _ #[.slice xA xn xc, .int .i64 xt] _ _ rfl) (by simp [Value.oneCell']) (by unfold maxLen; omega) (by omega) (by simp; omega) ?_; intro v2 w2 hown2 hg2 hx2 hat2))
            have hB2 : Below wr.heap.size wr w2 := Below.grown (hB1.alloc hs1w _) hg2 (by simp; omega) HOB1.out
            obtain ⟨A9, c9, rfl⟩ := slice_of_own hown2
            have HOB2 : Hid (∀ g, (Value.slice A9 (0 + k + 1) c9).ownBlock = some g → wr.heap.size ≤ g) := fun g hg => (hown2.lt g hg).1
            have HO2 := Lib.hid hown2
            have hs2w := hB2.size
            clear hown2 hg2 hx2 hat2 s0 s1 hB1
            go_upto_region 18 with (first | (at_builtin; refine wpList_append_lst _ rfl (.tmp 58) (.tmp 61) 22 rfl wr.heap.size 25 i0 _ 2 32 Try.underlying22 hi0 hz0 hz1 hz2 rfl (by decide) (.slice A9 (0 + k + 1) c9) (0 + k + 1) (([] ++ flatRh (hdRx (O.take k))) ++ [.slice xA xn xc, .int .i64 xt]) rfl HO2.out wr.heap.size A6 (j - k) (c5 - k) (flatRh (hdRx (O.drop k))) rfl (HS2.out.lst.below hB2) (flatRh_one _) (by unfold maxLen; omega) (by omega) hs2w ?_; intro v3 w3 hown3 hg3 hx3))
            have hB3 : Below wr.heap.size wr w3 := Below.grown hB2 hg3 hs2w HOB2.out
            obtain ⟨x, hx⟩ : ∃ x : Rx, x = ⟨⟨xA, xn, xc, xt⟩, xd⟩ := ⟨_, rfl⟩
            obtain ⟨O2, hO2⟩ : ∃ O2, O.take k ++ [x] ++ O.drop k = O2 := ⟨_, rfl⟩
            have hl2 : O2.length = j + 1 := by rw [← hO2, put_len _ _ (by rw [HMm.out]; exact hkj), HMm.out]
            have hle : 0 + k + 1 + (j - k) = O2.length := by omega
            have hfl : ([] ++ flatRh (hdRx (O.take k))) ++ [.slice xA xn xc, .int .i64 xt] ++ flatRh (hdRx (O.drop k)) = flatRh (hdRx O2) := by rw [← hO2, put_flat, hx]
            rw [hle, hfl] at hown3
            obtain ⟨A7, c7, rfl⟩ := slice_of_own hown3
            have hmp : O2.map Rx.rt = (O.map Rx.rt).take k ++ [(xd, xt)] ++ (O.map Rx.rt).drop k := by rw [← hO2, put_map, hx]; rfl
            have hxL : x ∈ L := by rw [hx]; exact HXL.out
            have hBw3 := hBw.trans (hB3.mono hBw.size)
            have hBr3 := hBr.trans (hB3.mono hBr.size)
            have HOW := Lib.hid (own_downS hown3 hBw.size)
            have HOK2 : Hid (∀ y ∈ O2, y.ok w3) := fun y hy => by
              rw [← hO2] at hy
              rcases put_mem hy with hy | rfl
              · exact (HOK.out y hy).below hBr3
              · exact (HOKL.out _ hxL).below hBw3
            have HS2' : Hid (SrtT (O2.map Rx.rt)) := by
              show SrtT _
              rw [hmp]
              exact srt_put HS.out HLO.out (fun a h1 h2 => HHI.out a h1 (by rw [← HML.out]; exact h2)) (fun a h2 => had_no HHD.out a (by rw [← HML.out]; exact h2)) (by rw [HML.out]; exact hkj)
            have HM2 : Hid (∀ z ∈ O2.map Rx.rt, Fst ((L.take (i + 1)).map Rx.rt) z) := fun z hz => by
              rw [hmp] at hz
              rw [HTK.out]
              rcases put_mem hz with hz | rfl
              · exact fst_app.2 (.inl (HM.out z hz))
              · refine fst_app.2 (.inr ⟨rfl, fun y hy h0 => ?_⟩)
                obtain ⟨u, hu, hyu⟩ := HZ.out y hy
                obtain ⟨a, ha, e⟩ := List.getElem_of_mem hu
                have h1 := had_no HHD.out a (by rw [← HML.out]; exact ha)
                rw [List.getD_eq_getElem?_getD, List.getElem?_eq_getElem ha] at h1
                refine h1 ?_
                show cT (O.map Rx.rt)[a] _ = 0
                rw [e, ← cT_eqv hyu]
                exact h0
            have HZ2 : Hid (∀ z ∈ (L.take (i + 1)).map Rx.rt, ∃ y ∈ O2.map Rx.rt, cT z y = 0) := HZX.out _ (fun z hz => by rw [hmp]; exact mem_put (.inl hz)) ⟨(xd, xt), by rw [hmp]; exact mem_put (.inr rfl), by have := cT_anti (xd, xt) (xd, xt); omega⟩
            clear hown3 hg3 hx3 hfl hmp hO2 hB3 hB2 hBr hBr3 hBw HOB1 HOB2 z1 z2 hle hx hxL
            rw [hl2] at HOW
            go_wp2_with fail
            go_roundw
            case rel => exact ⟨i + 1, O2, A7, c7, by go_num, by omega, by rw [hl2], by rw [hl2]; exact HOW.out, HOK2.out, HS2'.out, HM2.out, HZ2.out, by omega, hBw3⟩
            case measure => simp [intOf]; omega
    · obtain rfl : i = n := by omega
      have HB := Lib.hid hB
      have HC := rcopy13_any A5 O.length c5 O wr rfl (by omega) (Sl.of_own HO.out) HOK.out
      clear hB
      go_wp2_with fail
      refine HC.mono ?_
      rintro e w' ⟨v, rfl, hro, hb⟩
      go_wp2_with fail
      go_ret
      refine ⟨v, O.map Rx.rt, rfl, hro.down HB.out.size, HS.out, (fun z hz => by have h := HM.out z hz; rwa [List.take_of_length_le (by rw [HL.out]; exact Nat.le_refl _)] at h), fun z hz => ?_, HB.out.trans (hb.mono HB.out.size)⟩
      have hz' := HZ.out z
      rw [List.take_of_length_le (by rw [HL.out]; exact Nat.le_refl _)] at hz'
      exact hz' hz
theorem fst_one {l : List Rtp} {x y : Rtp} (h : Fst l x) (h' : Fst l y) (h0 : cT x y = 0) : x = y := by
  unfold Fst at h h'
  rw [filter_eqv h0, h'] at h
  exact (Option.some.inj h).symm
/-- The document's Sort hands back what the program's does. -/
theorem sortP_ds {w w' : World} {l : List Rtp} {e : Ending} (h : SortP w l e w') : ∃ v, e = .returned v ∧ RO w' w.heap.size v (compactT (sortT l)) ∧ Below w.heap.size w w' := by
  obtain ⟨v, R, rfl, h1, h2, h3, h4, h5⟩ := h
  have hd : Ds l R := ⟨h2, fun x => ⟨h3 x, fun hx => by
    obtain ⟨y, hy, h0⟩ := h4 x hx.mem
    have := fst_one hx (h3 y hy) h0
    rw [this]; exact hy⟩⟩
  rw [(ds_sort l).one hd]
  exact ⟨v, rfl, h1, h5⟩
end Go.Proofs.Ytbhhkaaidhapbaa
