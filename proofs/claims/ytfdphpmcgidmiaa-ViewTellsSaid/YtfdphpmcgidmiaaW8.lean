/- Contracts and plain facts, several texts of mine in one: Ref11b. No condition. -/
import Derived.Test.YtfdphpmcgidmiaaW7

/- The document's own edges: All, Bare. -/
namespace Go.Proofs.Ytfdphpmcgidmiaa
open Go.ChangeShapes Go.WideShapes Go.ChangeAt Go.RowKit Go.Sort
set_option linter.unusedSimpArgs false
set_option linter.unusedVariables false
def insE (s : List Ed) (k : Nat) (x : Ed) : List Ed := s.take k ++ [x] ++ s.drop k
theorem insE_length {s : List Ed} {k : Nat} (x : Ed) (h : k ≤ s.length) : (insE s k x).length = s.length + 1 := by
  unfold insE
  simp only [List.length_append, List.length_take, List.length_drop, List.length_cons, List.length_nil]
  omega
theorem insE_all (s : List Ed) (x : Ed) : insE s s.length x = s ++ [x] := by unfold insE; simp
theorem gEd_elem {s : List Ed} {p : Nat} (h : p < s.length) : gEd s p = s[p] := by
  unfold gEd
  rw [List.getD_eq_getElem?_getD, List.getElem?_eq_getElem h]; rfl
theorem insE_parts {s : List Ed} {p : Nat} (x : Ed) (h : p < s.length) : insE s (p + 1) x = s.take p ++ gEd s p :: x :: s.drop (p + 1) ∧ insE s p x = s.take p ++ x :: gEd s p :: s.drop (p + 1) := by
  unfold insE
  constructor
  · rw [List.take_succ_eq_append_getElem h, gEd_elem h, List.append_assoc, List.append_assoc]; rfl
  · rw [List.drop_eq_getElem_cons h, gEd_elem h]; simp
theorem insE_get {s : List Ed} {p : Nat} (x : Ed) (h : p < s.length) : gEd (insE s (p + 1) x) p = gEd s p ∧ gEd (insE s (p + 1) x) (p + 1) = x := by
  rw [(insE_parts x h).1]
  have hl : (s.take p).length = p := by rw [List.length_take]; omega
  constructor
  · show List.getD _ _ _ = _
    rw [List.getD_eq_getElem?_getD, List.getElem?_append_right (by omega), hl, Nat.sub_self]; rfl
  · show List.getD _ _ _ = _
    rw [List.getD_eq_getElem?_getD, List.getElem?_append_right (by omega), hl, show p + 1 - p = 1 by omega]; rfl
theorem insE_swap {s : List Ed} {p : Nat} (x : Ed) (h : p < s.length) : ((insE s (p + 1) x).set p x).set (p + 1) (gEd s p) = insE s p x := by
  obtain ⟨e1, e2⟩ := insE_parts x h
  have hl : (s.take p).length = p := by rw [List.length_take]; omega
  rw [e1, e2, List.set_append, if_neg (by omega), hl, Nat.sub_self, List.set_cons_zero, List.set_append, if_neg (by omega), hl, show p + 1 - p = 1 by omega]
  rfl
theorem insE_sorted {s : List Ed} {k : Nat} {x : Ed} (hs : s.Pairwise (fun a b => a.id ≤ b.id)) (hk : k ≤ s.length) (hhi : ∀ j, k ≤ j → j < s.length → x.id < (gEd s j).id) (hlo : k = 0 ∨ (gEd s (k - 1)).id ≤ x.id) : (insE s k x).Pairwise (fun a b => a.id ≤ b.id) := by
  have hp := List.pairwise_iff_getElem.1 hs
  unfold insE
  have hcut := hs
  rw [← List.take_append_drop k s, List.pairwise_append] at hcut
  have hA : ∀ a ∈ s.take k, a.id ≤ x.id := fun a ha => by
    obtain ⟨j, hj, rfl⟩ := List.mem_take_iff_getElem.1 ha
    rcases hlo with h0 | h0
    · omega
    · rw [gEd_elem (by omega : k - 1 < s.length)] at h0
      by_cases e : j = k - 1
      · subst e; exact h0
      · have := hp j (k - 1) (by omega) (by omega) (by omega)
        omega
  have hBb : ∀ b ∈ s.drop k, x.id ≤ b.id := fun b hb => by
    obtain ⟨j, hj, rfl⟩ := List.mem_drop_iff_getElem.1 hb
    have := hhi (k + j) (by omega) (by omega)
    rw [gEd_elem (by omega : k + j < s.length)] at this
    omega
  rw [List.append_assoc, List.pairwise_append]
  refine ⟨hcut.1, ?_, fun a ha b hb => ?_⟩
  · rw [List.singleton_append, List.pairwise_cons]
    exact ⟨hBb, hcut.2.1⟩
  · rw [List.singleton_append, List.mem_cons] at hb
    rcases hb with rfl | hb
    · exact hA a ha
    · exact hcut.2.2 a ha b hb
theorem insE_perm (s : List Ed) (k : Nat) (x : Ed) : (insE s k x).Perm (s ++ [x]) := by
  unfold insE
  rw [List.append_assoc]
  refine (List.Perm.append_left _ List.perm_append_comm).trans ?_
  rw [← List.append_assoc, List.take_append_drop]
theorem own_base11 {w : World} {b b' : Nat} {e : TypeId} {s n : Nat} {v : Value} {xs : List Value} (h : w.ownsRow b e s v n xs) (hb : b' ≤ b) : w.ownsRow b' e s v n xs :=
  ⟨h.1, h.2.imp id fun ⟨g, cap, cur, e, hg, r⟩ => ⟨g, cap, cur, e, Nat.le_trans hb hg, r⟩⟩
theorem pair_at {m : List Ed} (h : m.Pairwise (fun a b => a.id ≤ b.id)) : ∀ i j, i < j → j < m.length → (gEd m i).id ≤ (gEd m j).id := fun i j hij hj => by
  rw [gEd_elem hj, gEd_elem (by omega : i < m.length)]
  exact List.pairwise_iff_getElem.1 h i j (by omega) hj hij
set_option maxHeartbeats 16000000 in
set_option maxRecDepth 100000 in
theorem rall11_any (A1 : Option Addr) (n1 c1 : Nat) (cs : List Co) (A : Option Addr) (n c : Nat) (rs : List Rg) (clk ver : Int) (A2 : Option Addr) (n2 c2 : Nat) (bk : List Bk) (cl : Int) (w : World) (hd1 : cs.length = n1) (hn1 : n1 ≤ 100000) (hd : rs.length = n) (hn : n ≤ 1000000) (hd2 : bk.length = n2) (hn2 : n2 ≤ 100000) (h1 : Sl w w.heap.size 6 A1 n1 c1 (flatCo cs)) (h : Sl w w.heap.size 5 A n c (flatRg rs)) (h2 : Sl w w.heap.size 4 A2 n2 c2 (flatBk bk)) (hr2 : Kb.rightB bk = true) (hcl : inB cl 0 2 = true) :
    Calls Try.prog 18 #[.agg #[.slice A1 n1 c1, .slice A n c, .int .i64 clk, .int .i64 ver], .slice A2 n2 c2, .int .i64 cl] w fun e w' => ∃ v m, e = .returned v ∧ m.Perm (allL rs bk cl cs) ∧ (∀ i j, i < j → j < m.length → (gEd m i).id ≤ (gEd m j).id) ∧ w'.ownsRow w.heap.size 34 8 v m.length (flatEd m) ∧ Below w.heap.size w w' := by
  obtain ⟨i0, hi0, hz0, hz1, hz2⟩ := info_parts infoEd
  have hB : Below w.heap.size w (w.alloc (.cells #[.slice A1 n1 c1, .slice A n c, .int .i64 clk, .int .i64 ver] 25)) := by (repeat (first | exact Below.refl _ _ | refine Below.alloc ?_ (by first | omega | (simp; done) | (simp; omega)) _ | refine Below.setCell ?_ (by first | omega | (simp; done) | (simp; omega)) _ | refine Below.drew ?_))
  have HP := Lib.hid (Blok.new w 25 #[.slice A1 n1 c1, .slice A n c, .int .i64 clk, .int .i64 ver])
  have HL := Lib.hid (h.up hB)
  have HL1 := Lib.hid (h1.up hB)
  have HL2 := Lib.hid (h2.up hB)
  have HD := Lib.hid hd
  have HD1 := Lib.hid hd1
  have HD2 := Lib.hid hd2
  have HR2 := Lib.hid hr2
  have HCL := Lib.hid hcl
  have HB := Lib.hid hB
  have hsz : w.heap.size ≤ (w.alloc (.cells #[.slice A1 n1 c1, .slice A n c, .int .i64 clk, .int .i64 ver] 25)).heap.size := hB.size
  clear h h1 h2 hd hd1 hd2 hr2 hcl hB
  go_enter Try.func18, Try.ntmps18
  go_upto_region 1 with fail
  generalize w.alloc (.cells #[.slice A1 n1 c1, .slice A n c, .int .i64 clk, .int .i64 ver] 25) = w1 at *
  go_wp2_with fail
  go_loopw [7, 8] (fun ev iv wr => ∃ (es : List Ed) (m i : Nat), iv = .int .i64 i ∧ i ≤ n1 ∧ m ≤ i ∧ Hid (es.length = m) ∧ Hid (es.Perm (allL rs bk cl (cs.take i))) ∧ Hid (es.Pairwise (fun a b => a.id ≤ b.id)) ∧ wr.ownsRow w1.heap.size 34 8 ev m (flatEd es) ∧ Below w1.heap.size w1 wr) (fun _ iv _ => n1 - (intOf iv).toNat)
  case atStart => exact ⟨[], 0, 0, rfl, by omega, by omega, rfl, by simp [Hid, allL], List.Pairwise.nil, World.ownsRow_nil _ _ _ _, Below.refl _ _⟩
  case round =>
    obtain ⟨es, m, i, rfl, hi, hm, HE, HF, HS, hown, hC⟩ := hrel
    have hsc := hC.size
    have hP := HP.out.below hC HP.out.lt
    obtain ⟨Ae, ce, rfl⟩ := slice_of_own hown
    by_cases hin : i < n1
    · obtain ⟨ad, rfl, hab, c0, c1', c2', c3, c4, c5⟩ := (HL1.out.below hC).lst.atCo HD1.out hin
      have hst := take_snocCo (l := cs) (i := i) (by rw [HD1.out]; exact hin)
      obtain ⟨x, hx⟩ : ∃ x, gCo cs i = x := ⟨_, rfl⟩
      rw [hx] at c0 c1' c2' c3 c4 c5 hst
      have HST := Lib.hid hst
      have y0 : wr.cell? ⟨w.heap.size, 0, none⟩ = some (.slice (some ad) n1 c1) := hP.cell 0
      have y1 : wr.cell? ⟨w.heap.size, 1, none⟩ = some (.slice A n c) := hP.cell 1
      have y2 : wr.cell? ⟨w.heap.size, 2, none⟩ = some (.int .i64 clk) := hP.cell 2
      have y3 : wr.cell? ⟨w.heap.size, 3, none⟩ = some (.int .i64 ver) := hP.cell 3
      have lt_p := hP.lt
      obtain ⟨oe, ho⟩ : ∃ o, edgeF rs bk x cl = o := ⟨_, rfl⟩
      obtain ⟨y, hy⟩ : ∃ y, oe.getD zeroEd = y := ⟨_, rfl⟩
      have HO := Lib.hid ho
      have HY := Lib.hid hy
      have HEG := Lib.hid (fun (w' : World) (hb : Below wr.heap.size wr w') => redge_any (some ad) n1 c1 A n c rs clk ver A2 n2 c2 bk x cl w' HD.out hn HD2.out hn2 ((HL.out.up hC).up hb) ((HL2.out.up hC).up hb) HR2.out HCL.out oe HO.out y HY.out)
      have hw2 : IntKind.i64.wrap ((i : Int) + 1) = (i : Int) + 1 := IntWalk.i64_in _ (by omega)
      clear hx hst ho hy hP hab
      go_wp2_with fail
      try simp only [List.append]
      refine wp_region_newvar (m := 12) (s := 13) (dm := 9) (dv := 30) (T := 34) (zs := #[.int .i64 0, .int .i64 0, .int .i64 0, .int .i64 0, .int .i64 0, .int .i64 0, .int .i64 0, .int .i64 0]) (cs := #[.int .i64 y.id, .int .i64 y.fr, .int .i64 y.tn, .int .i64 y.op, .int .i64 y.en, .int .i64 y.ra, .int .i64 y.ow, .int .i64 y.ro]) [0, 1, 2, 3, 4, 5, 6, 7, 8, 9, 10, 11, 14] (by kernel_rfl) (NewVar.of rfl rfl rfl (by kernel_rfl)) (by kernel_rfl) rfl (fun a w => by simp [execOp, go_sem]) rfl (by kernel_rfl) (by kernel_rfl) ?_
      apply Exists.intro
      refine ⟨?_, ?_, ?_, ?_, ?_⟩
      · intro wb hwb
        have q_y0 := cell_up y0 hwb
        have q_y1 := cell_up y1 hwb
        have q_y2 := cell_up y2 hwb
        have q_y3 := cell_up y3 hwb
        have q_c0 := cell_up c0 hwb
        have q_c1' := cell_up c1' hwb
        have q_c2' := cell_up c2' hwb
        have q_c3 := cell_up c3 hwb
        have q_c4 := cell_up c4 hwb
        have q_c5 := cell_up c5 hwb
        simp only [pickL, List.flatMap_cons, List.flatMap_nil, List.drop_succ_cons, List.drop_zero, List.take_succ_cons, List.take_zero, List.append_nil, List.cons_append, List.nil_append]
        repeat (go_big_quiet_step (((go_at_call 13; with_reducible exact Calls.regrown_of (HEG.out _ (up_below hwb _ _))))))
        exact wpQuiet_nil rfl
      · rfl
      · simp
      · rfl
      intro bX wX hX
      go_simp
      obtain ⟨_, hY, hb⟩ := hX
      clear y0 y1 y2 y3 lt_p c0 c1' c2' c3 c4 c5 HEG
      replace hown := own_below hown hb
      replace hC := hC.trans (hb.mono hsc)
      replace hsc := hC.size
      clear hb
      cases oe with
      | none =>
        have HNX : Hid (es.Perm (allL rs bk cl (cs.take (i + 1)))) := by
          show es.Perm _
          rw [HST.out]; unfold allL; rw [List.filterMap_append]
          have h := HF.out
          unfold allL at h
          simpa [HO.out] using h
        clear HO HY hY
        go_wp2_with fail
        go_roundw
        case rel => exact ⟨es, m, i + 1, by go_num, by omega, by omega, HE, HNX, HS, hown, hC⟩
        case measure => simp [intOf]; omega
      | some y' =>
        obtain rfl : y' = y := HY.out
        have HNX : Hid ((es ++ [y']).Perm (allL rs bk cl (cs.take (i + 1)))) := by
          show (es ++ [y']).Perm _
          rw [HST.out]; unfold allL; rw [List.filterMap_append]
          have h := HF.out
          unfold allL at h
          have h2 : [x].filterMap (fun c => edgeF rs bk c cl) = [y'] := by simp [HO.out]
          rw [h2]
          exact h.append_right _
        clear HO HY
        have x0 : wX.cell? ⟨bX, 0, none⟩ = some (.int .i64 y'.id) := hY.cell 0
        have x1 : wX.cell? ⟨bX, 1, none⟩ = some (.int .i64 y'.fr) := hY.cell 1
        have x2 : wX.cell? ⟨bX, 2, none⟩ = some (.int .i64 y'.tn) := hY.cell 2
        have x3 : wX.cell? ⟨bX, 3, none⟩ = some (.int .i64 y'.op) := hY.cell 3
        have x4 : wX.cell? ⟨bX, 4, none⟩ = some (.int .i64 y'.en) := hY.cell 4
        have x5 : wX.cell? ⟨bX, 5, none⟩ = some (.int .i64 y'.ra) := hY.cell 5
        have x6 : wX.cell? ⟨bX, 6, none⟩ = some (.int .i64 y'.ow) := hY.cell 6
        have x7 : wX.cell? ⟨bX, 7, none⟩ = some (.int .i64 y'.ro) := hY.cell 7
        have lt_x := hY.lt
        go_wp2_with (at_builtin; refine wpList_append_own _ rfl _ _ 29 rfl w1.heap.size 34 i0 _ 8 64 Try.underlying29 hi0 hz0 hz1 hz2 rfl (by decide) _ _ _ rfl (hown.alloc _) ⟨wX.heap.size, 0, none⟩ 1 1 [.int .i64 y'.id, .int .i64 y'.fr, .int .i64 y'.tn, .int .i64 y'.op, .int .i64 y'.en, .int .i64 y'.ra, .int .i64 y'.ow, .int .i64 y'.ro] rfl rfl (by exact lit_cells wX #[.int .i64 y'.id, .int .i64 y'.fr, .int .i64 y'.tn, .int .i64 y'.op, .int .i64 y'.en, .int .i64 y'.ra, .int .i64 y'.ow, .int .i64 y'.ro] _ _ rfl) (by simp [Value.oneCell']) (by unfold maxLen; omega) (by omega) (by simp; omega) ?_; intro v' w3 hown' hgrow3 hnil3)
        have hbN := (hC.alloc hsc _).grown hgrow3 (by simp; omega) (fun q hq => (hown.lt q hq).1)
        obtain ⟨gg, gc, rfl, hgc1, hgc2, hgc3, hgc4⟩ := own_at hown' (by omega)
        have hgw2 : w3.ownsRow w1.heap.size 34 8 (.slice (some ⟨gg, 0, none⟩) (m + 1) gc) (m + 1) (flatEd (insE es m y')) := by
          rw [← HE.out, insE_all, HE.out, flatEd_append, flatEd_one_]; simpa using hown'
        clear hgrow3 hnil3 hown hown' x0 x1 x2 x3 x4 x5 x6 x7 lt_x hC hsc hY
        unfold maxLen at hgc2
        go_loopw [11] (fun kv wr => ∃ j : Nat, kv = .int .i64 j ∧ j ≤ m ∧ Hid (∀ q, j ≤ q → q < m → y'.id < (gEd es q).id) ∧ wr.ownsRow w1.heap.size 34 8 (.slice (some ⟨gg, 0, none⟩) (m + 1) gc) (m + 1) (flatEd (insE es j y')) ∧ Below w1.heap.size w1 wr) (fun kv _ => (intOf kv).toNat)
        case atStart => exact ⟨m, rfl, Nat.le_refl _, (fun q h1 h2 => by omega), hgw2, hbN⟩
        case round =>
          clear hgw2 hbN
          obtain ⟨j, rfl, hj, HJ, hgx, hB⟩ := hrel
          have hs := hB.size
          have hcase : j = 0 ∨ ∃ p, j = p + 1 := by cases j with | zero => exact .inl rfl | succ p => exact .inr ⟨p, rfl⟩
          have hlen := insE_length (s := es) (k := j) y' (by rw [HE.out]; exact hj)
          rw [HE.out] at hlen
          rcases hcase with rfl | ⟨p, rfl⟩
          · have hgt : decide (((0 : Nat) : Int) > 0) = false := by simp
            have HSN : Hid ((insE es 0 y').Pairwise (fun a b => a.id ≤ b.id)) := insE_sorted HS.out (by omega) (fun q h1 h2 => HJ.out q h1 (by rw [HE.out] at h2; exact h2)) (.inl rfl)
            have HPN : Hid ((insE es 0 y').Perm (allL rs bk cl (cs.take (i + 1)))) := (insE_perm es 0 y').trans HNX.out
            try simp only [Int.natCast_zero]
            go_wp2_with fail
            try simp only [List.append]
            first | refine wp_region_text_below ?_ | refine wp_region_quiet_below (by kernel_rfl) (by kernel_rfl) ?_
            repeat (go_big_quiet_step ((fail)))
            refine wpQuiet_nil ?_
            intro _ hqw
            obtain ⟨pq, hqw⟩ := hqw
            subst hqw
            have hbel := below_regrown wr pq.d pq.os
            have hg2 := own_below hgx hbel
            have hB2 := hB.trans (hbel.mono hB.size)
            clear hbel hgx hB hs
            generalize grow (redrawn wr pq.d) pq.os = wq at *
            go_wp2_with fail
            go_roundw
            case rel => exact ⟨insE es 0 y', m + 1, i + 1, by go_num, by omega, by omega, hlen, HPN, HSN, hg2, hB2⟩
            case measure => simp [intOf]; omega
          · have hpm : p < es.length := by rw [HE.out]; omega
            obtain ⟨z, hz⟩ : ∃ z, gEd es p = z := ⟨_, rfl⟩
            have HGET := Lib.hid (insE_get (s := es) (p := p) y' hpm)
            have hat0 := ownEd_at hgx hlen (k := p) (by omega)
            have hat1 := ownEd_at hgx hlen (k := p + 1) (by omega)
            rw [HGET.out.1, hz] at hat0
            rw [HGET.out.2] at hat1
            obtain ⟨a0, _⟩ := hat0
            obtain ⟨d0, _⟩ := hat1
            have HZ := Lib.hid hz
            have hwr : IntKind.i64.wrap (((p + 1 : Nat) : Int) - 1) = (p : Int) := by rw [show ((p + 1 : Nat) : Int) - 1 = (p : Int) by omega]; exact IntWalk.i64_in _ (by omega)
            have hwr2 : IntKind.i64.wrap ((p : Int) + 1 - 1) = (p : Int) := by rw [show (p : Int) + 1 - 1 = (p : Int) by omega]; exact IntWalk.i64_in _ (by omega)
            have hgt : decide ((((p + 1 : Nat)) : Int) > 0) = true := decide_eq_true (by omega)
            have hpI : (p : Int) < ((m + 1 : Nat) : Int) := by omega
            have hp1 : ((p + 1 : Nat) : Int) < ((m + 1 : Nat) : Int) := by omega
            have hp0 : (0 : Int) ≤ (p : Int) := by omega
            clear hz
            by_cases hxy : y'.id < z.id
            · have g2 : decide (z.id > y'.id) = true := decide_eq_true hxy
              have HJ2 : Hid (∀ q, p ≤ q → q < m → y'.id < (gEd es q).id) := fun q h1 h2 => by
                by_cases e : q = p
                · rw [e, HZ.out]; exact hxy
                · exact HJ.out q (by omega) h2
              go_wp2_with fail
              have q_a0 := fun d os => cell_regrown a0 d os
              have q_d0 := fun d os => cell_regrown d0 d os
              try simp only [List.append]
              first | refine wp_region_text_below ?_ | refine wp_region_quiet_below (by kernel_rfl) (by kernel_rfl) ?_
              repeat (go_big_quiet_step ((fail)))
              refine wpQuiet_nil ?_
              intro _ hqw
              obtain ⟨pq, hqw⟩ := hqw
              subst hqw
              clear q_a0 q_d0
              have hbel := below_regrown wr pq.d pq.os
              have hg2 := own_below hgx hbel
              have hB2 := hB.trans (hbel.mono hB.size)
              clear hbel hgx hB hs a0 d0
              generalize grow (redrawn wr pq.d) pq.os = wq at *
              have hs2 := hB2.size
              have hat0 := ownEd_at hg2 hlen (k := p) (by omega)
              rw [HGET.out.1, HZ.out] at hat0
              obtain ⟨a0, a1, a2, a3, a4, a5, a6, a7⟩ := hat0
              go_upto_region 11 with fail
              clear a0 a1 a2 a3 a4 a5 a6 a7
              have hbx : Below wq.heap.size wq (wq.alloc (.cells #[.int .i64 z.id, .int .i64 z.fr, .int .i64 z.tn, .int .i64 z.op, .int .i64 z.en, .int .i64 z.ra, .int .i64 z.ow, .int .i64 z.ro] 34)) := by (repeat (first | exact Below.refl _ _ | refine Below.alloc ?_ (by first | omega | (simp; done) | (simp; omega)) _ | refine Below.setCell ?_ (by first | omega | (simp; done) | (simp; omega)) _ | refine Below.drew ?_))
              have hX2 := Blok.new wq 34 #[.int .i64 z.id, .int .i64 z.fr, .int .i64 z.tn, .int .i64 z.op, .int .i64 z.en, .int .i64 z.ra, .int .i64 z.ow, .int .i64 z.ro]
              have hg3 := own_below hg2 hbx
              have hgq := (hg2.lt gg rfl).2
              have hB3 := hB2.trans (hbx.mono hs2)
              have hs3 := hB3.size
              clear hbx hg2 hB2 hs2
              generalize wq.alloc (.cells #[.int .i64 z.id, .int .i64 z.fr, .int .i64 z.tn, .int .i64 z.op, .int .i64 z.en, .int .i64 z.ra, .int .i64 z.ow, .int .i64 z.ro] 34) = wz at *
              generalize wq.heap.size = bz at *
              have hat1 := ownEd_at hg3 hlen (k := p + 1) (by omega)
              rw [HGET.out.2] at hat1
              obtain ⟨d0, d1, d2, d3, d4, d5, d6, d7⟩ := hat1
              obtain ⟨a0, a1, a2, a3, a4, a5, a6, a7⟩ := ownEd_at hg3 hlen (k := p) (by omega)
              have z0 := hg3.frozenAt (p * 8)
              have z1 := hg3.frozenAt (p * 8 + 1)
              have z2 := hg3.frozenAt (p * 8 + 2)
              have z3 := hg3.frozenAt (p * 8 + 3)
              have z4 := hg3.frozenAt (p * 8 + 4)
              have z5 := hg3.frozenAt (p * 8 + 5)
              have z6 := hg3.frozenAt (p * 8 + 6)
              have z7 := hg3.frozenAt (p * 8 + 7)
              obtain ⟨hS1, hG1⟩ := ownEd_store hg3 p y'
              go_upto_region 12 with fail
              clear z0 z1 z2 z3 z4 z5 z6 z7 a0 a1 a2 a3 a4 a5 a6 a7 d0 d1 d2 d3 d4 d5 d6 d7
              have hX3 := hX2.grown hG1 (by simp only [ne_eq, Option.some.injEq]; omega)
              have hB4 := hB3.grown hG1 hs3 (fun k hk => by injection hk with hk; omega)
              have hs4 := hB4.size
              clear hG1 hg3 hX2 hB3 hs3
              generalize ((((((((wz.setCell ⟨gg, p * 8, none⟩ (.int .i64 y'.id)).setCell ⟨gg, p * 8 + 1, none⟩ (.int .i64 y'.fr)).setCell ⟨gg, p * 8 + 2, none⟩ (.int .i64 y'.tn)).setCell ⟨gg, p * 8 + 3, none⟩ (.int .i64 y'.op)).setCell ⟨gg, p * 8 + 4, none⟩ (.int .i64 y'.en)).setCell ⟨gg, p * 8 + 5, none⟩ (.int .i64 y'.ra)).setCell ⟨gg, p * 8 + 6, none⟩ (.int .i64 y'.ow)).setCell ⟨gg, p * 8 + 7, none⟩ (.int .i64 y'.ro)) = wu at *
              have hlen2 : ((insE es (p + 1) y').set p y').length = m + 1 := by simpa using hlen
              obtain ⟨d0, d1, d2, d3, d4, d5, d6, d7⟩ := ownEd_at hS1 hlen2 (k := p + 1) (by omega)
              have z0 := hS1.frozenAt ((p + 1) * 8)
              have z1 := hS1.frozenAt ((p + 1) * 8 + 1)
              have z2 := hS1.frozenAt ((p + 1) * 8 + 2)
              have z3 := hS1.frozenAt ((p + 1) * 8 + 3)
              have z4 := hS1.frozenAt ((p + 1) * 8 + 4)
              have z5 := hS1.frozenAt ((p + 1) * 8 + 5)
              have z6 := hS1.frozenAt ((p + 1) * 8 + 6)
              have z7 := hS1.frozenAt ((p + 1) * 8 + 7)
              have e0 : wu.cell? ⟨bz, 0, none⟩ = some (.int .i64 z.id) := hX3.cell 0
              have e1 : wu.cell? ⟨bz, 1, none⟩ = some (.int .i64 z.fr) := hX3.cell 1
              have e2 : wu.cell? ⟨bz, 2, none⟩ = some (.int .i64 z.tn) := hX3.cell 2
              have e3 : wu.cell? ⟨bz, 3, none⟩ = some (.int .i64 z.op) := hX3.cell 3
              have e4 : wu.cell? ⟨bz, 4, none⟩ = some (.int .i64 z.en) := hX3.cell 4
              have e5 : wu.cell? ⟨bz, 5, none⟩ = some (.int .i64 z.ra) := hX3.cell 5
              have e6 : wu.cell? ⟨bz, 6, none⟩ = some (.int .i64 z.ow) := hX3.cell 6
              have e7 : wu.cell? ⟨bz, 7, none⟩ = some (.int .i64 z.ro) := hX3.cell 7
              have lt_e := hX3.lt
              obtain ⟨hS2, hG2⟩ := ownEd_store hS1 (p + 1) z
              have hrow : (((insE es (p + 1) y').set p y').set (p + 1) z) = insE es p y' := by rw [← HZ.out]; exact insE_swap y' hpm
              rw [hrow] at hS2
              have hB5 := hB4.grown hG2 hs4 (fun k hk => by injection hk with hk; omega)
              clear hG2 hS1 hrow hX3
              go_upto_region 13 with fail
              clear z0 z1 z2 z3 z4 z5 z6 z7 d0 d1 d2 d3 d4 d5 d6 d7 e0 e1 e2 e3 e4 e5 e6 e7 lt_e hB4 hs4
              generalize ((((((((wu.setCell ⟨gg, (p + 1) * 8, none⟩ (.int .i64 z.id)).setCell ⟨gg, (p + 1) * 8 + 1, none⟩ (.int .i64 z.fr)).setCell ⟨gg, (p + 1) * 8 + 2, none⟩ (.int .i64 z.tn)).setCell ⟨gg, (p + 1) * 8 + 3, none⟩ (.int .i64 z.op)).setCell ⟨gg, (p + 1) * 8 + 4, none⟩ (.int .i64 z.en)).setCell ⟨gg, (p + 1) * 8 + 5, none⟩ (.int .i64 z.ra)).setCell ⟨gg, (p + 1) * 8 + 6, none⟩ (.int .i64 z.ow)).setCell ⟨gg, (p + 1) * 8 + 7, none⟩ (.int .i64 z.ro)) = wv at *
              go_wp2_with fail
              go_roundw
              case rel => exact ⟨p, by go_num, by omega, HJ2, hS2, hB5⟩
              case measure => simp [intOf]
            · have g2 : decide (z.id > y'.id) = false := decide_eq_false hxy
              have HSN : Hid ((insE es (p + 1) y').Pairwise (fun a b => a.id ≤ b.id)) := insE_sorted HS.out (by omega) (fun q h1 h2 => HJ.out q h1 (by rw [HE.out] at h2; exact h2)) (.inr (by rw [Nat.add_sub_cancel, HZ.out]; omega))
              have HPN : Hid ((insE es (p + 1) y').Perm (allL rs bk cl (cs.take (i + 1)))) := (insE_perm es (p + 1) y').trans HNX.out
              clear hxy
              go_wp2_with fail
              have q_a0 := fun d os => cell_regrown a0 d os
              have q_d0 := fun d os => cell_regrown d0 d os
              try simp only [List.append]
              first | refine wp_region_text_below ?_ | refine wp_region_quiet_below (by kernel_rfl) (by kernel_rfl) ?_
              repeat (go_big_quiet_step ((fail)))
              refine wpQuiet_nil ?_
              intro _ hqw
              obtain ⟨pq, hqw⟩ := hqw
              subst hqw
              clear q_a0 q_d0
              have hbel := below_regrown wr pq.d pq.os
              have hg2 := own_below hgx hbel
              have hB2 := hB.trans (hbel.mono hB.size)
              clear hbel hgx hB hs a0 d0
              generalize grow (redrawn wr pq.d) pq.os = wq at *
              go_wp2_with fail
              go_roundw
              case rel => exact ⟨insE es (p + 1) y', m + 1, i + 1, by go_num, by omega, by omega, hlen, HPN, HSN, hg2, hB2⟩
              case measure => simp [intOf]; omega
    · obtain rfl : i = n1 := by omega
      have y0 : wr.cell? ⟨w.heap.size, 0, none⟩ = some (.slice A1 i c1) := hP.cell 0
      have lt_p := hP.lt
      have hf := HF.out
      rw [List.take_of_length_le (by rw [HD1.out]; exact Nat.le_refl _)] at hf
      have HF2 := Lib.hid hf
      clear hf hP
      go_wp2_with fail
      go_ret
      exact ⟨_, es, rfl, HF2.out, pair_at HS.out, by rw [HE.out]; exact own_base11 hown hsz, HB.out.trans (hC.mono HB.out.size)⟩
set_option maxHeartbeats 4000000 in
set_option maxRecDepth 100000 in
theorem rbare11_any (A1 : Option Addr) (n1 c1 : Nat) (cs : List Co) (A : Option Addr) (n c : Nat) (rs : List Rg) (clk ver : Int) (w : World) (hd1 : cs.length = n1) (hn1 : n1 ≤ 100000) (hd : rs.length = n) (hn : n ≤ 1000000) (h1 : Sl w w.heap.size 6 A1 n1 c1 (flatCo cs)) (h : Sl w w.heap.size 5 A n c (flatRg rs)) :
    Calls Try.prog 20 #[.agg #[.slice A1 n1 c1, .slice A n c, .int .i64 clk, .int .i64 ver]] w fun e w' => ∃ v m, e = .returned v ∧ m.Perm (allL rs [] 0 cs) ∧ (∀ i j, i < j → j < m.length → (gEd m i).id ≤ (gEd m j).id) ∧ w'.ownsRow w.heap.size 34 8 v m.length (flatEd m) ∧ Below w.heap.size w w' := by
  have hB : Below w.heap.size w (w.alloc (.cells #[.slice A1 n1 c1, .slice A n c, .int .i64 clk, .int .i64 ver] 25)) := by (repeat (first | exact Below.refl _ _ | refine Below.alloc ?_ (by first | omega | (simp; done) | (simp; omega)) _ | refine Below.setCell ?_ (by first | omega | (simp; done) | (simp; omega)) _ | refine Below.drew ?_))
  have hP := Blok.new w 25 #[.slice A1 n1 c1, .slice A n c, .int .i64 clk, .int .i64 ver]
  have HL := Lib.hid (h.up hB)
  have HL1 := Lib.hid (h1.up hB)
  have HD := Lib.hid hd
  have HD1 := Lib.hid hd1
  have hs := hB.size
  clear h h1 hd hd1
  go_enter Try.func20, Try.ntmps20
  go_upto_region 1 with fail
  generalize w.alloc (.cells #[.slice A1 n1 c1, .slice A n c, .int .i64 clk, .int .i64 ver] 25) = w1 at *
  have y0 : w1.cell? ⟨w.heap.size, 0, none⟩ = some (.slice A1 n1 c1) := hP.cell 0
  have y1 : w1.cell? ⟨w.heap.size, 1, none⟩ = some (.slice A n c) := hP.cell 1
  have y2 : w1.cell? ⟨w.heap.size, 2, none⟩ = some (.int .i64 clk) := hP.cell 2
  have y3 : w1.cell? ⟨w.heap.size, 3, none⟩ = some (.int .i64 ver) := hP.cell 3
  have lt_p := hP.lt
  go_wp2_with fail
  refine (rall11_any A1 n1 c1 cs A n c rs clk ver none 0 0 [] 0 w1 HD1.out hn1 HD.out hn rfl (by omega) HL1.out HL.out (Sl.nil0 _ _ _) (by decide) (by decide)).mono ?_
  rintro e w2 ⟨v, m, rfl, hp, hq, hown, hb⟩
  clear y0 y1 y2 y3 lt_p
  go_wp2_with fail
  go_ret
  exact ⟨v, m, rfl, hp, hq, own_base11 hown hs, hB.trans (hb.mono hs)⟩
end Go.Proofs.Ytfdphpmcgidmiaa
