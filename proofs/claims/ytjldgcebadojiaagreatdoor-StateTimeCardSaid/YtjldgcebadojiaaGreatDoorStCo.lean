/- IndexFunc and DeleteFunc at 34-rows, the closure with a state of its own. -/
import Derived.Test.YtjldgcebadojiaaGreatDoorSlCo
namespace Go.Proofs.YtjldgcebadojiaaGreatDoor.Kc
open Go.ChangeShapes Go.WideShapes Go.ChangeAt Go.RowKit Go.Sort
set_option linter.unusedSimpArgs false
set_option linter.unusedVariables false
theorem own_same {w w' : World} {base : Nat} {e : TypeId} {size g n c : Nat} {xs : List Value} (h : w.ownsRow base e size (.slice (some ⟨g, 0, none⟩) n c) n xs) (hh : w'.heap[g]? = w.heap[g]?) : w'.ownsRow base e size (.slice (some ⟨g, 0, none⟩) n c) n xs := by
  refine ⟨h.1, ?_⟩
  rcases h.2 with hx | ⟨g', cap, cur, h1, h2, h3, rest⟩
  · exact .inl hx
  · simp only [Value.slice.injEq, Option.some.injEq, Addr.mk.injEq, and_true, true_and] at h1
    obtain ⟨rfl, rfl⟩ := h1
    exact .inr ⟨g, c, cur, rfl, h2, hh.trans h3, rest⟩
/-- A closure that tells p of the k-th of d when it is asked in a world of state k, and leaves one of state k + 1; below base nothing turns, nor does block g0; the state holds on while g0 is written, and behind new blocks. -/
structure PredS (g : FuncId) (lb : Array Value) (g0 base : Nat) (d : List Co) (p : Co → Bool) (R : Nat → World → Prop) : Prop where
  run : ∀ vals w, (callFunc g vals).run Tryz.prog w = .ok (.enter g vals) w
  tells : ∀ k, k < d.length → ∀ W w', R k W → Below W.heap.size W w' → g0 < W.heap.size → base ≤ W.heap.size → Calls Tryz.prog g (#[.agg #[.int .i64 (gCo d k).id, .int .i64 (gCo d k).fr, .int .i64 (gCo d k).tn, .int .i64 (gCo d k).st, .int .i64 (gCo d k).en, .int .i64 (gCo d k).rt]] ++ lb) w' fun e w'' => e = .returned (.bool (p (gCo d k))) ∧ R (k + 1) w'' ∧ Below base w' w'' ∧ w''.heap[g0]? = w'.heap[g0]? ∧ (∀ b, W.heap.size ≤ b → b < w'.heap.size → w''.heap[b]? = w'.heap[b]?)
  stay : ∀ k w w', R k w → w.grownBy w' (some g0) → R k w'
def qNext (q n : Nat) : Nat := if q < n then q + 1 else n
set_option maxHeartbeats 1000000 in
set_option maxRecDepth 100000 in
theorem indexS (g0 n c : Nat) (d : List Co) (g : FuncId) (lb : Array Value) (base : Nat) (p : Co → Bool) (R : Nat → World → Prop) (w : World) (hd : d.length = n) (hn : n ≤ 1000000) (hown : w.ownsRow base 34 6 (.slice (some ⟨g0, 0, none⟩) n c) n (flatCo d)) (hgl : g0 < w.heap.size) (hbs : base ≤ w.heap.size) (hp : PredS g lb g0 base d p R) (hR : R 0 w) (q : Nat) (hq : q ≤ n) (hlow : ∀ j, j < q → p (gCo d j) = false) (hhit : q < n → p (gCo d q) = true) :
    Calls Tryz.prog 54 #[.slice (some ⟨g0, 0, none⟩) n c, .func (.func g) #[] lb] w fun e w' => e = .returned (.int .i64 (idxOf q n)) ∧ R (qNext q n) w' ∧ Below base w w' ∧ w'.heap[g0]? = w.heap[g0]? := by
  have HL := Lib.hid hlow
  have HH := Lib.hid hhit
  have HP := Lib.hid hp
  have HR := Lib.hid hR
  have HD := Lib.hid hd
  have hcf := hp.run
  clear hlow hhit hp hR
  go_enter Tryz.func54, Tryz.ntmps54
  go_wp2
  go_loopw [8] (fun i wr => ∃ k : Nat, k ≤ q ∧ i = .int .i64 k ∧ Hid (R k wr) ∧ Below base w wr ∧ Hid (wr.heap[g0]? = w.heap[g0]?)) (fun i _ => n - (intOf i).toNat)
  case atStart => exact ⟨0, by omega, rfl, HR.out, Below.refl _ _, rfl⟩
  case round =>
    obtain ⟨k, hk, rfl, HRk, hB, HG⟩ := hrel
    have hs := hB.size
    have hgw : g0 < wr.heap.size := by omega
    by_cases hkn : k < n
    · have hownk := own_same hown HG.out
      obtain ⟨c0, c1, c2, c3, c4, c5⟩ := ownCo_at hownk HD.out hkn
      have ht0 := HP.out.tells k (by have := HD.out; omega) wr wr HRk.out (Below.refl _ _) hgw (by omega)
      clear hownk
      by_cases hkq : k < q
      · have hf := HL.out k hkq
        rw [hf] at ht0
        have HT := Lib.hid ht0
        generalize gCo d k = x at *
        clear hf ht0
        go_wp2_with fail
        refine HT.out.mono ?_
        rintro e w1 ⟨rfl, hr1, hb1, hg1, _⟩
        have hB2 := hB.trans hb1
        have HR1 := Lib.hid hr1
        have HG1 : Hid (w1.heap[g0]? = w.heap[g0]?) := hg1.trans HG.out
        clear hb1 hB hr1 hg1 c0 c1 c2 c3 c4 c5 hs HT
        go_wp2
        go_roundw
        case rel => exact ⟨k + 1, by omega, by go_num, HR1.out, hB2, HG1⟩
        case measure => simp [intOf]; omega
      · obtain rfl : k = q := by omega
        have hf := HH.out hkn
        rw [hf] at ht0
        have HT := Lib.hid ht0
        generalize gCo d k = x at *
        clear hf ht0
        go_wp2_with fail
        refine HT.out.mono ?_
        rintro e w1 ⟨rfl, hr1, hb1, hg1, _⟩
        have hB2 := hB.trans hb1
        have HR1 := Lib.hid hr1
        have HG1 : Hid (w1.heap[g0]? = w.heap[g0]?) := hg1.trans HG.out
        clear hb1 hB hr1 hg1 c0 c1 c2 c3 c4 c5 hs HT
        go_wp2
        go_ret
        exact ⟨by rw [idxOf_yes hkn]; rfl, by unfold qNext; rw [if_pos hkn]; exact HR1.out, hB2, HG1.out⟩
    · go_wp2
      go_ret
      exact ⟨by rw [idxOf_no (by omega)]; rfl, by unfold qNext; rw [if_neg (by omega)]; (have e : n = k := by omega); rw [e]; exact HRk.out, hB, HG.out⟩
set_option maxHeartbeats 2000000 in
set_option maxRecDepth 100000 in
theorem deleteS (g0 n c0 : Nat) (d : List Co) (g : FuncId) (lb : Array Value) (base : Nat) (p : Co → Bool) (R : Nat → World → Prop) (w : World) (hd : d.length = n) (hn : n ≤ 1000000) (hown : w.ownsRow base 34 6 (.slice (some ⟨g0, 0, none⟩) n c0) n (flatCo d)) (hn0 : 0 < n) (hp : PredS g lb g0 base d p R) (hR : R 0 w) (hbs : base ≤ w.heap.size) :
    Calls Tryz.prog 185 #[.slice (some ⟨g0, 0, none⟩) n c0, .func (.func g) #[] lb] w fun e w' => ∃ v', e = .returned v' ∧ w'.ownsRow base 34 6 v' (d.filter (fun x => !p x)).length (flatCo (d.filter (fun x => !p x))) ∧ R n w' ∧ Below base w w' := by
  obtain ⟨g0', c0', he, hnc, hcm, hgb, hgl⟩ := own_at hown hn0
  simp only [Value.slice.injEq, Option.some.injEq, Addr.mk.injEq, and_true, true_and] at he
  obtain ⟨rfl, rfl⟩ := he
  unfold maxLen at hcm
  obtain ⟨i0, hi0, hz0, hz1, hz2⟩ := info_parts infoCo
  have hcf := hp.run
  by_cases ha : d.any p = true
  · obtain ⟨q, hq, h1, h2⟩ := firstHitCo ha
    have hqn : q < n := by omega
    have HP := Lib.hid hp
    have HR0 := Lib.hid hR
    have hpos : ((q : Int) == -1) = false := beq_eq_false_iff_ne.2 (by omega)
    have hst : (d.take (q + 1)).filter (fun x => !p x) = d.take q := by
      rw [filt_nextCo hq, filt_allCo q (by omega) h1, if_pos h2, List.append_nil]
    have HST := Lib.hid hst
    have HD := Lib.hid hd
    clear hp ha hst hR
    go_enter Tryz.func185, Tryz.ntmps185
    go_wp2_with fail
    refine (indexS g0 n c0 d g lb base p R w HD.out hn hown hgl hbs HP.out HR0.out q (by omega) h1 (fun _ => h2)).mono ?_
    rintro e w1 ⟨rfl, hr1, hB, hG⟩
    rw [idxOf_yes hqn]
    have hown1 := own_same hown hG
    have HR1 : Hid (R (q + 1) w1) := by unfold qNext at hr1; rw [if_pos hqn] at hr1; exact hr1
    have hg1 := hB
    have hgl1 : g0 < w1.heap.size := by have := hB.size; omega
    clear hB hown h1 h2 hd hr1 hG HR0
    go_wp2
    go_loopw [5, 6] (fun iv jv wr => ∃ (i j : Nat) (e : List Co), iv = .int .i64 i ∧ jv = .int .i64 j ∧ i < j ∧ j ≤ n ∧ Hid (e.length = n) ∧ Hid (e.take i = (d.take j).filter (fun x => !p x)) ∧ Hid (e.drop j = d.drop j) ∧ wr.ownsRow base 34 6 (.slice (some ⟨g0, 0, none⟩) n c0) n (flatCo e) ∧ Hid (R j wr) ∧ Below base w wr ∧ g0 < wr.heap.size) (fun _ jv _ => n - (intOf jv).toNat)
    case atStart => exact ⟨q, q + 1, d, rfl, by go_num, by omega, by omega, HD.out, HST.out.symm, rfl, hown1, HR1, hg1, hgl1⟩
    case round =>
      clear hown1 hg1 HR1 hgl1
      obtain ⟨i, j, e, rfl, rfl, hij, hjn, HE, HT, HR, hown, HRj, hg, hgw⟩ := hrel
      have hic : i < c0 := by omega
      have hsw := hg.size
      by_cases hj : j < n
      · obtain ⟨c0, c1, c2, c3, c4, c5⟩ := ownCo_at hown HE.out hj
        have hx0 : gCo e j = gCo d j := drop_atCo (by rw [HE.out, HD.out]) HR.out (by have := HD.out; omega)
        obtain ⟨x, hx⟩ : ∃ x, gCo d j = x := ⟨_, rfl⟩
        have hBa : Below wr.heap.size wr (wr.alloc (.cells #[.int .i64 x.id, .int .i64 x.fr, .int .i64 x.tn, .int .i64 x.st, .int .i64 x.en, .int .i64 x.rt] 34)) := (Below.refl _ _).alloc (Nat.le_refl _) _
        have ht := HP.out.tells j (by have := HD.out; omega) wr _ HRj.out hBa hgw (by omega)
        rw [hx] at ht
        rw [hx0, hx] at c0 c1 c2 c3 c4 c5
        have HX := Lib.hid hx
        clear hx hx0
        have HTT := Lib.hid ht
        clear ht
        go_wp2_with fail
        have hBlk := Blok.new wr 34 #[.int .i64 x.id, .int .i64 x.fr, .int .i64 x.tn, .int .i64 x.st, .int .i64 x.en, .int .i64 x.rt]
        have hhw := hBa.block g0 hgw
        have ht := HTT.out
        clear HTT
        cases hpx : p x
        · have hgo := set_stepCo (p := p) HE.out HD.out hij hj HT.out HR.out (by rw [HX.out]; exact hpx)
          rw [HX.out] at hgo
          have HG := Lib.hid hgo
          rw [hpx] at ht
          have HPX := Lib.hid hpx
          clear hgo hpx
          refine ht.mono ?_
          rintro e1 w2 ⟨rfl, hr2, hb2, hh2, hh3⟩
          have hBlk2 : Blok w2 wr.heap.size 34 #[.int .i64 x.id, .int .i64 x.fr, .int .i64 x.tn, .int .i64 x.st, .int .i64 x.en, .int .i64 x.rt] := (hh3 _ (Nat.le_refl _) (by simp)).trans hBlk
          have hb3 := (hBa.mono (by omega)).trans hb2
          have hown2 := own_same hown (hh2.trans hhw)
          have hg2 := hg.trans hb3
          have hgw2 : g0 < w2.heap.size := by have := hb3.size; omega
          have HR2 := Lib.hid hr2
          have b0 : w2.cell? ⟨wr.heap.size, 0, none⟩ = some (.int .i64 x.id) := hBlk2.cell 0
          have b1 : w2.cell? ⟨wr.heap.size, 1, none⟩ = some (.int .i64 x.fr) := hBlk2.cell 1
          have b2 : w2.cell? ⟨wr.heap.size, 2, none⟩ = some (.int .i64 x.tn) := hBlk2.cell 2
          have b3 : w2.cell? ⟨wr.heap.size, 3, none⟩ = some (.int .i64 x.st) := hBlk2.cell 3
          have b4 : w2.cell? ⟨wr.heap.size, 4, none⟩ = some (.int .i64 x.en) := hBlk2.cell 4
          have b5 : w2.cell? ⟨wr.heap.size, 5, none⟩ = some (.int .i64 x.rt) := hBlk2.cell 5
          have z0 := hown2.frozenAt (i * 6)
          have z1 := hown2.frozenAt (i * 6 + 1)
          have z2 := hown2.frozenAt (i * 6 + 2)
          have z3 := hown2.frozenAt (i * 6 + 3)
          have z4 := hown2.frozenAt (i * 6 + 4)
          have z5 := hown2.frozenAt (i * 6 + 5)
          obtain ⟨hS1, hS2⟩ := ownCo_store hown2 i x
          clear ht hBlk hb2 hb3 hBa c0 c1 c2 c3 c4 c5 hBlk2 hr2 hh2 hh3 hhw hsw
          obtain ⟨o0, o1, o2, o3, o4, o5⟩ := ownCo_at hown2 HE.out (k := i) (by omega)
          go_wp2
          go_roundw
          case rel => exact ⟨i + 1, j + 1, e.set i x, by go_num, by go_num, by omega, by omega, (Lib.hid (by have := HE.out; simpa using this)), HG.out.1, HG.out.2, hS1, HP.out.stay _ _ _ HR2.out hS2, Below.grown hg2 hS2 (by have := hg2.size; omega) (fun k hk => by simp at hk; omega), by have := hS2.size; omega⟩
          case measure => simp [intOf]; omega
        · rw [hpx] at ht
          have hfn : (d.take (j + 1)).filter (fun x => !p x) = (d.take j).filter (fun x => !p x) := by
            rw [filt_nextCo (by have := HD.out; omega), HX.out, if_pos hpx, List.append_nil]
          have HF := Lib.hid hfn
          clear hpx hfn
          refine ht.mono ?_
          rintro e1 w2 ⟨rfl, hr2, hb2, hh2, _⟩
          have hb3 := (hBa.mono (by omega)).trans hb2
          have hown2 := own_same hown (hh2.trans hhw)
          have hg2 := hg.trans hb3
          have hgw2 : g0 < w2.heap.size := by have := hb3.size; omega
          have HR2 := Lib.hid hr2
          have hdr : e.drop (j + 1) = d.drop (j + 1) := by
            rw [← List.drop_drop, ← List.drop_drop, HR.out]
          have HDR := Lib.hid hdr
          clear ht hBlk hb2 hb3 hBa c0 c1 c2 c3 c4 c5 hdr hr2 hh2 hhw hsw
          go_wp2
          go_roundw
          case rel => exact ⟨i, j + 1, e, rfl, by go_num, by omega, by omega, HE.out, HT.out.trans HF.out.symm, HDR.out, hown2, HR2.out, hg2, hgw2⟩
          case measure => simp [intOf]; omega
      · obtain rfl : j = n := by omega
        have hci : ¬ c0 = i := by omega
        have hiI : (i : Int) ≤ (j : Int) := by omega
        have hicI : (i : Int) ≤ (c0 : Int) := by omega
        have hfin : e.take i = d.filter (fun x => !p x) := by
          have := HT.out
          rw [List.take_of_length_le (l := d) (by have := HD.out; omega)] at this
          exact this
        have HFIN := Lib.hid hfin
        have hlen : (d.filter (fun x => !p x)).length = i := by
          rw [← hfin, List.length_take, HE.out]; omega
        have HLEN := Lib.hid hlen
        clear hfin hlen
        go_wp2_with (first
          | (with_reducible refine wpList_clear_own rfl (.tmp 38) 22 rfl base 34 i0 _ 6 Tryz.underlying22 hi0 hz0 rfl (by simp [Value.oneCell', Value.cells]) g0 j c0 i (flatCo e) hown (by omega) (some ⟨g0, i * 6, none⟩) (c0 - i) rfl (.inl (by rw [Addr.add_lit, Nat.zero_add])) ?_
             intro w2 ys hown2 htake hg2))
        go_ret
        refine ⟨_, rfl, ?_, HP.out.stay _ _ _ HRj.out hg2, Below.grown hg hg2 (by omega) (fun k hk => by simp at hk; omega)⟩
        have hc := own_cut hown2 (m := i) (by omega)
        rw [htake, flatCo_take, HFIN.out] at hc
        rw [HLEN.out]
        exact hc
  · have ha' : d.any p = false := by simpa using ha
    have HP := Lib.hid hp
    have HR0 := Lib.hid hR
    have hno : ((-1 : Int) == -1) = true := by simp
    have hfil : d.filter (fun x => !p x) = d := by
      have := filt_allCo (p := p) d.length (Nat.le_refl _) (fun j hj => noHitCo ha' hj)
      rw [List.take_length] at this
      exact this
    rw [hfil]
    have HD := Lib.hid hd
    clear hp ha hfil hd hR
    go_enter Tryz.func185, Tryz.ntmps185
    go_wp2_with fail
    refine (indexS g0 n c0 d g lb base p R w HD.out hn hown hgl hbs HP.out HR0.out n (Nat.le_refl _) (fun j hj => noHitCo ha' (by have := HD.out; omega)) (fun h => by omega)).mono ?_
    rintro e w1 ⟨rfl, hr1, hB, hG⟩
    have HR1 : Hid (R n w1) := by unfold qNext at hr1; rw [if_neg (by omega)] at hr1; exact hr1
    rw [idxOf_no (by omega : ¬ n < n)]
    have hown1 := own_same hown hG
    clear hown hr1 hG HR0
    go_wp2
    go_ret
    refine ⟨_, rfl, ?_, HR1.out, hB⟩
    rw [HD.out]
    exact hown1
set_option maxRecDepth 100000 in
theorem index0 (A : Option Addr) (c : Nat) (g : FuncId) (lb : Array Value) (w : World) (hcf : ∀ vals w, (callFunc g vals).run Tryz.prog w = .ok (.enter g vals) w) :
    Calls Tryz.prog 54 #[.slice A 0 c, .func (.func g) #[] lb] w fun e w' => e = .returned (.int .i64 (-1)) ∧ w = w' := by
  go_enter Tryz.func54, Tryz.ntmps54
  go_wp2
  go_loop [8] (fun i => i = .int .i64 0) (fun _ => 0)
  case atStart => rfl
  case round =>
    subst hrel
    go_wp2
    go_ret
    exact ⟨rfl, rfl⟩
set_option maxRecDepth 100000 in
theorem delete0 (A : Option Addr) (c : Nat) (g : FuncId) (lb : Array Value) (w : World) (hcf : ∀ vals w, (callFunc g vals).run Tryz.prog w = .ok (.enter g vals) w) :
    Calls Tryz.prog 185 #[.slice A 0 c, .func (.func g) #[] lb] w fun e w' => e = .returned (.slice A 0 c) ∧ w = w' := by
  have hno : ((-1 : Int) == -1) = true := by simp
  go_enter Tryz.func185, Tryz.ntmps185
  go_wp2_with fail
  refine (index0 A c g lb w hcf).mono ?_
  rintro e w1 ⟨rfl, rfl⟩
  go_wp2
  go_ret
  exact ⟨rfl, rfl⟩
end Go.Proofs.YtjldgcebadojiaaGreatDoor.Kc
