/- Several texts of mine in one: StBk, Ledger6. No condition. -/
import Derived.Test.YtjldgcebadojiaaGreatDoorGQ12
import Derived.Test.YtjldgcebadojiaaGreatDoorLedger5
namespace Go.Proofs.YtjldgcebadojiaaGreatDoor.Kb
open Go.ChangeShapes Go.WideShapes Go.ChangeAt Go.RowKit Go.Sort
set_option linter.unusedSimpArgs false
set_option linter.unusedVariables false
theorem own_same {w w' : World} {base : Nat} {e : TypeId} {size g n c : Nat} {xs : List Value} (h : w.ownsRow base e size (.slice (some ⟨g, 0, none⟩) n c) n xs) (hh : w'.heap[g]? = w.heap[g]?) : w'.ownsRow base e size (.slice (some ⟨g, 0, none⟩) n c) n xs := by
  refine ⟨h.1, ?_⟩
  rcases h.2 with hx | ⟨g', cap, cur, h1, h2, h3, rest⟩
  · exact .inl hx
  · simp only [Value.slice.injEq, Option.some.injEq, Addr.mk.injEq, and_true, true_and] at h1
    obtain ⟨rfl, rfl⟩ := h1
    exact .inr ⟨g, c, cur, rfl, h2, hh.trans h3, rest⟩
structure PredS (g : FuncId) (lb : Array Value) (g0 base : Nat) (d : List Bk) (p : Bk → Bool) (R : Nat → World → Prop) : Prop where
  run : ∀ vals w, (callFunc g vals).run Tryz.prog w = .ok (.enter g vals) w
  tells : ∀ k, k < d.length → ∀ W w', R k W → Below W.heap.size W w' → g0 < W.heap.size → base ≤ W.heap.size → Calls Tryz.prog g (#[.agg #[.int .i64 (gBk d k).id, .int .i64 (gBk d k).ua, .int .i64 (gBk d k).ub, .int .i64 (gBk d k).uc]] ++ lb) w' fun e w'' => e = .returned (.bool (p (gBk d k))) ∧ R (k + 1) w'' ∧ Below base w' w'' ∧ w''.heap[g0]? = w'.heap[g0]? ∧ (∀ b, W.heap.size ≤ b → b < w'.heap.size → w''.heap[b]? = w'.heap[b]?)
  stay : ∀ k w w', R k w → w.grownBy w' (some g0) → R k w'
def qNext (q n : Nat) : Nat := if q < n then q + 1 else n
set_option maxHeartbeats 1000000 in
set_option maxRecDepth 100000 in
theorem indexS (g0 n c : Nat) (d : List Bk) (g : FuncId) (lb : Array Value) (base : Nat) (p : Bk → Bool) (R : Nat → World → Prop) (w : World) (hd : d.length = n) (hn : n ≤ 1000000) (hown : w.ownsRow base 50 4 (.slice (some ⟨g0, 0, none⟩) n c) n (flatBk d)) (hgl : g0 < w.heap.size) (hbs : base ≤ w.heap.size) (hp : PredS g lb g0 base d p R) (hR : R 0 w) (q : Nat) (hq : q ≤ n) (hlow : ∀ j, j < q → p (gBk d j) = false) (hhit : q < n → p (gBk d q) = true) :
    Calls Tryz.prog 182 #[.slice (some ⟨g0, 0, none⟩) n c, .func (.func g) #[] lb] w fun e w' => e = .returned (.int .i64 (idxOf q n)) ∧ R (qNext q n) w' ∧ Below base w w' ∧ w'.heap[g0]? = w.heap[g0]? := by
  have HL := Lib.hid hlow
  have HH := Lib.hid hhit
  have HP := Lib.hid hp
  have HR := Lib.hid hR
  have HD := Lib.hid hd
  have hcf := hp.run
  clear hlow hhit hp hR
  go_enter Tryz.func182, Tryz.ntmps182
  go_wp2
  go_loopw [8] (fun i wr => ∃ k : Nat, k ≤ q ∧ i = .int .i64 k ∧ Hid (R k wr) ∧ Below base w wr ∧ Hid (wr.heap[g0]? = w.heap[g0]?)) (fun i _ => n - (intOf i).toNat)
  case atStart => exact ⟨0, by omega, rfl, HR.out, Below.refl _ _, rfl⟩
  case round =>
    obtain ⟨k, hk, rfl, HRk, hB, HG⟩ := hrel
    have hs := hB.size
    have hgw : g0 < wr.heap.size := by omega
    by_cases hkn : k < n
    · have hownk := own_same hown HG.out
      obtain ⟨c0, c1, c2, c3⟩ := ownBk_at hownk HD.out hkn
      have ht0 := HP.out.tells k (by have := HD.out; omega) wr wr HRk.out (Below.refl _ _) hgw (by omega)
      clear hownk
      by_cases hkq : k < q
      · have hf := HL.out k hkq
        rw [hf] at ht0
        have HT := Lib.hid ht0
        generalize gBk d k = x at *
        clear hf ht0
        go_wp2_with fail
        refine HT.out.mono ?_
        rintro e w1 ⟨rfl, hr1, hb1, hg1, _⟩
        have hB2 := hB.trans hb1
        have HR1 := Lib.hid hr1
        have HG1 : Hid (w1.heap[g0]? = w.heap[g0]?) := hg1.trans HG.out
        clear hb1 hB hr1 hg1 c0 c1 c2 c3 hs HT
        go_wp2
        go_roundw
        case rel => exact ⟨k + 1, by omega, by go_num, HR1.out, hB2, HG1⟩
        case measure => simp [intOf]; omega
      · obtain rfl : k = q := by omega
        have hf := HH.out hkn
        rw [hf] at ht0
        have HT := Lib.hid ht0
        generalize gBk d k = x at *
        clear hf ht0
        go_wp2_with fail
        refine HT.out.mono ?_
        rintro e w1 ⟨rfl, hr1, hb1, hg1, _⟩
        have hB2 := hB.trans hb1
        have HR1 := Lib.hid hr1
        have HG1 : Hid (w1.heap[g0]? = w.heap[g0]?) := hg1.trans HG.out
        clear hb1 hB hr1 hg1 c0 c1 c2 c3 hs HT
        go_wp2
        go_ret
        exact ⟨by rw [idxOf_yes hkn]; rfl, by unfold qNext; rw [if_pos hkn]; exact HR1.out, hB2, HG1.out⟩
    · go_wp2
      go_ret
      exact ⟨by rw [idxOf_no (by omega)]; rfl, by unfold qNext; rw [if_neg (by omega)]; (have e : n = k := by omega); rw [e]; exact HRk.out, hB, HG.out⟩
set_option maxHeartbeats 2000000 in
set_option maxRecDepth 100000 in
theorem deleteS (g0 n c0 : Nat) (d : List Bk) (g : FuncId) (lb : Array Value) (base : Nat) (p : Bk → Bool) (R : Nat → World → Prop) (w : World) (hd : d.length = n) (hn : n ≤ 1000000) (hown : w.ownsRow base 50 4 (.slice (some ⟨g0, 0, none⟩) n c0) n (flatBk d)) (hn0 : 0 < n) (hp : PredS g lb g0 base d p R) (hR : R 0 w) (hbs : base ≤ w.heap.size) :
    Calls Tryz.prog 115 #[.slice (some ⟨g0, 0, none⟩) n c0, .func (.func g) #[] lb] w fun e w' => ∃ v', e = .returned v' ∧ w'.ownsRow base 50 4 v' (d.filter (fun x => !p x)).length (flatBk (d.filter (fun x => !p x))) ∧ R n w' ∧ Below base w w' := by
  obtain ⟨g0', c0', he, hnc, hcm, hgb, hgl⟩ := own_at hown hn0
  simp only [Value.slice.injEq, Option.some.injEq, Addr.mk.injEq, and_true, true_and] at he
  obtain ⟨rfl, rfl⟩ := he
  unfold maxLen at hcm
  obtain ⟨i0, hi0, hz0, hz1, hz2⟩ := info_parts infoBk
  have hcf := hp.run
  by_cases ha : d.any p = true
  · obtain ⟨q, hq, h1, h2⟩ := firstHitBk ha
    have hqn : q < n := by omega
    have HP := Lib.hid hp
    have HR0 := Lib.hid hR
    have hpos : ((q : Int) == -1) = false := beq_eq_false_iff_ne.2 (by omega)
    have hst : (d.take (q + 1)).filter (fun x => !p x) = d.take q := by
      rw [filt_nextBk hq, filt_allBk q (by omega) h1, if_pos h2, List.append_nil]
    have HST := Lib.hid hst
    have HD := Lib.hid hd
    clear hp ha hst hR
    go_enter Tryz.func115, Tryz.ntmps115
    go_wp2_with fail
    refine (indexS g0 n c0 d g lb base p R w HD.out hn hown hgl hbs HP.out HR0.out q (by omega) h1 (fun _ => h2)).mono ?_
    rintro e w1 ⟨rfl, hr1, hB, hG⟩
    rw [idxOf_yes hqn]
    have hown1 := own_same hown hG
    have HR1 : Hid (R (q + 1) w1) := by unfold qNext at hr1; rw [if_pos hqn] at hr1; exact hr1
    have hg1 := hB
    have hgl1 : g0 < w1.heap.size := by have := hB.size; omega
    clear hB hown h1 h2 hd hr1 hG HR0
    go_wp2
    go_loopw [5, 6] (fun iv jv wr => ∃ (i j : Nat) (e : List Bk), iv = .int .i64 i ∧ jv = .int .i64 j ∧ i < j ∧ j ≤ n ∧ Hid (e.length = n) ∧ Hid (e.take i = (d.take j).filter (fun x => !p x)) ∧ Hid (e.drop j = d.drop j) ∧ wr.ownsRow base 50 4 (.slice (some ⟨g0, 0, none⟩) n c0) n (flatBk e) ∧ Hid (R j wr) ∧ Below base w wr ∧ g0 < wr.heap.size) (fun _ jv _ => n - (intOf jv).toNat)
    case atStart => exact ⟨q, q + 1, d, rfl, by go_num, by omega, by omega, HD.out, HST.out.symm, rfl, hown1, HR1, hg1, hgl1⟩
    case round =>
      clear hown1 hg1 HR1 hgl1
      obtain ⟨i, j, e, rfl, rfl, hij, hjn, HE, HT, HR, hown, HRj, hg, hgw⟩ := hrel
      have hic : i < c0 := by omega
      have hsw := hg.size
      by_cases hj : j < n
      · obtain ⟨c0, c1, c2, c3⟩ := ownBk_at hown HE.out hj
        have hx0 : gBk e j = gBk d j := drop_atBk (by rw [HE.out, HD.out]) HR.out (by have := HD.out; omega)
        obtain ⟨x, hx⟩ : ∃ x, gBk d j = x := ⟨_, rfl⟩
        have hBa : Below wr.heap.size wr (wr.alloc (.cells #[.int .i64 x.id, .int .i64 x.ua, .int .i64 x.ub, .int .i64 x.uc] 50)) := (Below.refl _ _).alloc (Nat.le_refl _) _
        have ht := HP.out.tells j (by have := HD.out; omega) wr _ HRj.out hBa hgw (by omega)
        rw [hx] at ht
        rw [hx0, hx] at c0 c1 c2 c3
        have HX := Lib.hid hx
        clear hx hx0
        have HTT := Lib.hid ht
        clear ht
        go_wp2_with fail
        have hBlk := Blok.new wr 50 #[.int .i64 x.id, .int .i64 x.ua, .int .i64 x.ub, .int .i64 x.uc]
        have hhw := hBa.block g0 hgw
        have ht := HTT.out
        clear HTT
        cases hpx : p x
        · have hgo := set_stepBk (p := p) HE.out HD.out hij hj HT.out HR.out (by rw [HX.out]; exact hpx)
          rw [HX.out] at hgo
          have HG := Lib.hid hgo
          rw [hpx] at ht
          have HPX := Lib.hid hpx
          clear hgo hpx
          refine ht.mono ?_
          rintro e1 w2 ⟨rfl, hr2, hb2, hh2, hh3⟩
          have hBlk2 : Blok w2 wr.heap.size 50 #[.int .i64 x.id, .int .i64 x.ua, .int .i64 x.ub, .int .i64 x.uc] := (hh3 _ (Nat.le_refl _) (by simp)).trans hBlk
          have hb3 := (hBa.mono (by omega)).trans hb2
          have hown2 := own_same hown (hh2.trans hhw)
          have hg2 := hg.trans hb3
          have hgw2 : g0 < w2.heap.size := by have := hb3.size; omega
          have HR2 := Lib.hid hr2
          have b0 : w2.cell? ⟨wr.heap.size, 0, none⟩ = some (.int .i64 x.id) := hBlk2.cell 0
          have b1 : w2.cell? ⟨wr.heap.size, 1, none⟩ = some (.int .i64 x.ua) := hBlk2.cell 1
          have b2 : w2.cell? ⟨wr.heap.size, 2, none⟩ = some (.int .i64 x.ub) := hBlk2.cell 2
          have b3 : w2.cell? ⟨wr.heap.size, 3, none⟩ = some (.int .i64 x.uc) := hBlk2.cell 3
          have z0 := hown2.frozenAt (i * 4)
          have z1 := hown2.frozenAt (i * 4 + 1)
          have z2 := hown2.frozenAt (i * 4 + 2)
          have z3 := hown2.frozenAt (i * 4 + 3)
          obtain ⟨hS1, hS2⟩ := ownBk_store hown2 i x
          clear ht hBlk hb2 hb3 hBa c0 c1 c2 c3 hBlk2 hr2 hh2 hh3 hhw hsw
          obtain ⟨o0, o1, o2, o3⟩ := ownBk_at hown2 HE.out (k := i) (by omega)
          go_wp2
          go_roundw
          case rel => exact ⟨i + 1, j + 1, e.set i x, by go_num, by go_num, by omega, by omega, (Lib.hid (by have := HE.out; simpa using this)), HG.out.1, HG.out.2, hS1, HP.out.stay _ _ _ HR2.out hS2, Below.grown hg2 hS2 (by have := hg2.size; omega) (fun k hk => by simp at hk; omega), by have := hS2.size; omega⟩
          case measure => simp [intOf]; omega
        · rw [hpx] at ht
          have hfn : (d.take (j + 1)).filter (fun x => !p x) = (d.take j).filter (fun x => !p x) := by
            rw [filt_nextBk (by have := HD.out; omega), HX.out, if_pos hpx, List.append_nil]
          have HF := Lib.hid hfn
          clear hpx hfn
          refine ht.mono ?_
          rintro e1 w2 ⟨rfl, hr2, hb2, hh2, _⟩
          have hb3 := (hBa.mono (by omega)).trans hb2
          have hown2 := own_same hown (hh2.trans hhw)
          have hg2 := hg.trans hb3
          have hgw2 : g0 < w2.heap.size := by have := hb3.size; omega
          have HR2 := Lib.hid hr2
          have hdr : e.drop (j + 1) = d.drop (j + 1) := by
            rw [← List.drop_drop, ← List.drop_drop, HR.out]
          have HDR := Lib.hid hdr
          clear ht hBlk hb2 hb3 hBa c0 c1 c2 c3 hdr hr2 hh2 hhw hsw
          go_wp2
          go_roundw
          case rel => exact ⟨i, j + 1, e, rfl, by go_num, by omega, by omega, HE.out, HT.out.trans HF.out.symm, HDR.out, hown2, HR2.out, hg2, hgw2⟩
          case measure => simp [intOf]; omega
      · obtain rfl : j = n := by omega
        have hci : ¬ c0 = i := by omega
        have hiI : (i : Int) ≤ (j : Int) := by omega
        have hicI : (i : Int) ≤ (c0 : Int) := by omega
        have hfin : e.take i = d.filter (fun x => !p x) := by
          have := HT.out
          rw [List.take_of_length_le (l := d) (by have := HD.out; omega)] at this
          exact this
        have HFIN := Lib.hid hfin
        have hlen : (d.filter (fun x => !p x)).length = i := by
          rw [← hfin, List.length_take, HE.out]; omega
        have HLEN := Lib.hid hlen
        clear hfin hlen
        go_wp2_with (first
          | (with_reducible refine wpList_clear_own rfl (.tmp 38) 26 rfl base 50 i0 _ 4 Tryz.underlying26 hi0 hz0 rfl (by simp [Value.oneCell', Value.cells]) g0 j c0 i (flatBk e) hown (by omega) (some ⟨g0, i * 4, none⟩) (c0 - i) rfl (.inl (by rw [Addr.add_lit, Nat.zero_add])) ?_
             intro w2 ys hown2 htake hg2))
        go_ret
        refine ⟨_, rfl, ?_, HP.out.stay _ _ _ HRj.out hg2, Below.grown hg hg2 (by omega) (fun k hk => by simp at hk; omega)⟩
        have hc := own_cut hown2 (m := i) (by omega)
        rw [htake, flatBk_take, HFIN.out] at hc
        rw [HLEN.out]
        exact hc
  · have ha' : d.any p = false := by simpa using ha
    have HP := Lib.hid hp
    have HR0 := Lib.hid hR
    have hno : ((-1 : Int) == -1) = true := by simp
    have hfil : d.filter (fun x => !p x) = d := by
      have := filt_allBk (p := p) d.length (Nat.le_refl _) (fun j hj => noHitBk ha' hj)
      rw [List.take_length] at this
      exact this
    rw [hfil]
    have HD := Lib.hid hd
    clear hp ha hfil hd hR
    go_enter Tryz.func115, Tryz.ntmps115
    go_wp2_with fail
    refine (indexS g0 n c0 d g lb base p R w HD.out hn hown hgl hbs HP.out HR0.out n (Nat.le_refl _) (fun j hj => noHitBk ha' (by have := HD.out; omega)) (fun h => by omega)).mono ?_
    rintro e w1 ⟨rfl, hr1, hB, hG⟩
    have HR1 : Hid (R n w1) := by unfold qNext at hr1; rw [if_neg (by omega)] at hr1; exact hr1
    rw [idxOf_no (by omega : ¬ n < n)]
    have hown1 := own_same hown hG
    clear hown hr1 hG HR0
    go_wp2
    go_ret
    refine ⟨_, rfl, ?_, HR1.out, hB⟩
    rw [HD.out]
    exact hown1
set_option maxRecDepth 100000 in
theorem index0 (A : Option Addr) (c : Nat) (g : FuncId) (lb : Array Value) (w : World) (hcf : ∀ vals w, (callFunc g vals).run Tryz.prog w = .ok (.enter g vals) w) :
    Calls Tryz.prog 182 #[.slice A 0 c, .func (.func g) #[] lb] w fun e w' => e = .returned (.int .i64 (-1)) ∧ w = w' := by
  go_enter Tryz.func182, Tryz.ntmps182
  go_wp2
  go_loop [8] (fun i => i = .int .i64 0) (fun _ => 0)
  case atStart => rfl
  case round =>
    subst hrel
    go_wp2
    go_ret
    exact ⟨rfl, rfl⟩
set_option maxRecDepth 100000 in
theorem delete0 (A : Option Addr) (c : Nat) (g : FuncId) (lb : Array Value) (w : World) (hcf : ∀ vals w, (callFunc g vals).run Tryz.prog w = .ok (.enter g vals) w) :
    Calls Tryz.prog 115 #[.slice A 0 c, .func (.func g) #[] lb] w fun e w' => e = .returned (.slice A 0 c) ∧ w = w' := by
  have hno : ((-1 : Int) == -1) = true := by simp
  go_enter Tryz.func115, Tryz.ntmps115
  go_wp2_with fail
  refine (index0 A c g lb w hcf).mono ?_
  rintro e w1 ⟨rfl, rfl⟩
  go_wp2
  go_ret
  exact ⟨rfl, rfl⟩
theorem run_makeMap_hint {P : Program} (t k e : TypeId) (kd : IntKind) (n : Int) (ht : P.underlying t = some (.map k e)) (w : World) :
    (Instr.makeMap t (some (.int kd n))).run P w = .ok (.map (some w.heap.size)) (w.alloc (.map #[] 0)) := by
  simp [Instr.makeMap, run_underlying ht]; rfl
theorem intAt {l : List Int} {k : Nat} (h : k < l.length) : (l.map (Value.int .i64))[k]? = some (.int .i64 (l.getD k 0)) := by
  simp [List.getD_eq_getElem?_getD, List.getElem?_eq_getElem h]
theorem Lst.atI {w : World} {B : Nat} {A : Option Addr} {n : Nat} {l : List Int} (h : Lst w B 1 A n (l.map (Value.int .i64))) (hl : l.length = n) {k : Nat} (hk : k < n) : ∃ ad, A = some ad ∧ ad.block < B ∧ w.cell? (ad.add k) = some (.int .i64 (l.getD k 0)) := by
  obtain ⟨ad, e, hb, hc⟩ := h.at_ (by omega)
  exact ⟨ad, e, hb, hc _ _ (intAt (by omega))⟩
def inL (l : List Int) (x : Int) : Bool := l.any (fun j => j == x)
theorem inL_next {l : List Int} {k : Nat} (h : k < l.length) (j : Int) : inL (l.take (k + 1)) j = (if j = l.getD k 0 then true else inL (l.take k) j) := by
  have e : l.take (k + 1) = l.take k ++ [l.getD k 0] := by
    rw [List.take_add_one, List.getD_eq_getElem?_getD, List.getElem?_eq_getElem h]; rfl
  unfold inL
  rw [e, List.any_append]
  by_cases e : j = l.getD k 0
  · subst e; simp
  · rw [if_neg e]; simp; intro e2; exact absurd e2.symm e
def dropL (d : List Bk) (l : List Int) : List Bk := d.filter (fun x => !inL l x.id)
set_option maxHeartbeats 1000000 in
set_option maxRecDepth 100000 in
theorem drop1_any (x : Bk) (b0 b1 m : Nat) (S : Int → Bool) (w : World) (hK : Blok w b1 137 #[.map (some b0)]) (hS : SetW w b0 m S) (hwf : (Lit.int .i64 x.id).wf = true) :
    Calls Tryz.prog 116 #[.agg #[.int .i64 x.id, .int .i64 x.ua, .int .i64 x.ub, .int .i64 x.uc], .pointer (some ⟨b1, 0, none⟩)] w fun e w' => e = .returned (.bool (S x.id)) ∧ Below w.heap.size w w' := by
  have hBa : Below w.heap.size w (w.alloc (.cells #[.int .i64 x.id, .int .i64 x.ua, .int .i64 x.ub, .int .i64 x.uc] 50)) := by (repeat (first | exact Below.refl _ _ | refine Below.alloc ?_ (by first | omega | (simp; done) | (simp; omega)) _ | refine Below.setCell ?_ (by first | omega | (simp; done) | (simp; omega)) _ | refine Below.drew ?_))
  have hX := Blok.new w 50 #[.int .i64 x.id, .int .i64 x.ua, .int .i64 x.ub, .int .i64 x.uc]
  have hK2 := hK.below hBa hK.lt
  have hS2 := hS.below hBa
  have hlk := hS2.look hwf
  have hl1 := hK.lt
  obtain ⟨s, hs⟩ : ∃ s, S x.id = s := ⟨_, rfl⟩
  rw [hs] at hlk
  rw [hs]
  have k0 : (w.alloc (.cells #[.int .i64 x.id, .int .i64 x.ua, .int .i64 x.ub, .int .i64 x.uc] 50)).cell? ⟨b1, 0, none⟩ = some (.map (some b0)) := hK2.cell 0
  clear hK hS hK2 hS2 hX hs
  go_enter Tryz.func116, Tryz.ntmps116
  go_wp2
  go_ret
  exact ⟨rfl, hBa⟩
def DropR (b0 b1 m : Nat) (S : Int → Bool) (_ : Nat) (w : World) : Prop := Blok w b1 137 #[.map (some b0)] ∧ SetW w b0 m S
theorem pred_drop (b0 b1 m g0 base : Nat) (S : Int → Bool) (d : List Bk) (h0 : b0 ≠ g0) (h1 : b1 ≠ g0) (hwf : ∀ x ∈ d, (Lit.int .i64 x.id).wf = true) :
    PredS 116 #[.pointer (some ⟨b1, 0, none⟩)] g0 base d (fun x => S x.id) (DropR b0 b1 m S) :=
  ⟨enter_run Tryz.func116 rfl rfl,
   fun k hk W w' hR hb hg hbs => (drop1_any (gBk d k) b0 b1 m S w' (hR.1.below hb hR.1.lt) (hR.2.below hb) (hwf _ (gBk_mem hk))).mono (fun e w'' ⟨he, hB⟩ => ⟨he, ⟨(hR.1.below hb hR.1.lt).below hB ((hR.1.below hb hR.1.lt).lt), (hR.2.below hb).below hB⟩, hB.mono (by have := hb.size; omega), hB.block g0 (by have := hb.size; omega), fun b _ h2 => hB.block b h2⟩),
   fun k w w' hR hgr => ⟨hR.1.grown hgr (fun e => h1 (by simpa using e)), hR.2.kept hgr (fun e => h0 (by simpa using e))⟩⟩
set_option maxHeartbeats 2000000 in
set_option maxRecDepth 100000 in
theorem drop_any (A : Option Addr) (n c : Nat) (d : List Bk) (A' : Option Addr) (m c' : Nat) (l : List Int) (w : World) (hd : d.length = n) (hn : n ≤ 1000000) (hl : l.length = m) (hm : m ≤ 1000000) (h : Sl w w.heap.size 4 A n c (flatBk d)) (h' : Sl w w.heap.size 1 A' m c' (l.map (Value.int .i64))) (hwf : ∀ x ∈ d, (Lit.int .i64 x.id).wf = true) (hlw : ∀ k, k < m → (Lit.int .i64 (l.getD k 0)).wf = true) :
    Calls Tryz.prog 67 #[.slice A n c, .slice A' m c'] w fun e w' => ∃ v, e = .returned v ∧ w'.ownsRow w.heap.size 50 4 v (dropL d l).length (flatBk (dropL d l)) ∧ Below w.heap.size w w' := by
  have HD := Lib.hid hd
  have HLL := Lib.hid hl
  have HW := Lib.hid hwf
  have HLW := Lib.hid hlw
  have hmk := run_makeMap_hint (P := Tryz.prog) 137 3 4 .i64 (m : Int) Tryz.underlying137 w
  obtain ⟨b0, hb0⟩ : ∃ b0, w.heap.size = b0 := ⟨_, rfl⟩
  rw [hb0] at hmk
  have HB0 := Lib.hid hb0
  have hS0 := SetW.made w
  rw [hb0] at hS0
  have hB0 : Below w.heap.size w (w.alloc (.map #[] 0)) := (Below.refl _ _).alloc (Nat.le_refl _) _
  have h0 := h.below hB0
  have h0' := h'.below hB0
  clear hb0 h h' hwf hlw hd hl
  go_enter Tryz.func67, Tryz.ntmps67
  go_wp2
  obtain ⟨b1, hb1⟩ : ∃ b1, w.heap.size + 1 = b1 := ⟨_, rfl⟩
  have hK0 := Blok.new (w.alloc (.map #[] 0)) 137 #[.map (some b0)]
  rw [World.size_alloc] at hK0
  rw [hb1] at hK0
  rw [hb1]
  replace hS0 := hS0.alloc (.cells #[.map (some b0)] 137)
  replace h0 := h0.below ((Below.refl _ _).alloc hB0.size (.cells #[.map (some b0)] 137))
  replace h0' := h0'.below ((Below.refl _ _).alloc hB0.size (.cells #[.map (some b0)] 137))
  replace hB0 := hB0.alloc hB0.size (.cells #[.map (some b0)] 137)
  generalize (w.alloc (.map #[] 0)).alloc (.cells #[.map (some b0)] 137) = w2 at *
  have HB1 := Lib.hid hb1
  clear hmk hb1
  go_loopw [13] (fun i wr => ∃ k : Nat, k ≤ m ∧ i = .int .i64 k ∧ Below w.heap.size w wr ∧ Blok wr b1 137 #[.map (some b0)] ∧ SetW wr b0 k (inL (l.take k)) ∧ Hid (Sl wr w.heap.size 4 A n c (flatBk d)) ∧ Hid (Sl wr w.heap.size 1 A' m c' (l.map (Value.int .i64)))) (fun i _ => m - (intOf i).toNat)
  case atStart => exact ⟨0, by omega, rfl, hB0, hK0, hS0.congr (fun k _ => by simp [inL]), h0, h0'⟩
  case round =>
    clear hB0 hK0 hS0 h0 h0'
    obtain ⟨k, hk, rfl, hB, hK, hS, HL, HL'⟩ := hrel
    by_cases hkn : k < m
    · obtain ⟨ad, rfl, hab, c0⟩ := Lst.atI HL'.out.lst HLL.out hkn
      have hwf := HLW.out k hkn
      have HNX := Lib.hid (inL_next (l := l) (k := k) (by have := HLL.out; omega))
      have HLL2 := Lib.hid HLL.out
      generalize l.getD k 0 = y at *
      have hsw := hB.size
      have k0 : wr.cell? ⟨b1, 0, none⟩ = some (.map (some b0)) := hK.cell 0
      go_wp2_with (at_mapUpdate; refine wpList_put_set rfl _ _ _ rfl b0 k _ y true rfl hS (by unfold maxLen; omega) rfl hwf rfl ?_; intro w4 hS4 hg4)
      try simp only [Act.put, List.setIfInBounds_toArray, List.set_cons_succ, List.set_cons_zero]
      clear c0 k0
      have hK4 := hK.grown hg4 (fun e => by have e1 := HB0.out; have e2 := HB1.out; have e3 : b1 = b0 := (by simpa using e); omega)
      have hB4 : Below w.heap.size w w4 := hB.grown hg4 hsw (fun j hj => by have := HB0.out; simp at hj; omega)
      have hbw : Below w.heap.size wr w4 := Below.grown (Below.refl _ _) hg4 hsw (fun j hj => by have := HB0.out; simp at hj; omega)
      have hL4 := HL.out.below hbw
      have hL4' := HL'.out.below hbw
      have hS5 : SetW w4 b0 (k + 1) (inL (l.take (k + 1))) := hS4.congr (fun j _ => by rw [HNX.out j])
      clear hS hS4 hg4 hK HL HL' hB hbw
      go_wp2
      go_roundw
      case rel => exact ⟨k + 1, by omega, by go_num, hB4, hK4, hS5, hL4, hL4'⟩
      case measure => simp [intOf]; omega
    · obtain rfl : k = m := by omega
      have hS2 : SetW wr b0 k (inL l) := hS.congr (fun j _ => by rw [List.take_of_length_le (by have := HLL.out; omega)])
      have hL2 := HL.out.more hB.size
      clear hS HL HL'
      go_wp2_with fail
      refine (cloneBk A n c d wr HD.out hn hL2).mono ?_
      rintro e w3 ⟨v, rfl, hown, hb3⟩
      have hK3 := hK.below hb3 hK.lt
      have hS3 := hS2.below hb3
      have hB3 := hB.trans (hb3.mono hB.size)
      have hown3 := own_down (base' := w.heap.size) hown hB.size
      have hlow : ∀ g, v.ownBlock = some g → b0 ≠ g ∧ b1 ≠ g := fun g e => by
        have h1 := (hown.lt _ e).1
        have h2 := hS2.lt
        have h3 := hK.lt
        omega
      clear hb3 hK hS2 hB hL2 hown
      go_wp2_with fail
      refine Calls.mono (R := fun e w' => ∃ v, e = .returned v ∧ w'.ownsRow w.heap.size 50 4 v (dropL d l).length (flatBk (dropL d l)) ∧ Below w.heap.size w w') ?_ ?_
      · by_cases hn0 : n = 0
        · subst hn0
          have hd0 : d = [] := List.length_eq_zero_iff.1 HD.out
          subst hd0
          obtain ⟨A3, c3, rfl⟩ := slice_of_own hown3
          refine (delete0 A3 c3 _ _ w3 (enter_run Tryz.func116 rfl rfl)).mono ?_
          rintro e w4 ⟨rfl, rfl⟩
          exact ⟨_, rfl, hown3, hB3⟩
        · obtain ⟨g0, c3, rfl, hnc, hcm, hgb, hgl⟩ := own_at hown3 (by omega)
          have hne := hlow g0 rfl
          refine (deleteS g0 n c3 d _ _ w.heap.size _ _ w3 HD.out hn hown3 (by omega) (pred_drop b0 b1 k g0 w.heap.size (inL l) d hne.1 hne.2 HW.out) ⟨hK3, hS3⟩ hB3.size).mono ?_
          rintro e w4 ⟨v4, rfl, hv4, _, hb4⟩
          exact ⟨v4, rfl, hv4, hB3.trans hb4⟩
      · rintro e w4 ⟨v4, rfl, hv4, hB4⟩
        obtain ⟨m6, hm6⟩ : ∃ q, (dropL d l).length = q := ⟨_, rfl⟩
        rw [hm6] at hv4
        have HM6 := Lib.hid hm6
        clear hm6 hown3 hK3 hS3 hB3
        obtain ⟨A6, c6, rfl⟩ := slice_of_own hv4
        go_wp2
        go_ret
        exact ⟨_, rfl, by rw [HM6.out]; exact hv4, hB4⟩
end Go.Proofs.YtjldgcebadojiaaGreatDoor.Kb
