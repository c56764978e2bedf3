/- Several texts of mine in one: SlEd, SlEdW, Spur1. No condition. -/
import Derived.Test.YtodcoockhkghdaaGreatGQ8
import Derived.Test.YtodcoockhkghdaaGreatGQ2
import Derived.Test.YtodcoockhkghdaaGreatGQ3
import Derived.Test.YtodcoockhkghdaaGreatSpurMath
import Derived.Test.YtodcoockhkghdaaGreatPath4
import Derived.Test.YtodcoockhkghdaaGreatGQ12
namespace Go.Proofs.YtodcoockhkghdaaGreat
open Go.ChangeShapes Go.WideShapes Go.ChangeAt Go.RowKit Go.Sort
set_option linter.unusedSimpArgs false
set_option linter.unusedVariables false
set_option maxRecDepth 100000 in
theorem cloneEd (A : Option Addr) (n c : Nat) (d : List Ed) (w : World) (hd : d.length = n) (hn : n ≤ 1000000) (h : Sl w w.heap.size 8 A n c (flatEd d)) :
    Calls Tryz.prog 162 #[.slice A n c] w fun e w' => ∃ v, e = .returned v ∧ w'.ownsRow w.heap.size 86 8 v n (flatEd d) ∧ Below w.heap.size w w' := by
  obtain ⟨i0, hi0, hz0, hz1, hz2⟩ := info_parts infoEd
  have hsl := fun (w : World) (a : Option Addr) (l c : Nat) => run_eql_slice_nil (P := Tryz.prog) w 47 86 a l c Tryz.underlying47
  cases A with
  | none =>
    obtain rfl : c = 0 := h.nil rfl
    obtain rfl : n = 0 := by have := h.cap; omega
    obtain rfl : d = [] := List.eq_nil_of_length_eq_zero hd
    go_enter Tryz.func162, Tryz.ntmps162
    go_wp2
    go_ret
    exact ⟨_, rfl, World.ownsRow_nil _ _ _ _, Below.refl _ _⟩
  | some ad =>
    go_enter Tryz.func162, Tryz.ntmps162
    go_wp2_with (first
      | (at_builtin
         refine wpList_append_lst _ rfl (.tmp 5) (.tmp 6) 47 rfl w.heap.size 86 i0 _ 8 64 Tryz.underlying47 hi0 hz0 hz1 hz2 rfl (by decide) (.slice (some ⟨w.heap.size, 0, none⟩) 0 0) 0 [] rfl (World.ownsRow_made w #[] 0 (Nat.le_refl _) (by simp) (by simp)) w.heap.size (some ad) n c (flatEd d) rfl (h.lst.below ((Below.refl _ _).alloc (Nat.le_refl _) _)) (flatEd_one _) (by unfold maxLen; omega) (by omega) (by simp) ?_
         intro v1 w1 hown hg hat))
    go_ret
    refine ⟨_, rfl, by simpa using hown, Below.grown ((Below.refl _ _).alloc (Nat.le_refl _) _) hg (by simp) (fun k hk => ?_)⟩
    simp [Value.ownBlock] at hk
    omega
theorem noHitEd {d : List Ed} {p : Ed → Bool} (h : d.any p = false) {j : Nat} (hj : j < d.length) : p (gEd d j) = false := by
  have := List.any_eq_false.1 h _ (gEd_mem hj)
  simpa using this
theorem firstHitEd {d : List Ed} {p : Ed → Bool} (h : d.any p = true) : ∃ q, q < d.length ∧ (∀ j, j < q → p (gEd d j) = false) ∧ p (gEd d q) = true := by
  have hl : d.findIdx p < d.length := List.findIdx_lt_length.2 (by simpa using h)
  refine ⟨d.findIdx p, hl, fun j hj => ?_, ?_⟩
  · rw [gEd_eq (by omega)]
    have := List.not_of_lt_findIdx hj
    simpa using this
  · rw [gEd_eq hl]
    exact List.findIdx_getElem
structure PredEd (g : FuncId) (lb : Array Value) (row : Option Nat) (W : World) (p : Ed → Bool) : Prop where
  run : ∀ vals w, (callFunc g vals).run Tryz.prog w = .ok (.enter g vals) w
  tells : ∀ w', W.grownBy w' row → ∀ x : Ed, Calls Tryz.prog g (#[.agg #[.int .i64 x.id, .int .i64 x.fr, .int .i64 x.tn, .int .i64 x.op, .int .i64 x.en, .int .i64 x.ra, .int .i64 x.ow, .int .i64 x.ro]] ++ lb) w' fun e w'' => e = .returned (.bool (p x)) ∧ Below w'.heap.size w' w''
theorem PredEd.next {g : FuncId} {lb : Array Value} {row : Option Nat} {W W' : World} {p : Ed → Bool} (h : PredEd g lb row W p) (hg : W.grownBy W' row) : PredEd g lb row W' p := ⟨h.run, fun w' h' x => h.tells w' (grown_trans hg h') x⟩
theorem PredEd.below {g : FuncId} {lb : Array Value} {row : Option Nat} {W W' : World} {p : Ed → Bool} (h : PredEd g lb row W p) (hb : Below W.heap.size W W') : PredEd g lb row W' p := h.next (grown_of_below hb)
theorem filt_nextEd {d : List Ed} {p : Ed → Bool} {j : Nat} (hj : j < d.length) : (d.take (j + 1)).filter (fun x => !p x) = (d.take j).filter (fun x => !p x) ++ if p (gEd d j) = true then [] else [gEd d j] := by
  rw [take_nextEd hj, List.filter_append]
  congr 1
  cases h : p (gEd d j) <;> simp [List.filter_cons, h]
theorem filt_allEd {d : List Ed} {p : Ed → Bool} : ∀ q, q ≤ d.length → (∀ j, j < q → p (gEd d j) = false) → (d.take q).filter (fun x => !p x) = d.take q
  | 0, _, _ => by simp
  | q + 1, h, hl => by
    rw [filt_nextEd (by omega), filt_allEd q (by omega) (fun j hj => hl j (by omega)), if_neg (by rw [hl q (by omega)]; simp), ← take_nextEd (by omega)]
theorem set_stepEd {e d : List Ed} {p : Ed → Bool} {i j n : Nat} (he : e.length = n) (hd : d.length = n) (hij : i < j) (hj : j < n) (h1 : e.take i = (d.take j).filter (fun x => !p x)) (h2 : e.drop j = d.drop j) (hp : p (gEd d j) = false) :
    (e.set i (gEd d j)).take (i + 1) = (d.take (j + 1)).filter (fun x => !p x) ∧ (e.set i (gEd d j)).drop (j + 1) = d.drop (j + 1) := by
  refine ⟨?_, ?_⟩
  · rw [filt_nextEd (by omega), if_neg (by rw [hp]; simp), ← h1]
    rw [List.take_succ_eq_append_getElem (by simp; omega), List.getElem_set_self, List.take_set_of_le (Nat.le_refl _)]
  · rw [List.drop_set_of_lt (by omega), ← List.drop_drop, ← List.drop_drop, h2]
theorem drop_atEd {e d : List Ed} {j : Nat} (he : e.length = d.length) (h : e.drop j = d.drop j) (hj : j < d.length) : gEd e j = gEd d j := by
  rw [gEd_eq (by omega), gEd_eq hj]
  have h1 : (e.drop j)[0]'(by simp; omega) = (d.drop j)[0]'(by simp; omega) := by simp [h]
  simpa using h1
structure PredEdW (g : FuncId) (lb : Array Value) (row : Option Nat) (W : World) (p : Ed → Bool) : Prop where
  run : ∀ vals w, (callFunc g vals).run Tryz.prog w = .ok (.enter g vals) w
  tells : ∀ w', W.grownBy w' row → ∀ x : Ed, x.ok = true → Calls Tryz.prog g (#[.agg #[.int .i64 x.id, .int .i64 x.fr, .int .i64 x.tn, .int .i64 x.op, .int .i64 x.en, .int .i64 x.ra, .int .i64 x.ow, .int .i64 x.ro]] ++ lb) w' fun e w'' => e = .returned (.bool (p x)) ∧ Below w'.heap.size w' w''
theorem PredEdW.next {g : FuncId} {lb : Array Value} {row : Option Nat} {W W' : World} {p : Ed → Bool} (h : PredEdW g lb row W p) (hg : W.grownBy W' row) : PredEdW g lb row W' p := ⟨h.run, fun w' h' x => h.tells w' (grown_trans hg h') x⟩
theorem PredEdW.below {g : FuncId} {lb : Array Value} {row : Option Nat} {W W' : World} {p : Ed → Bool} (h : PredEdW g lb row W p) (hb : Below W.heap.size W W') : PredEdW g lb row W' p := h.next (grown_of_below hb)
set_option maxHeartbeats 1000000 in
set_option maxRecDepth 100000 in
theorem indexEdW (A : Option Addr) (n c : Nat) (d : List Ed) (g : FuncId) (lb : Array Value) (row : Option Nat) (p : Ed → Bool) (w : World) (hd : d.length = n) (hn : n ≤ 1000000) (h : Sl w w.heap.size 8 A n c (flatEd d)) (hok : ∀ k, k < n → (gEd d k).ok = true) (hp : PredEdW g lb row w p) (q : Nat) (hq : q ≤ n) (hlow : ∀ j, j < q → p (gEd d j) = false) (hhit : q < n → p (gEd d q) = true) :
    Calls Tryz.prog 182 #[.slice A n c, .func (.func g) #[] lb] w fun e w' => e = .returned (.int .i64 (idxOf q n)) ∧ Below w.heap.size w w' := by
  have HL := Lib.hid hlow
  have HH := Lib.hid hhit
  have HP := Lib.hid hp
  have HOK := Lib.hid hok
  have hcf := hp.run
  clear hlow hhit hp hok
  go_enter Tryz.func182, Tryz.ntmps182
  go_wp2
  go_loopw [8] (fun i wr => ∃ k : Nat, k ≤ q ∧ i = .int .i64 k ∧ Below w.heap.size w wr) (fun i _ => n - (intOf i).toNat)
  case atStart => exact ⟨0, by omega, rfl, Below.refl _ _⟩
  case round =>
    obtain ⟨k, hk, rfl, hB⟩ := hrel
    by_cases hkn : k < n
    · obtain ⟨ad, rfl, hab, c0, c1, c2, c3, c4, c5, c6, c7⟩ := (h.below hB).lst.atEd hd hkn
      have habw : ad.block < wr.heap.size := by have := hB.size; omega
      by_cases hkq : k < q
      · have hf := HL.out k hkq
        have hokx := HOK.out k hkn
        generalize hx : gEd d k = x at *
        have HF := Lib.hid hf
        have HOX := Lib.hid hokx
        clear hx hf hokx
        go_wp2_with fail
        refine (HF.out ▸ (HP.out.below hB).tells wr (grown_refl _ _) x HOX.out).mono ?_
        rintro e w1 ⟨rfl, hb1⟩
        have hB2 := hB.trans (hb1.mono hB.size)
        clear hb1 hB c0 c1 c2 c3 c4 c5 c6 c7
        go_wp2
        go_roundw
        case rel => exact ⟨k + 1, by omega, by go_num, hB2⟩
        case measure => simp [intOf]; omega
      · obtain rfl : k = q := by omega
        have hf := HH.out hkn
        have hokx := HOK.out k hkn
        generalize hx : gEd d k = x at *
        have HF := Lib.hid hf
        have HOX := Lib.hid hokx
        clear hx hf hokx
        go_wp2_with fail
        refine (HF.out ▸ (HP.out.below hB).tells wr (grown_refl _ _) x HOX.out).mono ?_
        rintro e w1 ⟨rfl, hb1⟩
        have hB2 := hB.trans (hb1.mono hB.size)
        clear hb1 hB c0 c1 c2 c3 c4 c5 c6 c7
        go_wp2
        go_ret
        exact ⟨by rw [idxOf_yes hkn]; rfl, hB2⟩
    · go_wp2
      go_ret
      exact ⟨by rw [idxOf_no (by omega)]; rfl, hB⟩
set_option maxHeartbeats 2000000 in
set_option maxRecDepth 100000 in
theorem deleteEdW (v : Value) (n : Nat) (d : List Ed) (g : FuncId) (lb : Array Value) (p : Ed → Bool) (w : World) (base : Nat) (hd : d.length = n) (hn : n ≤ 1000000) (hown : w.ownsRow base 86 8 v n (flatEd d)) (hok : ∀ k, k < n → (gEd d k).ok = true) (hp : PredEdW g lb v.ownBlock w p) :
    Calls Tryz.prog 161 #[v, .func (.func g) #[] lb] w fun e w' => ∃ v', e = .returned v' ∧ w'.ownsRow base 86 8 v' (d.filter (fun x => !p x)).length (flatEd (d.filter (fun x => !p x))) ∧ w.grownBy w' v.ownBlock := by
  by_cases ha : d.any p = true
  · obtain ⟨q, hq, h1, h2⟩ := firstHitEd ha
    obtain ⟨g0, c0, rfl, hnc, hcm, hgb, hgl⟩ := own_at hown (by omega)
    unfold maxLen at hcm
    obtain ⟨i0, hi0, hz0, hz1, hz2⟩ := info_parts infoEd
    have hqn : q < n := by omega
    have hcf := hp.run
    have hS := Sl.of_own hown
    have HP := Lib.hid hp
    have hpos : ((q : Int) == -1) = false := beq_eq_false_iff_ne.2 (by omega)
    have hst : (d.take (q + 1)).filter (fun x => !p x) = d.take q := by
      rw [filt_nextEd hq, filt_allEd q (by omega) h1, if_pos h2, List.append_nil]
    have HST := Lib.hid hst
    have HD := Lib.hid hd
    have HOK := Lib.hid hok
    clear hp ha hst hok
    go_enter Tryz.func161, Tryz.ntmps161
    go_wp2_with fail
    refine (indexEdW (some ⟨g0, 0, none⟩) n c0 d g lb _ p w HD.out hn hS HOK.out HP.out q (by omega) h1 (fun _ => h2)).mono ?_
    rintro e w1 ⟨rfl, hB⟩
    rw [idxOf_yes hqn]
    have hown1 := hown.kept (grown_of_below (row := none) hB) (.inr (by simp [Value.ownBlock]))
    have hg1 : w.grownBy w1 (some g0) := grown_of_below hB
    clear hB hown hS h1 h2 hd
    go_wp2
    go_loopw [5, 6] (fun iv jv wr => ∃ (i j : Nat) (e : List Ed), iv = .int .i64 i ∧ jv = .int .i64 j ∧ i < j ∧ j ≤ n ∧ Hid (e.length = n) ∧ Hid (e.take i = (d.take j).filter (fun x => !p x)) ∧ Hid (e.drop j = d.drop j) ∧ wr.ownsRow base 86 8 (.slice (some ⟨g0, 0, none⟩) n c0) n (flatEd e) ∧ w.grownBy wr (some g0)) (fun _ jv _ => n - (intOf jv).toNat)
    case atStart => exact ⟨q, q + 1, d, rfl, by go_num, by omega, by omega, HD.out, HST.out.symm, rfl, hown1, hg1⟩
    case round =>
      clear hown1 hg1
      obtain ⟨i, j, e, rfl, rfl, hij, hjn, HE, HT, HR, hown, hg⟩ := hrel
      have hic : i < c0 := by omega
      by_cases hj : j < n
      · obtain ⟨c0, c1, c2, c3, c4, c5, c6, c7⟩ := ownEd_at hown HE.out hj
        have hx0 : gEd e j = gEd d j := drop_atEd (by rw [HE.out, HD.out]) HR.out (by have := HD.out; omega)
        obtain ⟨x, hx⟩ : ∃ x, gEd d j = x := ⟨_, rfl⟩
        rw [hx0, hx] at c0 c1 c2 c3 c4 c5 c6 c7
        have HX := Lib.hid hx
        have HOX : Hid (x.ok = true) := by show x.ok = true; rw [← hx]; exact HOK.out j hj
        clear hx hx0
        have hgw : g0 < wr.heap.size := by have := hg.size; omega
        go_wp2_with fail
        have hBa : Below wr.heap.size wr (wr.alloc (.cells #[.int .i64 x.id, .int .i64 x.fr, .int .i64 x.tn, .int .i64 x.op, .int .i64 x.en, .int .i64 x.ra, .int .i64 x.ow, .int .i64 x.ro] 86)) := (Below.refl _ _).alloc (Nat.le_refl _) _
        have hBlk := Blok.new wr 86 #[.int .i64 x.id, .int .i64 x.fr, .int .i64 x.tn, .int .i64 x.op, .int .i64 x.en, .int .i64 x.ra, .int .i64 x.ow, .int .i64 x.ro]
        have ht := (HP.out.next (grown_trans hg (grown_of_below (row := some g0) hBa))).tells _ (grown_refl _ _) x HOX.out
        cases hpx : p x
        · have hgo := set_stepEd (p := p) HE.out HD.out hij hj HT.out HR.out (by rw [HX.out]; exact hpx)
          rw [HX.out] at hgo
          have HG := Lib.hid hgo
          rw [hpx] at ht
          have HPX := Lib.hid hpx
          clear hgo hpx
          refine ht.mono ?_
          rintro e1 w2 ⟨rfl, hb2⟩
          have hBlk2 := hBlk.below hb2 (by simp)
          have hb3 := hBa.trans (hb2.mono (by simp))
          have hown2 := hown.kept (grown_of_below (row := none) hb3) (.inr (by simp [Value.ownBlock]))
          have hg2 := grown_trans hg (grown_of_below (row := some g0) hb3)
          have b0 : w2.cell? ⟨wr.heap.size, 0, none⟩ = some (.int .i64 x.id) := hBlk2.cell 0
          have b1 : w2.cell? ⟨wr.heap.size, 1, none⟩ = some (.int .i64 x.fr) := hBlk2.cell 1
          have b2 : w2.cell? ⟨wr.heap.size, 2, none⟩ = some (.int .i64 x.tn) := hBlk2.cell 2
          have b3 : w2.cell? ⟨wr.heap.size, 3, none⟩ = some (.int .i64 x.op) := hBlk2.cell 3
          have b4 : w2.cell? ⟨wr.heap.size, 4, none⟩ = some (.int .i64 x.en) := hBlk2.cell 4
          have b5 : w2.cell? ⟨wr.heap.size, 5, none⟩ = some (.int .i64 x.ra) := hBlk2.cell 5
          have b6 : w2.cell? ⟨wr.heap.size, 6, none⟩ = some (.int .i64 x.ow) := hBlk2.cell 6
          have b7 : w2.cell? ⟨wr.heap.size, 7, none⟩ = some (.int .i64 x.ro) := hBlk2.cell 7
          have z0 := hown2.frozenAt (i * 8)
          have z1 := hown2.frozenAt (i * 8 + 1)
          have z2 := hown2.frozenAt (i * 8 + 2)
          have z3 := hown2.frozenAt (i * 8 + 3)
          have z4 := hown2.frozenAt (i * 8 + 4)
          have z5 := hown2.frozenAt (i * 8 + 5)
          have z6 := hown2.frozenAt (i * 8 + 6)
          have z7 := hown2.frozenAt (i * 8 + 7)
          obtain ⟨hS1, hS2⟩ := ownEd_store hown2 i x
          clear ht hBlk hb2 hb3 hBa c0 c1 c2 c3 c4 c5 c6 c7 hBlk2
          obtain ⟨o0, o1, o2, o3, o4, o5, o6, o7⟩ := ownEd_at hown2 HE.out (k := i) (by omega)
          go_wp2
          go_roundw
          case rel => exact ⟨i + 1, j + 1, e.set i x, by go_num, by go_num, by omega, by omega, (Lib.hid (by have := HE.out; simpa using this)), HG.out.1, HG.out.2, hS1, grown_trans hg2 hS2⟩
          case measure => simp [intOf]; omega
        · rw [hpx] at ht
          have hfn : (d.take (j + 1)).filter (fun x => !p x) = (d.take j).filter (fun x => !p x) := by
            rw [filt_nextEd (by have := HD.out; omega), HX.out, if_pos hpx, List.append_nil]
          have HF := Lib.hid hfn
          clear hpx hfn
          refine ht.mono ?_
          rintro e1 w2 ⟨rfl, hb2⟩
          have hb3 := hBa.trans (hb2.mono (by simp))
          have hown2 := hown.kept (grown_of_below (row := none) hb3) (.inr (by simp [Value.ownBlock]))
          have hg2 := grown_trans hg (grown_of_below (row := some g0) hb3)
          have hdr : e.drop (j + 1) = d.drop (j + 1) := by
            rw [← List.drop_drop, ← List.drop_drop, HR.out]
          have HDR := Lib.hid hdr
          clear ht hBlk hb2 hb3 hBa c0 c1 c2 c3 c4 c5 c6 c7 hdr
          go_wp2
          go_roundw
          case rel => exact ⟨i, j + 1, e, rfl, by go_num, by omega, by omega, HE.out, HT.out.trans HF.out.symm, HDR.out, hown2, hg2⟩
          case measure => simp [intOf]; omega
      · obtain rfl : j = n := by omega
        have hci : ¬ c0 = i := by omega
        have hiI : (i : Int) ≤ (j : Int) := by omega
        have hicI : (i : Int) ≤ (c0 : Int) := by omega
        have hfin : e.take i = d.filter (fun x => !p x) := by
          have := HT.out
          rw [List.take_of_length_le (l := d) (by have := HD.out; omega)] at this
          exact this
        have HFIN := Lib.hid hfin
        have hlen : (d.filter (fun x => !p x)).length = i := by
          rw [← hfin, List.length_take, HE.out]; omega
        have HLEN := Lib.hid hlen
        clear hfin hlen
        go_wp2_with (first
          | (with_reducible refine wpList_clear_own rfl (.tmp 38) 47 rfl base 86 i0 _ 8 Tryz.underlying47 hi0 hz0 rfl (by simp [Value.oneCell', Value.cells]) g0 j c0 i (flatEd e) hown (by omega) (some ⟨g0, i * 8, none⟩) (c0 - i) rfl (.inl (by rw [Addr.add_lit, Nat.zero_add])) ?_
             intro w2 ys hown2 htake hg2))
        go_ret
        refine ⟨_, rfl, ?_, grown_trans hg hg2⟩
        have hc := own_cut hown2 (m := i) (by omega)
        rw [htake, flatEd_take, HFIN.out] at hc
        rw [HLEN.out]
        exact hc
  · have ha' : d.any p = false := by simpa using ha
    obtain ⟨A, c, rfl⟩ := slice_of_own hown
    have hS := Sl.of_own hown
    have HP := Lib.hid hp
    have hcf := hp.run
    have hno : ((-1 : Int) == -1) = true := by simp
    have hfil : d.filter (fun x => !p x) = d := by
      have := filt_allEd (p := p) d.length (Nat.le_refl _) (fun j hj => noHitEd ha' hj)
      rw [List.take_length] at this
      exact this
    rw [hfil]
    have HD := Lib.hid hd
    clear hp ha hfil hd
    go_enter Tryz.func161, Tryz.ntmps161
    go_wp2_with fail
    refine (indexEdW A n c d g lb _ p w HD.out hn hS hok HP.out n (Nat.le_refl _) (fun j hj => noHitEd ha' (by have := HD.out; omega)) (fun h => by omega)).mono ?_
    rintro e w1 ⟨rfl, hB⟩
    rw [idxOf_no (by omega : ¬ n < n)]
    go_wp2
    go_ret
    refine ⟨_, rfl, ?_, grown_of_below hB⟩
    rw [HD.out]
    exact hown.kept (grown_of_below (row := some w.heap.size) hB) (.inr (fun e => by have := (hown.lt _ e).2; omega))
end Go.Proofs.YtodcoockhkghdaaGreat
namespace Go.Proofs.YtodcoockhkghdaaGreat
open Go.ChangeShapes Go.WideShapes Go.ChangeAt Go.RowKit Go.Sort Go.Maps Hp
set_option linter.unusedSimpArgs false
set_option linter.unusedVariables false
set_option maxHeartbeats 2000000 in
set_option maxRecDepth 100000 in
theorem wclos_any (pn pm g k:Nat) (S:Int → Bool) (node:Int) (x:Ed) (w:World) (hx:(Lit.int .i64 x.id).wf = true) (h1:Blok w pn 3 #[.int .i64 node]) (h2:Blok w pm 134 #[.map (some g)]) (hS:SetW w g k S) (b:Bool) (hb:(x.fr == node && S x.id) = b) :
  Calls Tryz.prog 163 #[.agg #[.int .i64 x.id,.int .i64 x.fr,.int .i64 x.tn,.int .i64 x.op,.int .i64 x.en,.int .i64 x.ra,.int .i64 x.ow,.int .i64 x.ro],.pointer (some ⟨pn,0,none⟩),.pointer (some ⟨pm,0,none⟩)] w fun e w' => e = .returned (.bool b) ∧ Below w.heap.size w w':=by
 have hB:Below w.heap.size w (w.alloc (.cells #[.int .i64 x.id,.int .i64 x.fr,.int .i64 x.tn,.int .i64 x.op,.int .i64 x.en,.int .i64 x.ra,.int .i64 x.ow,.int .i64 x.ro] 86)):=(Below.refl _ _).alloc (Nat.le_refl _) _
 have hX:=Blok.new w 86 #[.int .i64 x.id,.int .i64 x.fr,.int .i64 x.tn,.int .i64 x.op,.int .i64 x.en,.int .i64 x.ra,.int .i64 x.ow,.int .i64 x.ro]
 have h1':=h1.below hB h1.lt
 have h2':=h2.below hB h2.lt
 have hlk:=(hS.below hB).look hx
 clear h1 h2 hS hx
 obtain ⟨s,hs⟩:∃ s,S x.id = s:=⟨_,rfl⟩
 rw [hs] at hlk hb
 clear hs
 go_enter Tryz.func163,Tryz.ntmps163
 go_upto_region 1 with fail
 have HB:=Lib.hid hB
 clear hB
 generalize w.alloc (.cells #[.int .i64 x.id,.int .i64 x.fr,.int .i64 x.tn,.int .i64 x.op,.int .i64 x.en,.int .i64 x.ra,.int .i64 x.ow,.int .i64 x.ro] 86) = w2 at *
 obtain ⟨eb,heb⟩:∃ z,w.heap.size = z:=⟨_,rfl⟩
 rw [heb] at hX
 try rw [heb]
 clear heb
 have x0:w2.cell? ⟨eb,0,none⟩ = some (.int .i64 x.id):=hX.cell 0
 have x1:w2.cell? ⟨eb,1,none⟩ = some (.int .i64 x.fr):=hX.cell 1
 have lt_x:=hX.lt
 have c1:w2.cell? ⟨pn,0,none⟩ = some (.int .i64 node):=h1'.cell 0
 have l1:=h1'.lt
 have c2:w2.cell? ⟨pm,0,none⟩ = some (.map (some g)):=h2'.cell 0
 have l2:=h2'.lt
 clear hX h1' h2'
 by_cases hf:x.fr = node
 ·have hq:(x.fr == node) = true:=beq_iff_eq.2 hf
  rw [hq,Bool.true_and] at hb
  subst hb
  clear hf
  go_wp2_with fail
  go_ret
  exact ⟨rfl,HB.out⟩
 ·have hq:(x.fr == node) = false:=beq_eq_false_iff_ne.2 hf
  rw [hq,Bool.false_and] at hb
  subst hb
  clear hf
  go_wp2_with fail
  go_ret
  exact ⟨rfl,HB.out⟩
theorem pred_without (pn pm g k:Nat) (S:Int → Bool) (node:Int) (row:Option Nat) (w:World) (h1:Blok w pn 3 #[.int .i64 node]) (h2:Blok w pm 134 #[.map (some g)]) (hS:SetW w g k S) (hr1:row ≠ some pn) (hr2:row ≠ some pm) (hr3:row ≠ some g) :
  PredEdW 163 #[.pointer (some ⟨pn,0,none⟩),.pointer (some ⟨pm,0,none⟩)] row w (fun x => x.fr == node && S x.id):=
 ⟨enter_run Tryz.func163 rfl rfl,fun w' hg x hx => wclos_any pn pm g k S node x w' (wfI (by have:=(Ed.ok_spec.1 hx).1; omega)) (h1.grown hg (fun e => hr1 e.symm)) (h2.grown hg (fun e => hr2 e.symm)) (hS.kept hg (fun e => hr3 e.symm)) _ rfl⟩
def bansB (l:List Int) (x:Int):Bool:=l.contains x
set_option maxHeartbeats 4000000 in
set_option maxRecDepth 100000 in
theorem without_any (A:Option Addr) (n c:Nat) (l:List Ed) (node:Int) (Ab:Option Addr) (nb cb:Nat) (bans:List Int) (w:World) (hd:l.length = n) (hn:n ≤ 1000000) (hok:∀ k,k < n → (gEd l k).ok = true) (hdb:bans.length = nb) (hnb:nb ≤ 100000) (hwf:∀ k,k < nb → (Lit.int .i64 (bans.getD k 0)).wf = true) (hle:Sl w w.heap.size 8 A n c (flatEd l)) (hlb:Sl w w.heap.size 1 Ab nb cb (bans.map (Value.int .i64))) :
  Calls Tryz.prog 120 #[.slice A n c,.int .i64 node,.slice Ab nb cb] w fun e w' => ∃ v,e = .returned v ∧ w'.ownsRow w.heap.size 86 8 v (withoutE l node bans).length (flatEd (withoutE l node bans)) ∧ Below w.heap.size w w':=by
 have HD:=Lib.hid hd
 have HOK:=Lib.hid hok
 have HDB:=Lib.hid hdb
 have HWF:=Lib.hid hwf
 have HLE:=Lib.hid (fun w' (hb:Below w.heap.size w w') => hle.up hb)
 have HLB:=Lib.hid (fun w' (hb:Below w.heap.size w w') => hlb.up hb)
 clear hd hok hdb hwf hle hlb
 go_enter Tryz.func120,Tryz.ntmps120
 go_upto_region 1 with fail
 have hB1:Below w.heap.size w (w.alloc (.cells #[.int .i64 node] 3)):=(Below.refl _ _).alloc (Nat.le_refl _) _
 have hN1:=Blok.new w 3 #[.int .i64 node]
 obtain ⟨pn,hpn⟩:∃ z,w.heap.size = z:=⟨_,rfl⟩
 have HPN:Hid (w.heap.size ≤ pn):=Nat.le_of_eq hpn
 generalize w.alloc (.cells #[.int .i64 node] 3) = w1 at *
 rw [hpn] at hN1
 try rw [hpn]
 clear hpn
 have hmk:=run_makeMapV (P:=Tryz.prog) 134 3 4 .i64 (nb:Int) Tryz.underlying134 w1
 have hS0:=SetW.made w1
 have hb2:Below w1.heap.size w1 (w1.alloc (.map #[] 0)):=(Below.refl _ _).alloc (Nat.le_refl _) _
 have hb3:Below (w1.alloc (.map #[] 0)).heap.size (w1.alloc (.map #[] 0)) ((w1.alloc (.map #[] 0)).alloc (.cells #[.map (some w1.heap.size)] 134)):=(Below.refl _ _).alloc (Nat.le_refl _) _
 have hM3:=Blok.new (w1.alloc (.map #[] 0)) 134 #[.map (some w1.heap.size)]
 have hs2:(w1.alloc (.map #[] 0)).heap.size = w1.heap.size + 1:=by simp
 have hN3:=(hN1.below hb2 hN1.lt).below hb3 (by have:=hN1.lt; omega)
 have hS3:=hS0.below hb3
 have hB3:=(hB1.trans (hb2.mono hB1.size)).trans (hb3.mono (hB1.trans (hb2.mono hB1.size)).size)
 have hlt1:=hN1.lt
 have hws1:=hB1.size
 rw [hs2] at hM3
 go_wp2_with fail
 clear hmk hS0 hb2 hb3 hN1 hB1 hs2
 generalize (w1.alloc (.map #[] 0)).alloc (.cells #[.map (some w1.heap.size)] 134) = w3 at *
 generalize w1.heap.size = g at *
 clear w1
 go_loopw [15] (fun i wr => ∃ k k':Nat,k ≤ nb ∧ k' ≤ k ∧ i = .int .i64 k ∧ Blok wr pn 3 #[.int .i64 node] ∧ Blok wr (g + 1) 134 #[.map (some g)] ∧ SetW wr g k' (bansB (bans.take k)) ∧ Below w.heap.size w wr) (fun i _ => nb - (intOf i).toNat)
 case atStart => exact ⟨0,0,by omega,by omega,rfl,hN3,hM3,hS3.congr (fun k _ => by simp [bansB]),hB3⟩
 case round =>
  clear hN3 hM3 hS3 hB3 w3
  obtain ⟨k,k',hk,hk',rfl,hN,hM,hS,hB⟩:=hrel
  have hs:=hB.size
  by_cases hkn:k < nb
  ·obtain ⟨ad,rfl,hab,c0⟩:=(HLB.out _ hB).lst.atI HDB.out hkn
   have htk:=take_nextI (l:=bans) (k:=k) (by rw [HDB.out]; exact hkn)
   have hw:=HWF.out k hkn
   obtain ⟨id,hid⟩:∃ q,bans.getD k 0 = q:=⟨_,rfl⟩
   rw [hid] at c0 hw htk
   have HW:=Lib.hid hw
   have HTK:=Lib.hid htk
   clear hid hw htk
   have m0:wr.cell? ⟨g + 1,0,none⟩ = some (.map (some g)):=hM.cell 0
   have lt_m:=hM.lt
   have HN:=Lib.hid hN
   have HM:=Lib.hid hM
   clear hN hM
   go_wp2_with (at_mapUpdate; refine wpList_put_set rfl _ _ _ rfl g k' _ id true rfl hS (by unfold maxLen; omega) rfl HW.out rfl ?_; intro w4 hS4 hg4)
   clear c0 m0 lt_m
   have hgl:∀ j,some g = some j → w.heap.size ≤ j:=fun j hj => by injection hj with hj; have:=HPN.out; omega
   have hB4:Below w.heap.size w w4:=hB.grown hg4 hs hgl
   have hN4:=HN.out.grown hg4 (by intro e; injection e with e; omega)
   have hM4:=HM.out.grown hg4 (by intro e; injection e with e; omega)
   have hS5:SetW w4 g (k' + 1) (bansB (bans.take (k + 1))):=hS4.congr (fun j _ => by
    rw [HTK.out]
    unfold bansB
    by_cases e:j = id
    ·subst e; simp
    ·rw [if_neg e]; simp [e])
   clear hS4 hg4 hgl hS hB HN HM
   go_wp2_with fail
   go_roundw
   case rel => exact ⟨k + 1,k' + 1,by omega,by omega,by go_num,hN4,hM4,hS5,hB4⟩
   case measure => simp [intOf]; omega
  ·obtain rfl:k = nb:=by omega
   rw [List.take_of_length_le (by rw [HDB.out]; omega)] at hS
   have HN:=Lib.hid hN
   have HM:=Lib.hid hM
   have HS:=Lib.hid hS
   have HB:=Lib.hid hB
   clear hN hM hS hB
   go_wp2_with fail
   refine (cloneEd A n c l wr HD.out hn (HLE.out _ HB.out)).mono ?_
   rintro e w4 ⟨v,rfl,hown,hb4⟩
   have hN4:=HN.out.below hb4 HN.out.lt
   have hM4:=HM.out.below hb4 HM.out.lt
   have hS4:=HS.out.below hb4
   have hB4:=HB.out.trans (hb4.mono HB.out.size)
   have hoff:∀ q,v.ownBlock = some q → wr.heap.size ≤ q:=fun q hq => (hown.lt q hq).1
   have l1:=HN.out.lt
   have l2:=HM.out.lt
   have hp:=pred_without pn (g + 1) g k' (bansB bans) node v.ownBlock w4 hN4 hM4 hS4 (fun e => by have:=hoff _ e; omega) (fun e => by have:=hoff _ e; omega) (fun e => by have:=hoff _ e; omega)
   have HP:=Lib.hid hp
   have HOW:=Lib.hid hown
   have HB4:=Lib.hid hB4
   have HOF:=Lib.hid hoff
   clear hp hN4 hM4 hS4 hB4 hown hoff hb4
   go_wp2_with fail
   refine (deleteEdW v n l _ _ _ w4 wr.heap.size HD.out hn HOW.out HOK.out HP.out).mono ?_
   rintro e w5 ⟨v',rfl,hown',hg5⟩
   have hB5:Below w.heap.size w w5:=HB4.out.grown hg5 HB4.out.size (fun q hq => by have:=HOF.out q hq; have:=HB.out.size; omega)
   have hws:=HB.out.size
   go_wp2_with fail
   go_ret
   refine ⟨_,rfl,?_,hB5⟩
   exact own_down hown' hws
end Go.Proofs.YtodcoockhkghdaaGreat
