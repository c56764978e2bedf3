/- Routes in memory; order.clone. No condition but on sizes. -/
import Derived.Test.YtbhhkaaidhapbaaGQ2
import Derived.Test.YtbhhkaaidhapbaaSlRh
namespace Go.Proofs.Ytbhhkaaidhapbaa
open Go.ChangeShapes Go.WideShapes Go.ChangeAt Go.RowKit Go.Sort
set_option linter.unusedSimpArgs false
set_option linter.unusedVariables false
/-- A route: its head, its hops. -/
structure Rx where
  h : Rh
  d : List Hp
def Rx.ok (w : World) (x : Rx) : Prop := x.d.length = x.h.n ∧ x.h.n ≤ 1000000 ∧ Sl w w.heap.size 3 x.h.A x.h.n x.h.c (flatHp x.d)
/-- Its hops do not lie in block g. -/
def Rx.off (g : Nat) (x : Rx) : Prop := ∀ ad, x.h.A = some ad → ad.block ≠ g
/-- Its hops lie in memory of the call's own, behind base. -/
def Rx.own (w : World) (base : Nat) (x : Rx) : Prop := w.ownsRow base 34 3 (.slice x.h.A x.h.n x.h.c) x.h.n (flatHp x.d)
theorem Rx.own.low {w : World} {b b' : Nat} {x : Rx} (h : x.own w b) (hb : b' ≤ b) : x.own w b' := by
  refine ⟨h.1, ?_⟩
  rcases h.2 with h | ⟨g, cap, cur, h1, h2, h3⟩
  · exact .inl h
  · exact .inr ⟨g, cap, cur, h1, by omega, h3⟩
theorem Rx.own.below {w w' : World} {b : Nat} {x : Rx} (h : x.own w b) (hb : Below w.heap.size w w') : x.own w' b := World.ownsRow.kept h (grown_of_below (row := some w.heap.size) hb) (.inr (fun e => by have := (World.ownsRow.lt h _ e).2; omega))
theorem Rx.own.kept {w w' : World} {b g : Nat} {x : Rx} (h : x.own w b) (hg : w.grownBy w' (some g)) (ho : ∀ ad, x.h.A = some ad → ad.block ≠ g) : x.own w' b := World.ownsRow.kept h hg (.inr (fun e => by
  obtain ⟨⟨A, n, c, t⟩, d⟩ := x
  cases A with
  | none => simp [Value.ownBlock] at e
  | some ad =>
    have e2 : ad.block = g := by simpa [Value.ownBlock] using e
    exact ho ad rfl e2))
def zeroRx : Rx := ⟨zeroRh, []⟩
instance inhRx : Inhabited Rx := ⟨zeroRx⟩
def gRx (l : List Rx) (i : Nat) : Rx := l.getD i zeroRx
def hdRx (l : List Rx) : List Rh := l.map Rx.h
theorem gRx_mem {d : List Rx} {i : Nat} (h : i < d.length) : gRx d i ∈ d := by
  unfold gRx; rw [List.getD_eq_getElem?_getD, List.getElem?_eq_getElem h]; simp
theorem gRx_hd {d : List Rx} {i : Nat} (h : i < d.length) : gRh (hdRx d) i = (gRx d i).h := by
  unfold gRh gRx hdRx
  rw [List.getD_eq_getElem?_getD, List.getD_eq_getElem?_getD, List.getElem?_map, List.getElem?_eq_getElem h]
  rfl
theorem Rx.ok_zero (w : World) : zeroRx.ok w := ⟨rfl, by show 0 ≤ 1000000; omega, Sl.nil0 _ _ _⟩
theorem Rx.ok.below {w w' : World} {x : Rx} (h : x.ok w) (hb : Below w.heap.size w w') : x.ok w' := ⟨h.1, h.2.1, h.2.2.up hb⟩
theorem Sl.on_ {w w' : World} {B B' k n c : Nat} {A : Option Addr} {xs : List Value} (h : Sl w B k A n c xs) (hk : ∀ ad, A = some ad → ad.block < B → w'.heap[ad.block]? = w.heap[ad.block]? ∧ ad.block < B') : Sl w' B' k A n c xs :=
  ⟨⟨h.lst.len, fun hn => by
    obtain ⟨ad, e, hb, hc⟩ := h.lst.at_ hn
    obtain ⟨h1, h2⟩ := hk ad e hb
    exact ⟨ad, e, h2, fun j u hu => (World.cell?_of_block (by rw [add_block]; exact h1)).trans (hc j u hu)⟩⟩, h.cap, h.max, h.nil⟩
theorem Rx.ok.kept {w w' : World} {x : Rx} {g : Nat} (h : x.ok w) (hg : w.grownBy w' (some g)) (ho : x.off g) : x.ok w' :=
  ⟨h.1, h.2.1, h.2.2.on_ fun ad e hb => ⟨hg.block _ hb (fun e2 => ho ad e (by injection e2)), Nat.lt_of_lt_of_le hb hg.size⟩⟩
structure CopyI (w wr : World) (g c n : Nat) (l : List Rx) (k : Nat) (hk : List Rh) : Prop where
  len : hk.length = n
  own : wr.ownsRow w.heap.size 25 2 (.slice (some ⟨g, 0, none⟩) n c) n (flatRh hk)
  fresh : ∀ j, j < k → Rx.ok wr ⟨gRh hk j, (gRx l j).d⟩ ∧ Rx.off g ⟨gRh hk j, (gRx l j).d⟩ ∧ (gRh hk j).t = (gRx l j).h.t ∧ Rx.own wr w.heap.size ⟨gRh hk j, (gRx l j).d⟩
  old : ∀ j, k ≤ j → j < n → gRh hk j = (gRx l j).h
  below : Below w.heap.size w wr
theorem gRh_set {d : List Rh} {i j : Nat} {p : Rh} (hi : i < d.length) : gRh (d.set i p) j = if j = i then p else gRh d j := by
  unfold gRh
  rw [List.getD_eq_getElem?_getD, List.getD_eq_getElem?_getD, List.getElem?_set]
  by_cases e : i = j
  · subst e; simp [hi]
  · rw [if_neg e, if_neg (fun h => e h.symm)]
set_option maxHeartbeats 2000000 in
set_option maxRecDepth 100000 in
/-- The routes in new memory: the same, off the row's block. -/
theorem clone_any (A : Option Addr) (n c : Nat) (l : List Rx) (w : World) (hl : l.length = n) (hn : n ≤ 1000000) (h : Sl w w.heap.size 2 A n c (flatRh (hdRx l))) (hok : ∀ x ∈ l, x.ok w) :
    Calls Try.prog 23 #[.slice A n c] w fun e w' => ∃ v m, e = .returned v ∧ m.length = n ∧ (∀ j, j < n → (gRx m j).d = (gRx l j).d ∧ (gRx m j).h.t = (gRx l j).h.t) ∧ (∀ x ∈ m, (x.ok w' ∧ ∀ g, v.ownBlock = some g → x.off g) ∧ x.own w' w.heap.size) ∧ w'.ownsRow w.heap.size 25 2 v n (flatRh (hdRx m)) ∧ Below w.heap.size w w' := by
  have hlh : (hdRx l).length = n := by unfold hdRx; simp [hl]
  have HOK := Lib.hid hok
  have HL := Lib.hid hl
  clear hok hl
  go_enter Try.func23, Try.ntmps23
  go_wp2_with fail
  refine (cloneRh A n c (hdRx l) w hlh hn h).mono ?_
  rintro e w1 ⟨v, rfl, hown, hB⟩
  obtain ⟨A1, c1, rfl⟩ := slice_of_own hown
  clear h
  by_cases h0 : n = 0
  · subst h0
    have hl0 : Hid (l = []) := List.eq_nil_of_length_eq_zero HL.out
    go_wp2
    go_loopw [9] (fun i wr => i = .int .i64 0 ∧ wr = w1) (fun _ _ => 0)
    case atStart => exact ⟨rfl, rfl⟩
    case round =>
      obtain ⟨rfl, rfl⟩ := hrel
      go_wp2
      go_ret
      refine ⟨_, [], rfl, rfl, fun j hj => by omega, fun x hx => by simp at hx, ?_, hB⟩
      have h2 := hl0.out
      subst h2
      exact hown
  · obtain ⟨g, c2, e, hc2, _, hgb, hgl⟩ := own_at hown (by omega)
    injection e with e1 e2 e3
    subst e1
    subst e3
    have HI : Hid (CopyI w w1 g c1 n l 0 (hdRx l)) := ⟨hlh, hown, fun j hj => by omega, fun j _ hj => gRx_hd (by have := HL.out; omega), hB⟩
    clear hown hB hlh hgl
    go_wp2
    go_loopw [9] (fun i wr => ∃ (k : Nat), k ≤ n ∧ i = .int .i64 k ∧ Hid (∃ hk, CopyI w wr g c1 n l k hk)) (fun i _ => n - (intOf i).toNat)
    case atStart => exact ⟨0, by omega, rfl, ⟨_, HI.out⟩⟩
    case round =>
      clear HI
      obtain ⟨k, hk, rfl, HJ⟩ := hrel
      by_cases hkn : k < n
      · obtain ⟨hk', hI⟩ := HJ.out
        clear HJ
        obtain ⟨c0, c1'⟩ := ownRh_at hI.own hI.len hkn
        have hold := hI.old k (Nat.le_refl _) hkn
        have hxok := (HOK.out _ (gRx_mem (d := l) (i := k) (by have := HL.out; omega))).below hI.below
        rw [hold] at c0
        have ht : (gRh hk' k).t = (gRx l k).h.t := by rw [hold]
        have HT := Lib.hid ht
        clear hold ht
        obtain ⟨x, hx⟩ : ∃ x, gRx l k = x := ⟨_, rfl⟩
        rw [hx] at c0 hxok
        obtain ⟨q1, q2, q3⟩ := hxok
        have hs := hI.below.size
        have HX := Lib.hid hx
        have HI := Lib.hid hI
        have hgw := (hI.own.lt g rfl).2
        clear hx hI c1'
        go_wp2_with fail
        refine (cloneHp x.h.A x.h.n x.h.c x.d wr q1 q2 q3).mono ?_
        rintro e w4 ⟨v4, rfl, hown4, hb4⟩
        obtain ⟨A4, c4, rfl⟩ := slice_of_own hown4
        have hrow : w4.ownsRow w.heap.size 25 2 (.slice (some ⟨g, 0, none⟩) n c1) n (flatRh hk') := HI.out.own.kept (grown_of_below (row := some wr.heap.size) hb4) (.inr (fun e => by have := (HI.out.own.lt _ e).2; omega))
        obtain ⟨d0, d1⟩ := ownRh_at hrow HI.out.len hkn
        obtain ⟨hst, hsg⟩ := hrow.stored (k * 2) (.slice A4 x.h.n c4)
        rw [flatRh_set0 hk' k A4 x.h.n c4 (by rw [HI.out.len]; exact hkn)] at hst
        have hfz : w4.frozen? ⟨g, k * 2, none⟩ = false := by
          obtain ⟨g2, cap, cur, e, _, hg2, _⟩ := (hrow.2.resolve_left (fun h => by cases h.1))
          injection e with e
          injection e with e
          injection e with e
          subst e
          exact Blok.free (t := 25) (cs := cur) hg2 _
        have hgw4 := hb4.size
        have hBn : Below w.heap.size w (w4.setCell ⟨g, k * 2, none⟩ (.slice A4 x.h.n c4)) := (HI.out.below.trans (hb4.mono hs)).grown hsg (by omega) (fun q hq => by injection hq with hq; omega)
        have hoff4 : ∀ ad, A4 = some ad → wr.heap.size ≤ ad.block := fun ad e => (hown4.lt ad.block (by rw [e]; rfl)).1
        have HJ : Hid (∃ hk, CopyI w (w4.setCell ⟨g, k * 2, none⟩ (.slice A4 x.h.n c4)) g c1 n l (k + 1) hk) := by
          refine ⟨hk'.set k ⟨A4, x.h.n, c4, (gRh hk' k).t⟩, by simp [HI.out.len], hst, fun j hj => ?_, fun j h1 h2 => ?_, hBn⟩
          · rw [gRh_set (by rw [HI.out.len]; exact hkn)]
            by_cases ejk : j = k
            · rw [if_pos ejk, ejk, HX.out]
              have hoff : Rx.off g ⟨⟨A4, x.h.n, c4, (gRh hk' k).t⟩, x.d⟩ := fun ad e => by have := hoff4 ad e; omega
              exact ⟨Rx.ok.kept (w := w4) ⟨q1, q2, Sl.of_own hown4⟩ hsg hoff, hoff, by rw [HT.out, HX.out], Rx.own.kept (w := w4) (Rx.own.low (b := wr.heap.size) hown4 hs) hsg hoff⟩
            · rw [if_neg ejk]
              have hf := HI.out.fresh j (by omega)
              exact ⟨(hf.1.below hb4).kept hsg hf.2.1, hf.2.1, hf.2.2.1, (hf.2.2.2.below hb4).kept hsg hf.2.1⟩
          · rw [gRh_set (by rw [HI.out.len]; exact hkn), if_neg (by omega)]
            exact HI.out.old j (by omega) h2
        clear hst hsg hBn hown4 hb4 q3 c0 hrow
        go_wp2
        go_roundw
        case rel => exact ⟨k + 1, by omega, by go_num, HJ⟩
        case measure => simp [intOf]; omega
      · obtain rfl : k = n := by omega
        go_wp2
        go_ret
        obtain ⟨hk', hI⟩ := HJ.out
        have hgm : ∀ j, j < k → gRx ((List.range k).map fun j => (⟨gRh hk' j, (gRx l j).d⟩ : Rx)) j = ⟨gRh hk' j, (gRx l j).d⟩ := fun j hj => by
          unfold gRx; rw [List.getD_eq_getElem?_getD]; simp [hj]
        refine ⟨_, (List.range k).map fun j => ⟨gRh hk' j, (gRx l j).d⟩, rfl, by simp, fun j hj => ?_, fun x hx => ?_, ?_, hI.below⟩
        · rw [hgm j hj]; exact ⟨rfl, (hI.fresh j hj).2.2.1⟩
        · obtain ⟨j, hj, rfl⟩ := List.mem_map.1 hx
          have hf := hI.fresh j (by simpa using hj)
          refine ⟨⟨hf.1, fun q hq => ?_⟩, hf.2.2.2⟩
          injection hq with hq
          subst hq
          exact hf.2.1
        · have e : hdRx ((List.range k).map fun j => (⟨gRh hk' j, (gRx l j).d⟩ : Rx)) = hk' := by
            refine List.ext_getElem (by simp [hdRx, hI.len]) fun j h1 h2 => ?_
            simp [hdRx, gRh_eq h2]
          rw [e]; exact hI.own
end Go.Proofs.Ytbhhkaaidhapbaa
