/- The document's order of routes: Copy, Sort, Same. They make new memory alone. -/
import Derived.Test.YtbhhkaaidhapbaaO13
import Derived.Test.YtbhhkaaidhapbaaGQ7
import Derived.Test.YtbhhkaaidhapbaaSrtT
import Derived.Test.YtbhhkaaidhapbaaO12
import Derived.Deep.RegionLaw
namespace Go.Proofs.Ytbhhkaaidhapbaa
open Go.ChangeShapes Go.WideShapes Go.ChangeAt Go.RowKit Go.Sort
set_option linter.unusedSimpArgs false
set_option linter.unusedVariables false
theorem take_nextR {l : List Rx} {k : Nat} (h : k < l.length) : l.take (k + 1) = l.take k ++ [gRx l k] := by
  rw [List.take_succ_eq_append_getElem h]
  congr 2
  unfold gRx
  rw [List.getD_eq_getElem?_getD, List.getElem?_eq_getElem h]; rfl
theorem hdRx_one (x : Rx) : flatRh (hdRx [x]) = [.slice x.h.A x.h.n x.h.c, .int .i64 x.h.t] := rfl
theorem hdRx_app (l m : List Rx) : flatRh (hdRx (l ++ m)) = flatRh (hdRx l) ++ flatRh (hdRx m) := by unfold hdRx; rw [List.map_append, flatRh_append]
/-- A route's cells in a row that came in. -/
theorem rl_cell {w : World} {A : Option Addr} {n c : Nat} {L : List Rx} (hn : L.length = n) (h : Sl w w.heap.size 2 A n c (flatRh (hdRx L))) {k : Nat} (hk : k < n) : ∃ ad, A = some ad ∧ ad.block < w.heap.size ∧ w.cell? (ad.add (k * 2)) = some (.slice (gRx L k).h.A (gRx L k).h.n (gRx L k).h.c) ∧ w.cell? ⟨(ad.add (k * 2)).block, (ad.add (k * 2)).off + 1, none⟩ = some (.int .i64 (gRx L k).h.t) := by
  have hl : (hdRx L).length = n := by simp [hdRx, hn]
  obtain ⟨ad, e, hb, c0, c1⟩ := h.lst.atRh hl hk
  rw [gRx_hd (by omega)] at c0 c1
  exact ⟨ad, e, hb, c0, c1⟩
set_option maxHeartbeats 8000000 in
set_option maxRecDepth 100000 in
theorem rcopy13_rt (A : Option Addr) (n c : Nat) (L : List Rx) (w : World) (hl : L.length = n) (hn : n ≤ 20000000000) (h : Sl w w.heap.size 2 A n c (flatRh (hdRx L))) (hok : ∀ x ∈ L, x.ok w) :
    Calls Try.prog 10 #[.slice A n c] w fun e w' => ∃ v, e = .returned v ∧ (∃ L1, RtRow w' w.heap.size v L1 ∧ L1.map Rx.rt = L.map Rx.rt) ∧ Below w.heap.size w w' := by
  obtain ⟨i0, hi0, hz0, hz1, hz2⟩ := info_parts infoRh
  obtain ⟨j0, hj0, hy0, hy1, hy2⟩ := info_parts infoHp
  have HL := Lib.hid hl
  have HH := Lib.hid (fun w' (hb : Below w.heap.size w w') => h.up hb)
  have HOK := Lib.hid hok
  clear hl h hok
  go_enter Try.func10, Try.ntmps10
  go_wp2_with fail
  go_loopw [3, 4] (fun ov iv wr => ∃ (k : Nat) (O : List Rx) (A5 : Option Addr) (c5 : Nat), iv = .int .i64 (k : Int) ∧ k ≤ n ∧ ov = .slice A5 k c5 ∧ O.length = k ∧ Hid (RtRow wr w.heap.size (.slice A5 k c5) O) ∧ Hid (O.map Rx.rt = (L.take k).map Rx.rt) ∧ Below w.heap.size w wr) (fun _ iv _ => n - (intOf iv).toNat)
  case atStart => exact ⟨0, [], none, 0, rfl, Nat.zero_le _, rfl, rfl, ⟨World.ownsRow_nil _ _ _ _, fun x hx => (by cases hx), fun x hx => (by cases hx)⟩, rfl, Below.refl _ _⟩
  case round =>
    obtain ⟨k, O, A5, c5, rfl, hk, rfl, hO, HR, HM, hB⟩ := hrel
    by_cases hkn : k < n
    · obtain ⟨ad, rfl, hab, p0, p1⟩ := rl_cell HL.out (HH.out _ hB) hkn
      obtain ⟨x, hx⟩ : ∃ x, gRx L k = x := ⟨_, rfl⟩
      rw [hx] at p0 p1
      have hxL : x ∈ L := by rw [← hx]; exact gRx_mem (by rw [HL.out]; exact hkn)
      obtain ⟨xl, xm, xs⟩ := HOK.out x hxL
      have xs1 := xs.up hB
      have HTK : Hid ((L.take (k + 1)).map Rx.rt = (L.take k).map Rx.rt ++ [x.rt]) := by show _ = _; rw [take_nextR (by rw [HL.out]; exact hkn), List.map_append, hx]; rfl
      obtain ⟨⟨xA, xn, xc, xt⟩, xd⟩ := x
      have xl' : xd.length = xn := xl
      have xm' : xn ≤ 1000000 := xm
      have xs2 : Sl wr wr.heap.size 3 xA xn xc (flatHp xd) := xs1
      have q0 : wr.cell? (ad.add (k * 2)) = some (.slice xA xn xc) := p0
      have q1 : wr.cell? ⟨(ad.add (k * 2)).block, (ad.add (k * 2)).off + 1, none⟩ = some (.int .i64 xt) := p1
      have XL := Lib.hid xl'
      have XS := Lib.hid (fun w' (hb : Below wr.heap.size wr w') => xs2.up hb)
      have HOL := Lib.hid hO
      have hws := hB.size
      have HB := Lib.hid hB
      have Q0 := Lib.hid q0
      have Q1 := Lib.hid q1
      clear hx hxL xl xm xs xs1 p0 p1 xl' xs2 hO hB
      have hkI : (k : Int) < (n : Int) := by omega
      have HR1 := HR
      have hab2 : (ad.add (k * 2)).block < wr.heap.size := by rw [add_block]; exact hab
      go_wp2_with fail
      go_region_law (first
        | (refine step_append_lst _ rfl (.tmp 12) (.tmp 17) 23 rfl wr.heap.size 34 j0 _ 3 24 Try.underlying23 hj0 hy0 hy1 hy2 rfl (by decide) _ 0 [] rfl (by exact own_lit wr wr.heap.size 34 3 0 #[] (Nat.le_refl _) rfl (by simp)) _ xA xn xc (flatHp xd) rfl (XS.out _ (by (repeat (first | exact Below.refl _ _ | refine Below.alloc ?_ (by first | omega | (simp; done) | (simp; omega)) _ | refine Below.setCell ?_ (by first | omega | (simp; done) | (simp; omega)) _ | refine Below.drew ?_)))).lst (flatHp_one xd) (by unfold maxLen; omega) (by omega) (by simp) ?_
           intro v3 w3 hown3 hg3 hat3
           have hB3 : Below wr.heap.size wr w3 := Below.grown (by (repeat (first | exact Below.refl _ _ | refine Below.alloc ?_ (by first | omega | (simp; done) | (simp; omega)) _ | refine Below.setCell ?_ (by first | omega | (simp; done) | (simp; omega)) _ | refine Below.drew ?_))) hg3 (by simp) (fun g hg => Nat.le_of_eq (Option.some.inj hg))
           have q0' : w3.cell? (ad.add (k * 2)) = some (.slice xA xn xc) := (hB3.cell (p := ad.add (k * 2)) (by rw [add_block]; exact hab)).trans Q0.out
           have q1' : w3.cell? ⟨(ad.add (k * 2)).block, (ad.add (k * 2)).off + 1, none⟩ = some (.int .i64 xt) := (hB3.cell (p := ⟨(ad.add (k * 2)).block, (ad.add (k * 2)).off + 1, none⟩) (by show (ad.add (k * 2)).block < _; rw [add_block]; exact hab)).trans Q1.out
           have hab3 : (ad.add (k * 2)).block < w3.heap.size := Nat.lt_of_lt_of_le hab2 hB3.size
           have hws3 := hB3.size
           simp only [Nat.zero_add, List.nil_append] at hown3
           obtain ⟨A3, c3, rfl⟩ := slice_of_own hown3
           have HW3 := Lib.hid hown3
           have HB3 := Lib.hid hB3
           clear hat3 hg3 hown3 hB3)
        | (refine step_append_own rfl (.tmp 11) (.tmp 25) 22 rfl w.heap.size 25 i0 _ 2 32 Try.underlying22 hi0 hz0 hz1 hz2 rfl (by decide) (.slice A5 k c5) k (flatRh (hdRx O)) rfl (by have HR1r := HR1.out.row; rw [HOL.out] at HR1r; first | exact (own_belowK HR1r HB3.out).alloc _ | exact own_belowK (own_belowK HR1r HB3.out) (by (repeat (first | exact Below.refl _ _ | refine Below.alloc ?_ (by first | omega | (simp; done) | (simp; omega)) _ | refine Below.setCell ?_ (by first | omega | (simp; done) | (simp; omega)) _ | refine Below.drew ?_)))) ⟨w3.heap.size, 0, none⟩ 1 1 [.slice A3 xn c3, .int .i64 xt] rfl rfl (by exact lit_cells _ #[.slice A3 xn c3, .int .i64 xt] _ _ rfl) (by simp [Value.oneCell']) (by unfold maxLen; omega) (by omega) (by simp; omega) ?_
           intro v4 w4 hown4 hg4 hx4 hat4
           have HW4 := Lib.hid hown4
           have HG4 := Lib.hid hg4
           have HA4 := Lib.hid hat4
           clear hown4 hg4 hx4 hat4))
      all_goals
        obtain ⟨A6, c6, rfl⟩ := slice_of_own HW4.out
        have hK4 : Kept (fun g => (Value.slice A5 k c5).ownBlock = some g) w3 w4 := Kept.grow_ (by first | exact (Kept.refl _ _).alloc _ | exact ((Kept.refl _ _).alloc _).drew) HG4.out (fun i _ h => h)
        have hO5 : ∀ g, (Value.slice A5 k c5).ownBlock = some g → w.heap.size ≤ g ∧ g < wr.heap.size := fun g hg => HR.out.row.lt g hg
        have hx3 : (⟨⟨A3, xn, c3, xt⟩, xd⟩ : Rx).ok w3 := ⟨XL.out, xm', Sl.of_own HW3.out⟩
        have hx3o : ∀ g, g < wr.heap.size → Rx.offP g ⟨⟨A3, xn, c3, xt⟩, xd⟩ := fun g hg hp ae e => by
          have e' : A3 = some ae := e
          obtain ⟨g', c', e2, _⟩ := own_posJ HW3.out hp
          simp only [Value.slice.injEq] at e2
          have e3 := e2.1
          rw [e'] at e3
          injection e3 with e3
          subst e3
          have := (HW3.out.lt g' (by rw [e'] ; rfl)).1
          show g' ≠ g
          omega
        have hal : ∀ g, (Value.slice A6 (k + 1) c6).ownBlock = some g → (Value.slice A5 k c5).ownBlock = some g ∨ w3.heap.size ≤ g := fun g hg => by
          rcases HA4.out with h | h
          · exact .inl (h.symm.trans hg)
          · rw [hg] at h
            simp only [Option.some.injEq] at h
            right
            rw [h]
            simp
        have hOl : (O ++ [(⟨⟨A3, xn, c3, xt⟩, xd⟩ : Rx)]).length = k + 1 := by rw [List.length_append, HOL.out]; rfl
        have HR4 : Hid (RtRow w4 w.heap.size (.slice A6 (k + 1) c6) (O ++ [(⟨⟨A3, xn, c3, xt⟩, xd⟩ : Rx)])) := by
          refine ⟨?_, fun y hy => ?_, fun y hy g hg => ?_⟩
          · rw [hOl, hdRx_app, hdRx_one]; exact HW4.out
          · rcases List.mem_append.1 hy with hy | hy
            · exact ((HR.out.ok y hy).below HB3.out).keptP hK4 (fun g hg => HR.out.off y hy g hg)
            · rw [List.mem_singleton.1 hy]; exact hx3.keptP hK4 (fun g hg => hx3o g (hO5 g hg).2)
          · rcases List.mem_append.1 hy with hy | hy
            · rcases hal g hg with h | h
              · exact HR.out.off y hy g h
              · exact ((HR.out.ok y hy).below HB3.out).offP_new h
            · rw [List.mem_singleton.1 hy]
              rcases hal g hg with h | h
              · exact hx3o g (hO5 g h).2
              · exact hx3.offP_new h
        have HM4 : Hid ((O ++ [(⟨⟨A3, xn, c3, xt⟩, xd⟩ : Rx)]).map Rx.rt = (L.take (k + 1)).map Rx.rt) := by
          show _ = _
          rw [HTK.out, List.map_append, HM.out]
          rfl
        have hB4 : Below w.heap.size w w4 := below_keptJ (HB.out.trans (HB3.out.mono HB.out.size)) (Nat.le_refl _) hK4 (fun g hg => (hO5 g hg).1)
        clear hK4 hO5 hx3 hx3o hal HW4 HG4 HA4 HW3 HB3 q0' q1' hab3 hws3 HR1 hab2 q0 q1
        go_wp2_with fail
        go_roundw
        case rel => exact ⟨k + 1, _, A6, c6, by go_num, by omega, rfl, hOl, HR4, HM4, hB4⟩
        case measure => simp [intOf]; omega
    · obtain rfl : k = n := by omega
      have HF : Hid (∃ L1, RtRow wr w.heap.size (.slice A5 k c5) L1 ∧ L1.map Rx.rt = L.map Rx.rt) := by
        have hm := HM.out
        rw [List.take_of_length_le (by rw [HL.out]; exact Nat.le_refl _)] at hm
        exact ⟨O, HR.out, hm⟩
      clear hO HR HM
      go_wp2
      go_ret
      exact ⟨_, rfl, HF.out, hB⟩
theorem rcopy13_any (A : Option Addr) (n c : Nat) (L : List Rx) (w : World) (hl : L.length = n) (hn : n ≤ 20000000000) (h : Sl w w.heap.size 2 A n c (flatRh (hdRx L))) (hok : ∀ x ∈ L, x.ok w) :
    Calls Try.prog 10 #[.slice A n c] w fun e w' => ∃ v, e = .returned v ∧ RO w' w.heap.size v (L.map Rx.rt) ∧ Below w.heap.size w w' := by
  refine (rcopy13_rt A n c L w hl hn h hok).mono ?_
  rintro e w' ⟨v, rfl, ⟨L1, h1, h2⟩, hb⟩
  exact ⟨v, rfl, ⟨L1, h1.row, h2, h1.ok⟩, hb⟩
end Go.Proofs.Ytbhhkaaidhapbaa
