/- The document's best route: Route. It makes new memory alone. At most ten edges. -/
import Derived.Test.YtmibgfenobekjaaRef17b
import Derived.Test.YtmibgfenobekjaaGQ15
namespace Go.Proofs.Ytmibgfenobekjaa
open Go.ChangeShapes Go.WideShapes Go.ChangeAt Go.RowKit Go.Sort Go.Maps
set_option linter.unusedSimpArgs false
set_option linter.unusedVariables false
/-- The first one of all is the best one. -/
theorem docR_head {l : List Ed} {f q now size by_ : Int} {sh : List Int} {R : List Rtp} (hs : SrtT R) (hm : ∀ p, p ∈ R ↔ DocR l f q now size by_ sh p) : R.head? = bestX l f q now size by_ sh := by
  cases ho : bestX l f q now size by_ sh with
  | none =>
    cases R with
    | nil => rfl
    | cons x r =>
      obtain ⟨ha, _, ⟨es, h1, _⟩, hb⟩ := (hm x).1 (List.mem_cons_self ..)
      have := bestX_none ho ha h1
      omega
  | some p =>
    obtain ⟨ha, es, e1, hb⟩ := bestX_some ho
    have hq : nodeB q = true := by
      unfold nodeB inB
      exact decide_eq_true (runE_in255 (askE_spec.1 ha).1 hb.rte.run)
    have hp : p ∈ R := (hm p).2 ⟨ha, hq, ⟨es, hb.rte, e1⟩, hb.le⟩
    cases R with
    | nil => cases hp
    | cons x r =>
      obtain ⟨_, _, ⟨es', h1, h2⟩, hb'⟩ := (hm x).1 (List.mem_cons_self ..)
      have hmin := hb.min es' x.2 h1 hb'
      have hk1 : keyT p = keyE p.2 es := by unfold keyT keyR keyE; rw [e1, hopsE_ids, hopsE_length]
      have hk2 : keyT x = keyE x.2 es' := by unfold keyT keyR keyE; rw [h2, hopsE_ids, hopsE_length]
      rw [← hk1, ← hk2, ← cT_key] at hmin
      rcases List.mem_cons.1 hp with rfl | hr
      · rfl
      · exfalso
        have h3 := (List.pairwise_cons.1 hs).1 p hr
        have := cT_anti x p
        omega
theorem blok2_out {w : World} {b : Nat} {T : TypeId} {u v : Value} (hX : Blok w b T #[u, v]) {k off : Nat} {z : Value} (h : w.cell? ⟨b, off + 2, none⟩ = some z) : False := by
  have h2 : w.cell? ⟨b, off + 2, none⟩ = _ := hX.cell (off + 2)
  rw [h] at h2
  simp at h2
set_option maxHeartbeats 8000000 in
set_option maxRecDepth 100000 in
theorem rroute17_any (A : Option Addr) (n c : Nat) (l : List Ed) (f q now size by_ : Int) (As : Option Addr) (ns cs : Nat) (sh : List Int) (w : World) (hd : l.length = n) (hn : n ≤ 10) (hds : sh.length = ns) (hns : ns ≤ 1000000)
    (hle : Sl w w.heap.size 8 A n c (flatEd l)) (hls : Sl w w.heap.size 1 As ns cs (sh.map (Value.int .i64))) (o : Option (List Hp × Int)) (ho : bestX l f q now size by_ sh = o) (nh : Nat) (hnh : (hopsO o).length = nh) (ar : Int) (har : arrO o = ar) :
    Calls Try.prog 10 #[.slice A n c, .int .i64 f, .int .i64 q, .int .i64 now, .int .i64 size, .int .i64 by_, .slice As ns cs] w fun e w' => ∃ A' c', e = .returned (.tuple #[.agg #[.slice A' nh c', .int .i64 ar], .bool o.isSome]) ∧ Sl w' w'.heap.size 3 A' nh c' (flatHp (hopsO o)) ∧ Below w.heap.size w w' := by
  have hX := Blok.new w 27 #[.slice none 0 0, .int .i64 0]
  have hBa : Below w.heap.size w (w.alloc (.cells #[.slice none 0 0, .int .i64 0] 27)) := by (repeat (first | exact Below.refl _ _ | refine Below.alloc ?_ (by first | omega | (simp; done) | (simp; omega)) _ | refine Below.setCell ?_ (by first | omega | (simp; done) | (simp; omega)) _ | refine Below.drew ?_))
  have HALL := Lib.hid (rall17_any A n c l f q now size by_ As ns cs sh _ hd hn hds hns (hle.up hBa) (hls.up hBa))
  have HO := Lib.hid ho
  have HNH := Lib.hid hnh
  have HAR := Lib.hid har
  clear hd hds hle hls ho hnh har
  go_enter Try.func10, Try.ntmps10
  go_wp2_with fail
  refine HALL.out.mono ?_
  clear HALL
  generalize w.alloc (.cells #[.slice none 0 0, .int .i64 0] 27) = w0 at *
  rintro e w1 ⟨v, R, rfl, hro, hs, hm, hb⟩
  obtain ⟨A1, c1, rfl⟩ := hro.sl
  have HH := Lib.hid (docR_head hs hm)
  replace hX := hX.below hb hX.lt
  have hB := hBa.trans (hb.mono hBa.size)
  have hsz := hB.size
  clear hs hm hb hBa
  cases R with
  | nil =>
    have hov : o = none := by rw [← HO.out, ← HH.out]; rfl
    subst hov
    have hn0 : nh = 0 := by rw [← HNH.out]; rfl
    have ha0 : ar = 0 := by rw [← HAR.out]; rfl
    subst hn0 ha0
    have r0 : w1.cell? ⟨w.heap.size, 0, none⟩ = some (.slice none 0 0) := hX.cell 0
    have f_0 := hX.free 0
    have r1 : w1.cell? ⟨w.heap.size, 1, none⟩ = some (.int .i64 0) := hX.cell 1
    have f_1 := hX.free 1
    have lt_x := hX.lt
    have HX := Lib.hid hX
    clear hX hro
    go_wp2_with fail
    have hX := HX.out
    clear r0 r1
    have hF : Blok ((w1.setCell ⟨w.heap.size, 0, none⟩ (.slice none 0 0)).setCell ⟨w.heap.size, 1, none⟩ (.int .i64 0)) w.heap.size 27 #[.slice none 0 0, .int .i64 0] := by have h := ((hX.set_ 0 (.slice none 0 0)).set_ 1 (.int .i64 0)); simpa using h
    have hle0 : w.heap.size ≤ w.heap.size := by first | exact Nat.le_refl _ | omega
    have hWf : Below w.heap.size w ((w1.setCell ⟨w.heap.size, 0, none⟩ (.slice none 0 0)).setCell ⟨w.heap.size, 1, none⟩ (.int .i64 0)) := ((hB.setCell (p := ⟨w.heap.size, 0, none⟩) hle0 (.slice none 0 0)).setCell (p := ⟨w.heap.size, 1, none⟩) hle0 (.int .i64 0))
    have hlF := hF.lt
    have hgw : w1.grownBy ((w1.setCell ⟨w.heap.size, 0, none⟩ (.slice none 0 0)).setCell ⟨w.heap.size, 1, none⟩ (.int .i64 0)) (some w.heap.size) := grown_trans (grown_set _ _ _) (grown_set _ _ _)
    generalize ((w1.setCell ⟨w.heap.size, 0, none⟩ (.slice none 0 0)).setCell ⟨w.heap.size, 1, none⟩ (.int .i64 0)) = wf at *
    have r0 : wf.cell? ⟨w.heap.size, 0, none⟩ = some (.slice none 0 0) := hF.cell 0
    have r1 : wf.cell? ⟨w.heap.size, 1, none⟩ = some (.int .i64 0) := hF.cell 1
    refine bodyPost_ret (v := .tuple #[.agg #[.slice none 0 0, .int .i64 0], .bool false]) (by simp [results, Try.results10, go_sem, r0, r1, hlF]) rfl ?_
    exact ⟨_, _, rfl, Sl.nil0 _ _ _, hWf⟩
  | cons x r =>
    have hov : o = some x := by rw [← HO.out, ← HH.out]; rfl
    subst hov
    obtain ⟨m, hm⟩ : ∃ m, (x :: r).length = m + 1 := ⟨_, rfl⟩
    rw [hm] at hro ⊢
    obtain ⟨g, hA, _, _, _⟩ := hro.addr (by omega)
    subst hA
    obtain ⟨An, nn, cn, p0, p1, p2, p3, p4⟩ := hro.cells (k := 0) (by omega)
    have q0 : w1.cell? ⟨g, 0, none⟩ = some (.slice An nn cn) := p0
    have q1 : w1.cell? ⟨g, 1, none⟩ = some (.int .i64 ar) := by rw [← HAR.out]; exact p1
    have hnn : nn = nh := by rw [← HNH.out, ← p2]; rfl
    subst hnn
    have p4' : Sl w1 w1.heap.size 3 An nn cn (flatHp x.1) := p4
    have HXX := Lib.hid hX
    have HOFF : Hid (0 < nn → ∀ ad, An = some ad → ¬ (ad.block = w.heap.size)) := fun hp ad e hbk => by
      obtain ⟨ae, e2, _, _, _, c2⟩ := p4'.lst.atHp p2 hp
      rw [e] at e2
      injection e2 with e2
      subst e2
      simp only [Nat.zero_mul, Addr.add_zero', hbk] at c2
      exact blok2_out HXX.out (k := 0) c2
    have HSL := Lib.hid p4'
    have r0 : w1.cell? ⟨w.heap.size, 0, none⟩ = some (.slice none 0 0) := hX.cell 0
    have f_0 := hX.free 0
    have r1 : w1.cell? ⟨w.heap.size, 1, none⟩ = some (.int .i64 0) := hX.cell 1
    have f_1 := hX.free 1
    have lt_x := hX.lt
    have hmI : ((m : Int) + 1 == 0) = false := by simp; omega
    have HX := Lib.hid hX
    clear hX hro p0 p1 p2 p3 p4 p4' hm
    go_wp2_with fail
    have hX := HX.out
    clear r0 r1
    have hF : Blok ((w1.setCell ⟨w.heap.size, 0, none⟩ (.slice An nn cn)).setCell ⟨w.heap.size, 1, none⟩ (.int .i64 ar)) w.heap.size 27 #[.slice An nn cn, .int .i64 ar] := by have h := ((hX.set_ 0 (.slice An nn cn)).set_ 1 (.int .i64 ar)); simpa using h
    have hle0 : w.heap.size ≤ w.heap.size := by first | exact Nat.le_refl _ | omega
    have hWf : Below w.heap.size w ((w1.setCell ⟨w.heap.size, 0, none⟩ (.slice An nn cn)).setCell ⟨w.heap.size, 1, none⟩ (.int .i64 ar)) := ((hB.setCell (p := ⟨w.heap.size, 0, none⟩) hle0 (.slice An nn cn)).setCell (p := ⟨w.heap.size, 1, none⟩) hle0 (.int .i64 ar))
    have hlF := hF.lt
    have hgw : w1.grownBy ((w1.setCell ⟨w.heap.size, 0, none⟩ (.slice An nn cn)).setCell ⟨w.heap.size, 1, none⟩ (.int .i64 ar)) (some w.heap.size) := grown_trans (grown_set _ _ _) (grown_set _ _ _)
    generalize ((w1.setCell ⟨w.heap.size, 0, none⟩ (.slice An nn cn)).setCell ⟨w.heap.size, 1, none⟩ (.int .i64 ar)) = wf at *
    have r0 : wf.cell? ⟨w.heap.size, 0, none⟩ = some (.slice An nn cn) := hF.cell 0
    have r1 : wf.cell? ⟨w.heap.size, 1, none⟩ = some (.int .i64 ar) := hF.cell 1
    refine bodyPost_ret (v := .tuple #[.agg #[.slice An nn cn, .int .i64 ar], .bool true]) (by simp [results, Try.results10, go_sem, r0, r1, hlF]) rfl ?_
    exact ⟨_, _, rfl, HSL.out.keptJ (Kept.of_grown hgw (fun k e _ => e)) (fun hp ad e he => HOFF.out hp ad e (Option.some.inj he).symm), hWf⟩
end Go.Proofs.Ytmibgfenobekjaa
