/- Several texts of mine in one: Ref12, SrtT, Ref13b. No condition. -/
import Derived.Test.YtmbaklodgpcegaaGreatPath5
import Derived.Test.YtmbaklodgpcegaaGreatGQ22
import Derived.Test.YtmbaklodgpcegaaGreatRef13
import Derived.Deep.RegionLaw

/- The document's own path: Same, Hops, IDs. They make new memory alone. -/
namespace Go.Proofs.YtmbaklodgpcegaaGreat
open Go.ChangeShapes Go.WideShapes Go.ChangeAt Go.RowKit Go.Sort
set_option linter.unusedSimpArgs false
set_option linter.unusedVariables false
set_option maxHeartbeats 4000000 in
set_option maxRecDepth 100000 in
theorem rsame12_any (A A' : Option Addr) (n c n' c' : Nat) (d d' : List Hp) (t t' : Int) (w : World) (hd : d.length = n) (hd' : d'.length = n') (hn : n ≤ 1000000) (hn' : n' ≤ 1000000) (h : Sl w w.heap.size 3 A n c (flatHp d)) (h' : Sl w w.heap.size 3 A' n' c' (flatHp d')) (b : Bool) (hb : (decide (t = t') && decide (d = d')) = b) :
    Calls Tryz.prog 7 #[.agg #[.slice A n c, .int .i64 t], .agg #[.slice A' n' c', .int .i64 t']] w fun e w' => e = .returned (.bool b) ∧ Below w.heap.size w w' := by
  have hB1 : Below w.heap.size w (w.alloc (.cells #[.slice A n c, .int .i64 t] 27)) := by (repeat (first | exact Below.refl _ _ | refine Below.alloc ?_ (by first | omega | (simp; done) | (simp; omega)) _ | refine Below.setCell ?_ (by first | omega | (simp; done) | (simp; omega)) _ | refine Below.drew ?_))
  have hB : Below w.heap.size w ((w.alloc (.cells #[.slice A n c, .int .i64 t] 27)).alloc (.cells #[.slice A' n' c', .int .i64 t'] 27)) := by (repeat (first | exact Below.refl _ _ | refine Below.alloc ?_ (by first | omega | (simp; done) | (simp; omega)) _ | refine Below.setCell ?_ (by first | omega | (simp; done) | (simp; omega)) _ | refine Below.drew ?_))
  have hX := (Blok.new w 27 #[.slice A n c, .int .i64 t]).alloc (.cells #[.slice A' n' c', .int .i64 t'] 27)
  have hY := Blok.new (w.alloc (.cells #[.slice A n c, .int .i64 t] 27)) 27 #[.slice A' n' c', .int .i64 t']
  rw [World.size_alloc] at hY
  have HL := Lib.hid (h.below hB)
  have HL' := Lib.hid (h'.below hB)
  have HD := Lib.hid hd
  have HD' := Lib.hid hd'
  have HBB := Lib.hid hb
  clear hd hd' h h' hb hB1
  by_cases hne : n ≠ n' ∨ t ≠ t'
  · have hf : b = false := by
      rw [← HBB.out]
      rcases hne with h1 | h1
      · have : d ≠ d' := fun e => by rw [e] at HD; exact h1 (HD.out.symm.trans HD'.out)
        simp [this]
      · simp [h1]
    subst hf
    by_cases hnn : n = n'
    · subst hnn
      have ht : t ≠ t' := by rcases hne with h1 | h1; · exact absurd rfl h1
                             · exact h1
      have g1 : (t != t') = true := by simp [ht]
      have g2 : ((n : Int) != (n : Int)) = false := by simp
      clear hne ht
      go_enter Tryz.func7, Tryz.ntmps7
      go_wp2
      go_ret
      exact ⟨rfl, hB⟩
    · have g2 : ((n : Int) != (n' : Int)) = true := by simp; omega
      clear hne
      go_enter Tryz.func7, Tryz.ntmps7
      go_wp2
      go_ret
      exact ⟨rfl, hB⟩
  · obtain rfl : n = n' := by omega
    obtain rfl : t = t' := by omega
    have g1 : (t != t) = false := by simp
    have g2 : ((n : Int) != (n : Int)) = false := by simp
    clear hne
    go_enter Tryz.func7, Tryz.ntmps7
    go_wp2
    clear g1 g2
    generalize (w.alloc (.cells #[.slice A n c, .int .i64 t] 27)).alloc (.cells #[.slice A' n c', .int .i64 t] 27) = w2 at *
    have HX := Lib.hid hX
    have HY := Lib.hid hY
    have HB := Lib.hid hB
    clear hX hY hB
    go_loopw [5] (fun iv wr => ∃ (i : Nat), iv = .int .i64 i ∧ i ≤ n ∧ Hid (d.take i = d'.take i) ∧ Below w2.heap.size w2 wr) (fun iv _ => n - (intOf iv).toNat)
    case atStart => exact ⟨0, rfl, by omega, by simp [Hid], Below.refl _ _⟩
    case round =>
      obtain ⟨i, rfl, hi, HE, hBr⟩ := hrel
      have hX := HX.out.below hBr HX.out.lt
      have hY := HY.out.below hBr HY.out.lt
      have x0 : wr.cell? ⟨w.heap.size, 0, none⟩ = some (.slice A n c) := hX.cell 0
      have x1 : wr.cell? ⟨w.heap.size, 1, none⟩ = some (.int .i64 t) := hX.cell 1
      have y0 : wr.cell? ⟨w.heap.size + 1, 0, none⟩ = some (.slice A' n c') := hY.cell 0
      have y1 : wr.cell? ⟨w.heap.size + 1, 1, none⟩ = some (.int .i64 t) := hY.cell 1
      have lt_x := hX.lt
      have lt_y := hY.lt
      clear hX hY
      have hbw := hBr.mono HB.out.size
      by_cases hin : i < n
      · obtain ⟨ad, rfl, hab, c0, c1, c2⟩ := (HL.out.below hbw).lst.atHp HD.out hin
        obtain ⟨ad', rfl, hab', c0', c1', c2'⟩ := (HL'.out.below hbw).lst.atHp HD'.out hin
        have hrun : ∀ w0, (binOp .neq 42 (.agg #[.int .i64 (gHp d i).id, .int .i64 (gHp d i).se, .int .i64 (gHp d i).ar]) (.agg #[.int .i64 (gHp d' i).id, .int .i64 (gHp d' i).se, .int .i64 (gHp d' i).ar])).run Tryz.prog w0 = .ok (.bool (!decide (gHp d i = gHp d' i))) w0 := fun w0 => neqHp (gHp d i) (gHp d' i) w0
        by_cases he : gHp d i = gHp d' i
        · have HE2 : Hid (d.take (i + 1) = d'.take (i + 1)) := by
            show d.take (i + 1) = d'.take (i + 1)
            rw [take_nextHp (by rw [HD.out]; exact hin), take_nextHp (by rw [HD'.out]; exact hin), HE.out, he]
          rw [decide_eq_true he] at hrun
          simp only [Bool.not_true] at hrun
          clear HE he hbw
          go_wp2_with fail
          have q_c0 := fun d os => cell_regrown c0 d os
          have q_c1 := fun d os => cell_regrown c1 d os
          have q_c2 := fun d os => cell_regrown c2 d os
          have q_c0' := fun d os => cell_regrown c0' d os
          have q_c1' := fun d os => cell_regrown c1' d os
          have q_c2' := fun d os => cell_regrown c2' d os
          have q_x0 := fun d os => cell_regrown x0 d os
          have q_x1 := fun d os => cell_regrown x1 d os
          have q_y0 := fun d os => cell_regrown y0 d os
          have q_y1 := fun d os => cell_regrown y1 d os
          try simp only [List.append]
          first | refine wp_region_text_below ?_ | refine wp_region_quiet_below (by kernel_rfl) (by kernel_rfl) ?_
          repeat (go_big_quiet_step ((fail)))
          refine wpQuiet_nil ?_
          intro _ hqw
          obtain ⟨pq, hqw⟩ := hqw
          subst hqw
          clear q_c0 q_c1 q_c2 q_c0' q_c1' q_c2' q_x0 q_x1 q_y0 q_y1
          have hbq := hBr.trans ((below_regrown wr pq.d pq.os).mono hBr.size)
          clear c0 c1 c2 c0' c1' c2' x0 x1 y0 y1 hrun lt_x lt_y hBr
          generalize grow (redrawn wr pq.d) pq.os = wq at *
          go_wp2_with fail
          go_roundw
          case rel => exact ⟨i + 1, by go_num, by omega, HE2, hbq⟩
          case measure => simp [intOf]; omega
        · have hf : b = false := by
            have : d ≠ d' := fun e => he (by rw [e])
            rw [← HBB.out]; simp [this]
          subst hf
          rw [decide_eq_false he] at hrun
          simp only [Bool.not_false] at hrun
          clear he hbw
          go_wp2_with fail
          have q_c0 := fun d os => cell_regrown c0 d os
          have q_c1 := fun d os => cell_regrown c1 d os
          have q_c2 := fun d os => cell_regrown c2 d os
          have q_c0' := fun d os => cell_regrown c0' d os
          have q_c1' := fun d os => cell_regrown c1' d os
          have q_c2' := fun d os => cell_regrown c2' d os
          have q_x0 := fun d os => cell_regrown x0 d os
          have q_x1 := fun d os => cell_regrown x1 d os
          have q_y0 := fun d os => cell_regrown y0 d os
          have q_y1 := fun d os => cell_regrown y1 d os
          try simp only [List.append]
          first | refine wp_region_text_below ?_ | refine wp_region_quiet_below (by kernel_rfl) (by kernel_rfl) ?_
          repeat (go_big_quiet_step ((fail)))
          refine wpQuiet_nil ?_
          intro _ hqw
          obtain ⟨pq, hqw⟩ := hqw
          subst hqw
          clear q_c0 q_c1 q_c2 q_c0' q_c1' q_c2' q_x0 q_x1 q_y0 q_y1
          have hbq := hBr.trans ((below_regrown wr pq.d pq.os).mono hBr.size)
          clear c0 c1 c2 c0' c1' c2' x0 x1 y0 y1 hrun lt_x lt_y hBr
          generalize grow (redrawn wr pq.d) pq.os = wq at *
          go_wp2_with fail
          go_ret
          exact ⟨rfl, HB.out.trans (hbq.mono HB.out.size)⟩
      · have hie : i = n := by omega
        have hf : b = true := by
          have he := HE.out
          rw [List.take_of_length_le (by rw [HD.out]; omega), List.take_of_length_le (by rw [HD'.out]; omega)] at he
          rw [← HBB.out, he]; simp
        subst hf
        subst hie
        go_wp2_with fail
        go_ret
        exact ⟨rfl, HB.out.trans hbw⟩
set_option maxHeartbeats 4000000 in
set_option maxRecDepth 100000 in
theorem rids12_any (A : Option Addr) (n c : Nat) (d : List Hp) (t : Int) (w : World) (hd : d.length = n) (hn : n ≤ 1000000) (h : Sl w w.heap.size 3 A n c (flatHp d)) :
    Calls Tryz.prog 18 #[.agg #[.slice A n c, .int .i64 t]] w fun e w' => ∃ v, e = .returned v ∧ w'.ownsRow w.heap.size 3 1 v n ((d.map Hp.id).map (Value.int .i64)) ∧ Below w.heap.size w w' := by
  obtain ⟨i0, hi0, hz0, hz1, hz2⟩ := info_parts infoI12
  have hB0 : Below w.heap.size w (w.alloc (.cells #[.slice A n c, .int .i64 t] 27)) := by (repeat (first | exact Below.refl _ _ | refine Below.alloc ?_ (by first | omega | (simp; done) | (simp; omega)) _ | refine Below.setCell ?_ (by first | omega | (simp; done) | (simp; omega)) _ | refine Below.drew ?_))
  have hX0 := Blok.new w 27 #[.slice A n c, .int .i64 t]
  have hl := h.below hB0
  obtain ⟨b1, hb1⟩ : ∃ q, (w.alloc (.cells #[.slice A n c, .int .i64 t] 27)).heap.size = q := ⟨_, rfl⟩
  have hwb : w.heap.size < b1 := by rw [← hb1, World.size_alloc]; omega
  have HD := Lib.hid hd
  clear hd h
  go_enter Tryz.func18, Tryz.ntmps18
  go_wp2
  generalize w.alloc (.cells #[.slice A n c, .int .i64 t] 27) = w0 at *
  have HL := Lib.hid hl
  have HB0 := Lib.hid hB0
  have HX := Lib.hid hX0
  have HB1 := Lib.hid hb1
  clear hl hB0 hX0 hb1
  go_loopw [3, 4] (fun ev iv wr => ∃ (i : Nat), iv = .int .i64 i ∧ i ≤ n ∧ wr.ownsRow b1 3 1 ev i (((d.take i).map Hp.id).map (Value.int .i64)) ∧ Below w.heap.size w wr ∧ b1 ≤ wr.heap.size ∧ Hid (Sl wr w.heap.size 3 A n c (flatHp d)) ∧ Hid (Blok wr w.heap.size 27 #[.slice A n c, .int .i64 t])) (fun _ iv _ => n - (intOf iv).toNat)
  case atStart => exact ⟨0, rfl, by omega, World.ownsRow_nil _ _ _ _, HB0.out, by rw [HB1.out]; omega, HL.out, HX.out⟩
  case round =>
    clear HB0 HL HX HB1
    obtain ⟨i, rfl, hi, hown, hB, hs1, HL, HX⟩ := hrel
    have hsz := hB.size
    obtain ⟨Ae, ce, rfl⟩ := slice_of_own hown
    have x0 : wr.cell? ⟨w.heap.size, 0, none⟩ = some (.slice A n c) := HX.out.cell 0
    have x1 : wr.cell? ⟨w.heap.size, 1, none⟩ = some (.int .i64 t) := HX.out.cell 1
    have lt_x := HX.out.lt
    by_cases hin : i < n
    · obtain ⟨ad, rfl, hab, c0, c1, c2⟩ := HL.out.lst.atHp HD.out hin
      have hnx : ((d.take (i + 1)).map Hp.id).map (Value.int .i64) = ((d.take i).map Hp.id).map (Value.int .i64) ++ [.int .i64 (gHp d i).id] := by
        rw [take_nextHp (by rw [HD.out]; exact hin)]; simp
      obtain ⟨x, hx⟩ : ∃ x, gHp d i = x := ⟨_, rfl⟩
      rw [hx] at c0 c1 c2 hnx
      have HNX := Lib.hid hnx
      clear hx hnx
      go_wp2_with (first | (at_builtin; refine wpList_append_own _ rfl _ _ 23 rfl b1 3 i0 _ 1 8 Tryz.underlying23 hi0 hz0 hz1 hz2 rfl (by decide) _ _ _ rfl (hown.alloc _) ⟨wr.heap.size, 0, none⟩ 1 1 [.int .i64 x.id] rfl rfl (by exact lit_cells wr #[.int .i64 x.id] _ _ rfl) (by simp [Value.oneCell']) (by unfold maxLen; omega) (by omega) (by simp; omega) ?_; intro v' w3 hown' hgrow3 hnil3))
      have hbN : Below w.heap.size w w3 := (hB.alloc hsz _).grown hgrow3 (by simp; omega) (fun q hq => by have := (hown.lt q hq).1; omega)
      have hLN := Lib.hid (HL.out.below (((Below.refl _ _).alloc hsz (.cells #[.int .i64 x.id] 3)).grown hgrow3 (by simp; omega) (fun q hq => by have := (hown.lt q hq).1; omega)))
      have hXN := Lib.hid ((HX.out.alloc (.cells #[.int .i64 x.id] 3)).grown hgrow3 (fun e => by have := (hown.lt _ e.symm).1; omega))
      have hs3 : b1 ≤ w3.heap.size := by have h1 := hgrow3.size; rw [World.size_alloc] at h1; omega
      clear hgrow3 hnil3 x0 x1 lt_x HL HX
      go_wp2_with fail
      go_roundw
      case rel => exact ⟨i + 1, by go_num, by omega, (by rw [HNX.out]; exact hown'), hbN, hs3, hLN, hXN⟩
      case measure => simp [intOf]; omega
    · obtain rfl : i = n := by omega
      rw [List.take_of_length_le (by rw [HD.out]; omega)] at hown
      have HOWN := Lib.hid (own_down (base' := w.heap.size) hown (by omega))
      clear hown
      go_wp2_with fail
      go_ret
      exact ⟨_, rfl, HOWN.out, hB⟩
end Go.Proofs.YtmbaklodgpcegaaGreat

/- Routes in order, as lists. Plain facts. -/
namespace Go.Proofs.YtmbaklodgpcegaaGreat
open Go.ChangeShapes Go.WideShapes Go.ChangeAt Go.RowKit Go.Sort
set_option linter.unusedSimpArgs false
set_option linter.unusedVariables false
abbrev Rtp := List Hp × Int
def idsT (p : Rtp) : List Int := p.1.map Hp.id
def keyT (p : Rtp) : List Int := keyR p.2 p.1
def cT (a b : Rtp) : Int := cmpR a.2 a.1 b.2 b.1
theorem cT_key (a b : Rtp) : cT a b = cmpL (keyT a) (keyT b) := cmpR_key _ _ _ _
theorem cT_self (a : Rtp) : cT a a = 0 := by rw [cT_key, cmpL_self]
theorem cT_anti (a b : Rtp) : cT a b = - cT b a := by rw [cT_key, cT_key]; exact cmpL_anti _ _
theorem cT_trans {a b c : Rtp} (h1 : cT a b ≤ 0) (h2 : cT b c ≤ 0) : cT a c ≤ 0 := by
  rw [cT_key] at *
  exact cmpL_trans h1 h2
theorem cmpL_trans_lt {a b c : List Int} (h1 : cmpL a b < 0) (h2 : cmpL b c ≤ 0) : cmpL a c < 0 := by
  rcases Int.lt_or_le (cmpL a c) 0 with h | h
  · exact h
  · exfalso
    have h3 := cmpL_anti a c
    have h4 := cmpL_trans (a := b) (b := c) (c := a) h2 (by omega)
    have h5 := cmpL_anti a b
    omega
theorem cT_lt_of_lt_le {a b c : Rtp} (h1 : cT a b < 0) (h2 : cT b c ≤ 0) : cT a c < 0 := by
  rw [cT_key] at *
  exact cmpL_trans_lt h1 h2
theorem cT_lt_of_le_lt {a b c : Rtp} (h1 : cT a b ≤ 0) (h2 : cT b c < 0) : cT a c < 0 := by
  rcases Int.lt_or_le (cT a c) 0 with h | h
  · exact h
  · exfalso
    have h3 := cT_anti a c
    have h4 := cT_trans (a := c) (b := a) (c := b) (by omega) h1
    have h5 := cT_anti b c
    omega
theorem cT_zero {a b : Rtp} (h : cT a b = 0) : idsT a = idsT b ∧ a.2 = b.2 := by
  rw [cT_key] at h
  have h1 := cmpL_zero h
  unfold keyT keyR at h1
  injection h1 with h2 h3
  injection h3 with _ h4
  exact ⟨h4, h2⟩
/-- In order, none twice. -/
def SrtT (l : List Rtp) : Prop := l.Pairwise fun a b => cT a b < 0
/-- One more, in its place, if there is none at it. -/
def insT (x : Rtp) : List Rtp → List Rtp
  | [] => [x]
  | y :: r => if cT x y < 0 then x :: y :: r else if cT x y = 0 then y :: r else y :: insT x r
theorem insT_mem {x : Rtp} : ∀ {l : List Rtp} {z : Rtp}, z ∈ insT x l → z = x ∨ z ∈ l
  | [], z, h => by
    rw [insT, List.mem_singleton] at h; exact .inl h
  | y :: r, z, h => by
    rw [insT] at h
    split at h
    · rcases List.mem_cons.1 h with h1 | h1
      · exact .inl h1
      · exact .inr h1
    · split at h
      · exact .inr h
      · rcases List.mem_cons.1 h with rfl | h1
        · exact .inr (List.mem_cons_self ..)
        · rcases insT_mem h1 with h2 | h2
          · exact .inl h2
          · exact .inr (List.mem_cons_of_mem _ h2)
theorem insT_keep {x : Rtp} : ∀ {l : List Rtp} {z : Rtp}, z ∈ l → z ∈ insT x l
  | y :: r, z, h => by
    rw [insT]
    split
    · exact List.mem_cons_of_mem _ h
    · split
      · exact h
      · rcases List.mem_cons.1 h with rfl | h1
        · exact List.mem_cons_self ..
        · exact List.mem_cons_of_mem _ (insT_keep h1)
theorem insT_has (x : Rtp) : ∀ (l : List Rtp), x ∈ insT x l ∨ ∃ y ∈ l, cT x y = 0
  | [] => by rw [insT]; simp
  | y :: r => by
    rw [insT]
    split
    · exact .inl (List.mem_cons_self ..)
    · split
      · rename_i h
        exact .inr ⟨y, List.mem_cons_self .., h⟩
      · rcases insT_has x r with h | ⟨z, h1, h2⟩
        · exact .inl (List.mem_cons_of_mem _ h)
        · exact .inr ⟨z, List.mem_cons_of_mem _ h1, h2⟩
theorem insT_srt {x : Rtp} : ∀ {l : List Rtp}, SrtT l → SrtT (insT x l)
  | [], _ => by rw [insT]; exact List.pairwise_singleton ..
  | y :: r, h => by
    obtain ⟨h1, h2⟩ := List.pairwise_cons.1 h
    rw [insT]
    split
    · rename_i hx
      refine List.pairwise_cons.2 ⟨fun z hz => ?_, h⟩
      rcases List.mem_cons.1 hz with rfl | hz
      · exact hx
      · exact cT_lt_of_lt_le hx (Int.le_of_lt (h1 z hz))
    · split
      · exact h
      · rename_i hx hx0
        refine List.pairwise_cons.2 ⟨fun z hz => ?_, insT_srt h2⟩
        rcases insT_mem hz with rfl | hz
        · have := cT_anti y z; omega
        · exact h1 z hz
def sortX (l : List Rtp) : List Rtp := l.foldr insT []
theorem sortX_srt : ∀ (l : List Rtp), SrtT (sortX l)
  | [] => List.Pairwise.nil
  | x :: r => insT_srt (sortX_srt r)
theorem sortX_mem : ∀ {l : List Rtp} {z : Rtp}, z ∈ sortX l → z ∈ l
  | x :: r, z, h => by
    rcases insT_mem (show z ∈ insT x (sortX r) from h) with rfl | h
    · exact List.mem_cons_self ..
    · exact List.mem_cons_of_mem _ (sortX_mem h)
theorem sortX_has : ∀ {l : List Rtp} {z : Rtp}, z ∈ l → ∃ y ∈ sortX l, cT z y = 0
  | x :: r, z, h => by
    show ∃ y ∈ insT x (sortX r), _
    rcases List.mem_cons.1 h with rfl | h
    · rcases insT_has z (sortX r) with h1 | ⟨y, h1, h2⟩
      · exact ⟨z, h1, cT_self z⟩
      · exact ⟨y, insT_keep h1, h2⟩
    · obtain ⟨y, h1, h2⟩ := sortX_has h
      exact ⟨y, insT_keep h1, h2⟩
theorem srtT_ne {l : List Rtp} (h : SrtT l) {i j : Nat} (hi : i < l.length) (hj : j < l.length) (hij : i < j) : cT l[i] l[j] < 0 := List.pairwise_iff_getElem.1 h i j hi hj hij
theorem srtT_ext : ∀ {l l' : List Rtp}, SrtT l → SrtT l' → (∀ x, x ∈ l ↔ x ∈ l') → l = l'
  | [], [], _, _, _ => rfl
  | [], y :: r, _, _, h => by have := (h y).2 (List.mem_cons_self ..); cases this
  | x :: r, [], _, _, h => by have := (h x).1 (List.mem_cons_self ..); cases this
  | x :: r, y :: s, h1, h2, h => by
    obtain ⟨a1, a2⟩ := List.pairwise_cons.1 h1
    obtain ⟨b1, b2⟩ := List.pairwise_cons.1 h2
    have hxy : x = y := by
      rcases List.mem_cons.1 ((h x).1 (List.mem_cons_self ..)) with e | e
      · exact e
      · rcases List.mem_cons.1 ((h y).2 (List.mem_cons_self ..)) with e2 | e2
        · exact e2.symm
        · have h3 := a1 y e2
          have h4 := b1 x e
          have := cT_anti x y
          omega
    subst hxy
    rw [srtT_ext a2 b2 (fun z => by
      constructor
      · intro hz
        rcases List.mem_cons.1 ((h z).1 (List.mem_cons_of_mem _ hz)) with rfl | h3
        · have := a1 z hz; rw [cT_self] at this; omega
        · exact h3
      · intro hz
        rcases List.mem_cons.1 ((h z).2 (List.mem_cons_of_mem _ hz)) with rfl | h3
        · have := b1 z hz; rw [cT_self] at this; omega
        · exact h3)]
end Go.Proofs.YtmbaklodgpcegaaGreat

/- The document's order of routes: Copy, Sort, Same. They make new memory alone. -/
namespace Go.Proofs.YtmbaklodgpcegaaGreat
open Go.ChangeShapes Go.WideShapes Go.ChangeAt Go.RowKit Go.Sort
set_option linter.unusedSimpArgs false
set_option linter.unusedVariables false
theorem take_nextR {l : List Rx} {k : Nat} (h : k < l.length) : l.take (k + 1) = l.take k ++ [gRx l k] := by
  rw [List.take_succ_eq_append_getElem h]
  congr 2
  unfold gRx
  rw [List.getD_eq_getElem?_getD, List.getElem?_eq_getElem h]; rfl
theorem hdRx_one (x : Rx) : flatRh (hdRx [x]) = [.slice x.h.A x.h.n x.h.c, .int .i64 x.h.t] := rfl
theorem hdRx_app (l m : List Rx) : flatRh (hdRx (l ++ m)) = flatRh (hdRx l) ++ flatRh (hdRx m) := by unfold hdRx; rw [List.map_append, flatRh_append]
/-- A route's cells in a row that came in. -/
theorem rl_cell {w : World} {A : Option Addr} {n c : Nat} {L : List Rx} (hn : L.length = n) (h : Sl w w.heap.size 2 A n c (flatRh (hdRx L))) {k : Nat} (hk : k < n) : ∃ ad, A = some ad ∧ ad.block < w.heap.size ∧ w.cell? (ad.add (k * 2)) = some (.slice (gRx L k).h.A (gRx L k).h.n (gRx L k).h.c) ∧ w.cell? ⟨(ad.add (k * 2)).block, (ad.add (k * 2)).off + 1, none⟩ = some (.int .i64 (gRx L k).h.t) := by
  have hl : (hdRx L).length = n := by simp [hdRx, hn]
  obtain ⟨ad, e, hb, c0, c1⟩ := h.lst.atRh hl hk
  rw [gRx_hd (by omega)] at c0 c1
  exact ⟨ad, e, hb, c0, c1⟩
set_option maxHeartbeats 8000000 in
set_option maxRecDepth 100000 in
theorem rcopy13_any (A : Option Addr) (n c : Nat) (L : List Rx) (w : World) (hl : L.length = n) (hn : n ≤ 20000000000) (h : Sl w w.heap.size 2 A n c (flatRh (hdRx L))) (hok : ∀ x ∈ L, x.ok w) :
    Calls Tryz.prog 63 #[.slice A n c] w fun e w' => ∃ v, e = .returned v ∧ RO w' w.heap.size v (L.map Rx.rt) ∧ Below w.heap.size w w' := by
  obtain ⟨i0, hi0, hz0, hz1, hz2⟩ := info_parts infoRh
  obtain ⟨j0, hj0, hy0, hy1, hy2⟩ := info_parts infoHp
  have HL := Lib.hid hl
  have HH := Lib.hid (fun w' (hb : Below w.heap.size w w') => h.up hb)
  have HOK := Lib.hid hok
  clear hl h hok
  go_enter Tryz.func63, Tryz.ntmps63
  go_wp2_with fail
  go_loopw [3, 4] (fun ov iv wr => ∃ (k : Nat) (O : List Rx) (A5 : Option Addr) (c5 : Nat), iv = .int .i64 (k : Int) ∧ k ≤ n ∧ ov = .slice A5 k c5 ∧ O.length = k ∧ Hid (RtRow wr w.heap.size (.slice A5 k c5) O) ∧ Hid (O.map Rx.rt = (L.take k).map Rx.rt) ∧ Below w.heap.size w wr) (fun _ iv _ => n - (intOf iv).toNat)
  case atStart => exact ⟨0, [], none, 0, rfl, Nat.zero_le _, rfl, rfl, ⟨World.ownsRow_nil _ _ _ _, fun x hx => (by cases hx), fun x hx => (by cases hx)⟩, rfl, Below.refl _ _⟩
  case round =>
    obtain ⟨k, O, A5, c5, rfl, hk, rfl, hO, HR, HM, hB⟩ := hrel
    by_cases hkn : k < n
    · obtain ⟨ad, rfl, hab, p0, p1⟩ := rl_cell HL.out (HH.out _ hB) hkn
      obtain ⟨x, hx⟩ : ∃ x, gRx L k = x := ⟨_, rfl⟩
      rw [hx] at p0 p1
      have hxL : x ∈ L := by rw [← hx]; exact gRx_mem (by rw [HL.out]; exact hkn)
      obtain ⟨xl, xm, xs⟩ := HOK.out x hxL
      have xs1 := xs.up hB
      have HTK : Hid ((L.take (k + 1)).map Rx.rt = (L.take k).map Rx.rt ++ [x.rt]) := by show _ = _; rw [take_nextR (by rw [HL.out]; exact hkn), List.map_append, hx]; rfl
      obtain ⟨⟨xA, xn, xc, xt⟩, xd⟩ := x
      have xl' : xd.length = xn := xl
      have xm' : xn ≤ 1000000 := xm
      have xs2 : Sl wr wr.heap.size 3 xA xn xc (flatHp xd) := xs1
      have q0 : wr.cell? (ad.add (k * 2)) = some (.slice xA xn xc) := p0
      have q1 : wr.cell? ⟨(ad.add (k * 2)).block, (ad.add (k * 2)).off + 1, none⟩ = some (.int .i64 xt) := p1
      have XL := Lib.hid xl'
      have XS := Lib.hid (fun w' (hb : Below wr.heap.size wr w') => xs2.up hb)
      have HOL := Lib.hid hO
      have hws := hB.size
      have HB := Lib.hid hB
      have Q0 := Lib.hid q0
      have Q1 := Lib.hid q1
      clear hx hxL xl xm xs xs1 p0 p1 xl' xs2 hO hB
      have hkI : (k : Int) < (n : Int) := by omega
      have HR1 := HR
      have hab2 : (ad.add (k * 2)).block < wr.heap.size := by rw [add_block]; exact hab
      go_wp2_with fail
      go_region_law (first
        | (refine step_append_lst _ rfl (.tmp 12) (.tmp 17) 25 rfl wr.heap.size 42 j0 _ 3 24 Tryz.underlying25 hj0 hy0 hy1 hy2 rfl (by decide) _ 0 [] rfl (by exact own_lit wr wr.heap.size 42 3 0 #[] (Nat.le_refl _) rfl (by simp)) _ xA xn xc (flatHp xd) rfl (XS.out _ (by (repeat (first | exact Below.refl _ _ | refine Below.alloc ?_ (by first | omega | (simp; done) | (simp; omega)) _ | refine Below.setCell ?_ (by first | omega | (simp; done) | (simp; omega)) _ | refine Below.drew ?_)))).lst (flatHp_one xd) (by unfold maxLen; omega) (by omega) (by simp) ?_
           intro v3 w3 hown3 hg3 hat3
           have hB3 : Below wr.heap.size wr w3 := Below.grown (by (repeat (first | exact Below.refl _ _ | refine Below.alloc ?_ (by first | omega | (simp; done) | (simp; omega)) _ | refine Below.setCell ?_ (by first | omega | (simp; done) | (simp; omega)) _ | refine Below.drew ?_))) hg3 (by simp) (fun g hg => Nat.le_of_eq (Option.some.inj hg))
           have q0' : w3.cell? (ad.add (k * 2)) = some (.slice xA xn xc) := (hB3.cell (p := ad.add (k * 2)) (by rw [add_block]; exact hab)).trans Q0.out
           have q1' : w3.cell? ⟨(ad.add (k * 2)).block, (ad.add (k * 2)).off + 1, none⟩ = some (.int .i64 xt) := (hB3.cell (p := ⟨(ad.add (k * 2)).block, (ad.add (k * 2)).off + 1, none⟩) (by show (ad.add (k * 2)).block < _; rw [add_block]; exact hab)).trans Q1.out
           have hab3 : (ad.add (k * 2)).block < w3.heap.size := Nat.lt_of_lt_of_le hab2 hB3.size
           have hws3 := hB3.size
           simp only [Nat.zero_add, List.nil_append] at hown3
           obtain ⟨A3, c3, rfl⟩ := slice_of_own hown3
           have HW3 := Lib.hid hown3
           have HB3 := Lib.hid hB3
           clear hat3 hg3 hown3 hB3)
        | (refine step_append_own rfl (.tmp 11) (.tmp 25) 43 rfl w.heap.size 27 i0 _ 2 32 Tryz.underlying43 hi0 hz0 hz1 hz2 rfl (by decide) (.slice A5 k c5) k (flatRh (hdRx O)) rfl (by have HR1r := HR1.out.row; rw [HOL.out] at HR1r; first | exact (own_belowK HR1r HB3.out).alloc _ | exact own_belowK (own_belowK HR1r HB3.out) (by (repeat (first | exact Below.refl _ _ | refine Below.alloc ?_ (by first | omega | (simp; done) | (simp; omega)) _ | refine Below.setCell ?_ (by first | omega | (simp; done) | (simp; omega)) _ | refine Below.drew ?_)))) ⟨w3.heap.size, 0, none⟩ 1 1 [.slice A3 xn c3, .int .i64 xt] rfl rfl (by exact lit_cells _ #[.slice A3 xn c3, .int .i64 xt] _ _ rfl) (by simp [Value.oneCell']) (by unfold maxLen; omega) (by omega) (by simp; omega) ?_
           intro v4 w4 hown4 hg4 hx4 hat4
           have HW4 := Lib.hid hown4
           have HG4 := Lib.hid hg4
           have HA4 := Lib.hid hat4
           clear hown4 hg4 hx4 hat4))
      all_goals
        obtain ⟨A6, c6, rfl⟩ := slice_of_own HW4.out
        have hK4 : Kept (fun g => (Value.slice A5 k c5).ownBlock = some g) w3 w4 := Kept.grow_ (by first | exact (Kept.refl _ _).alloc _ | exact ((Kept.refl _ _).alloc _).drew) HG4.out (fun i _ h => h)
        have hO5 : ∀ g, (Value.slice A5 k c5).ownBlock = some g → w.heap.size ≤ g ∧ g < wr.heap.size := fun g hg => HR.out.row.lt g hg
        have hx3 : (⟨⟨A3, xn, c3, xt⟩, xd⟩ : Rx).ok w3 := ⟨XL.out, xm', Sl.of_own HW3.out⟩
        have hx3o : ∀ g, g < wr.heap.size → Rx.offP g ⟨⟨A3, xn, c3, xt⟩, xd⟩ := fun g hg hp ae e => by
          have e' : A3 = some ae := e
          obtain ⟨g', c', e2, _⟩ := own_posJ HW3.out hp
          simp only [Value.slice.injEq] at e2
          have e3 := e2.1
          rw [e'] at e3
          injection e3 with e3
          subst e3
          have := (HW3.out.lt g' (by rw [e'] ; rfl)).1
          show g' ≠ g
          omega
        have hal : ∀ g, (Value.slice A6 (k + 1) c6).ownBlock = some g → (Value.slice A5 k c5).ownBlock = some g ∨ w3.heap.size ≤ g := fun g hg => by
          rcases HA4.out with h | h
          · exact .inl (h.symm.trans hg)
          · rw [hg] at h
            simp only [Option.some.injEq] at h
            right
            rw [h]
            simp
        have hOl : (O ++ [(⟨⟨A3, xn, c3, xt⟩, xd⟩ : Rx)]).length = k + 1 := by rw [List.length_append, HOL.out]; rfl
        have HR4 : Hid (RtRow w4 w.heap.size (.slice A6 (k + 1) c6) (O ++ [(⟨⟨A3, xn, c3, xt⟩, xd⟩ : Rx)])) := by
          refine ⟨?_, fun y hy => ?_, fun y hy g hg => ?_⟩
          · rw [hOl, hdRx_app, hdRx_one]; exact HW4.out
          · rcases List.mem_append.1 hy with hy | hy
            · exact ((HR.out.ok y hy).below HB3.out).keptP hK4 (fun g hg => HR.out.off y hy g hg)
            · rw [List.mem_singleton.1 hy]; exact hx3.keptP hK4 (fun g hg => hx3o g (hO5 g hg).2)
          · rcases List.mem_append.1 hy with hy | hy
            · rcases hal g hg with h | h
              · exact HR.out.off y hy g h
              · exact ((HR.out.ok y hy).below HB3.out).offP_new h
            · rw [List.mem_singleton.1 hy]
              rcases hal g hg with h | h
              · exact hx3o g (hO5 g h).2
              · exact hx3.offP_new h
        have HM4 : Hid ((O ++ [(⟨⟨A3, xn, c3, xt⟩, xd⟩ : Rx)]).map Rx.rt = (L.take (k + 1)).map Rx.rt) := by
          show _ = _
          rw [HTK.out, List.map_append, HM.out]
          rfl
        have hB4 : Below w.heap.size w w4 := below_keptJ (HB.out.trans (HB3.out.mono HB.out.size)) (Nat.le_refl _) hK4 (fun g hg => (hO5 g hg).1)
        clear hK4 hO5 hx3 hx3o hal HW4 HG4 HA4 HW3 HB3 q0' q1' hab3 hws3 HR1 hab2 q0 q1
        go_wp2_with fail
        go_roundw
        case rel => exact ⟨k + 1, _, A6, c6, by go_num, by omega, rfl, hOl, HR4, HM4, hB4⟩
        case measure => simp [intOf]; omega
    · obtain rfl : k = n := by omega
      have HF : Hid (RO wr w.heap.size (.slice A5 k c5) (L.map Rx.rt)) := by
        have hm := HM.out
        rw [List.take_of_length_le (by rw [HL.out]; exact Nat.le_refl _)] at hm
        refine ⟨O, ?_, hm, HR.out.ok⟩
        rw [hO]
        have := HR.out.row
        rw [hO] at this
        exact this
      clear hO HR HM
      go_wp2
      go_ret
      exact ⟨_, rfl, HF.out, hB⟩
end Go.Proofs.YtmbaklodgpcegaaGreat
