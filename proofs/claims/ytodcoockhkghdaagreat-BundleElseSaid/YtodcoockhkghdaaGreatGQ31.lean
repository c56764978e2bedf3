/- Several texts of mine in one: Ref12, RtRow, Ref13b. No condition. -/
import Derived.Test.YtodcoockhkghdaaGreatPath5
import Derived.Test.YtodcoockhkghdaaGreatGQ30
import Derived.Deep.RegionLaw
namespace Go.Proofs.YtodcoockhkghdaaGreat
open Go.ChangeShapes Go.WideShapes Go.ChangeAt Go.RowKit Go.Sort
set_option linter.unusedSimpArgs false
set_option linter.unusedVariables false
set_option maxHeartbeats 4000000 in
set_option maxRecDepth 100000 in
theorem rsame12_any (A A' : Option Addr) (n c n' c' : Nat) (d d' : List Hp) (t t' : Int) (w : World) (hd : d.length = n) (hd' : d'.length = n') (hn : n ≤ 1000000) (hn' : n' ≤ 1000000) (h : Sl w w.heap.size 3 A n c (flatHp d)) (h' : Sl w w.heap.size 3 A' n' c' (flatHp d')) (b : Bool) (hb : (decide (t = t') && decide (d = d')) = b) :
    Calls Tryz.prog 15 #[.agg #[.slice A n c, .int .i64 t], .agg #[.slice A' n' c', .int .i64 t']] w fun e w' => e = .returned (.bool b) ∧ Below w.heap.size w w' := by
  have hB1 : Below w.heap.size w (w.alloc (.cells #[.slice A n c, .int .i64 t] 31)) := by (repeat (first | exact Below.refl _ _ | refine Below.alloc ?_ (by first | omega | (simp; done) | (simp; omega)) _ | refine Below.setCell ?_ (by first | omega | (simp; done) | (simp; omega)) _ | refine Below.drew ?_))
  have hB : Below w.heap.size w ((w.alloc (.cells #[.slice A n c, .int .i64 t] 31)).alloc (.cells #[.slice A' n' c', .int .i64 t'] 31)) := by (repeat (first | exact Below.refl _ _ | refine Below.alloc ?_ (by first | omega | (simp; done) | (simp; omega)) _ | refine Below.setCell ?_ (by first | omega | (simp; done) | (simp; omega)) _ | refine Below.drew ?_))
  have hX := (Blok.new w 31 #[.slice A n c, .int .i64 t]).alloc (.cells #[.slice A' n' c', .int .i64 t'] 31)
  have hY := Blok.new (w.alloc (.cells #[.slice A n c, .int .i64 t] 31)) 31 #[.slice A' n' c', .int .i64 t']
  rw [World.size_alloc] at hY
  have HL := Lib.hid (h.below hB)
  have HL' := Lib.hid (h'.below hB)
  have HD := Lib.hid hd
  have HD' := Lib.hid hd'
  have HBB := Lib.hid hb
  clear hd hd' h h' hb hB1
  by_cases hne : n ≠ n' ∨ t ≠ t'
  · have hf : b = false := by
      rw [← HBB.out]
      rcases hne with h1 | h1
      · have : d ≠ d' := fun e => by rw [e] at HD; exact h1 (HD.out.symm.trans HD'.out)
        simp [this]
      · simp [h1]
    subst hf
    by_cases hnn : n = n'
    · subst hnn
      have ht : t ≠ t' := by rcases hne with h1 | h1; · exact absurd rfl h1
                             · exact h1
      have g1 : (t != t') = true := by simp [ht]
      have g2 : ((n : Int) != (n : Int)) = false := by simp
      clear hne ht
      go_enter Tryz.func15, Tryz.ntmps15
      go_wp2
      go_ret
      exact ⟨rfl, hB⟩
    · have g2 : ((n : Int) != (n' : Int)) = true := by simp; omega
      clear hne
      go_enter Tryz.func15, Tryz.ntmps15
      go_wp2
      go_ret
      exact ⟨rfl, hB⟩
  · obtain rfl : n = n' := by omega
    obtain rfl : t = t' := by omega
    have g1 : (t != t) = false := by simp
    have g2 : ((n : Int) != (n : Int)) = false := by simp
    clear hne
    go_enter Tryz.func15, Tryz.ntmps15
    go_wp2
    clear g1 g2
    generalize (w.alloc (.cells #[.slice A n c, .int .i64 t] 31)).alloc (.cells #[.slice A' n c', .int .i64 t] 31) = w2 at *
    have HX := Lib.hid hX
    have HY := Lib.hid hY
    have HB := Lib.hid hB
    clear hX hY hB
    go_loopw [5] (fun iv wr => ∃ (i : Nat), iv = .int .i64 i ∧ i ≤ n ∧ Hid (d.take i = d'.take i) ∧ Below w2.heap.size w2 wr) (fun iv _ => n - (intOf iv).toNat)
    case atStart => exact ⟨0, rfl, by omega, by simp [Hid], Below.refl _ _⟩
    case round =>
      obtain ⟨i, rfl, hi, HE, hBr⟩ := hrel
      have hX := HX.out.below hBr HX.out.lt
      have hY := HY.out.below hBr HY.out.lt
      have x0 : wr.cell? ⟨w.heap.size, 0, none⟩ = some (.slice A n c) := hX.cell 0
      have x1 : wr.cell? ⟨w.heap.size, 1, none⟩ = some (.int .i64 t) := hX.cell 1
      have y0 : wr.cell? ⟨w.heap.size + 1, 0, none⟩ = some (.slice A' n c') := hY.cell 0
      have y1 : wr.cell? ⟨w.heap.size + 1, 1, none⟩ = some (.int .i64 t) := hY.cell 1
      have lt_x := hX.lt
      have lt_y := hY.lt
      clear hX hY
      have hbw := hBr.mono HB.out.size
      by_cases hin : i < n
      · obtain ⟨ad, rfl, hab, c0, c1, c2⟩ := (HL.out.below hbw).lst.atHp HD.out hin
        obtain ⟨ad', rfl, hab', c0', c1', c2'⟩ := (HL'.out.below hbw).lst.atHp HD'.out hin
        have hrun : ∀ w0, (binOp .neq 67 (.agg #[.int .i64 (gHp d i).id, .int .i64 (gHp d i).se, .int .i64 (gHp d i).ar]) (.agg #[.int .i64 (gHp d' i).id, .int .i64 (gHp d' i).se, .int .i64 (gHp d' i).ar])).run Tryz.prog w0 = .ok (.bool (!decide (gHp d i = gHp d' i))) w0 := fun w0 => neqHp (gHp d i) (gHp d' i) w0
        by_cases he : gHp d i = gHp d' i
        · have HE2 : Hid (d.take (i + 1) = d'.take (i + 1)) := by
            show d.take (i + 1) = d'.take (i + 1)
            rw [take_nextHp (by rw [HD.out]; exact hin), take_nextHp (by rw [HD'.out]; exact hin), HE.out, he]
          rw [decide_eq_true he] at hrun
          simp only [Bool.not_true] at hrun
          clear HE he hbw
          go_wp2_with fail
          have q_c0 := fun d os => cell_regrown c0 d os
          have q_c1 := fun d os => cell_regrown c1 d os
          have q_c2 := fun d os => cell_regrown c2 d os
          have q_c0' := fun d os => cell_regrown c0' d os
          have q_c1' := fun d os => cell_regrown c1' d os
          have q_c2' := fun d os => cell_regrown c2' d os
          have q_x0 := fun d os => cell_regrown x0 d os
          have q_x1 := fun d os => cell_regrown x1 d os
          have q_y0 := fun d os => cell_regrown y0 d os
          have q_y1 := fun d os => cell_regrown y1 d os
          try simp only [List.append]
          first | refine wp_region_text_below ?_ | refine wp_region_quiet_below (by kernel_rfl) (by kernel_rfl) ?_
          repeat (go_big_quiet_step ((fail)))
          refine wpQuiet_nil ?_
          intro _ hqw
          obtain ⟨pq, hqw⟩ := hqw
          subst hqw
          clear q_c0 q_c1 q_c2 q_c0' q_c1' q_c2' q_x0 q_x1 q_y0 q_y1
          have hbq := hBr.trans ((below_regrown wr pq.d pq.os).mono hBr.size)
          clear c0 c1 c2 c0' c1' c2' x0 x1 y0 y1 hrun lt_x lt_y hBr
          generalize grow (redrawn wr pq.d) pq.os = wq at *
          go_wp2_with fail
          go_roundw
          case rel => exact ⟨i + 1, by go_num, by omega, HE2, hbq⟩
          case measure => simp [intOf]; omega
        · have hf : b = false := by
            have : d ≠ d' := fun e => he (by rw [e])
            rw [← HBB.out]; simp [this]
          subst hf
          rw [decide_eq_false he] at hrun
          simp only [Bool.not_false] at hrun
          clear he hbw
          go_wp2_with fail
          have q_c0 := fun d os => cell_regrown c0 d os
          have q_c1 := fun d os => cell_regrown c1 d os
          have q_c2 := fun d os => cell_regrown c2 d os
          have q_c0' := fun d os => cell_regrown c0' d os
          have q_c1' := fun d os => cell_regrown c1' d os
          have q_c2' := fun d os => cell_regrown c2' d os
          have q_x0 := fun d os => cell_regrown x0 d os
          have q_x1 := fun d os => cell_regrown x1 d os
          have q_y0 := fun d os => cell_regrown y0 d os
          have q_y1 := fun d os => cell_regrown y1 d os
          try simp only [List.append]
          first | refine wp_region_text_below ?_ | refine wp_region_quiet_below (by kernel_rfl) (by kernel_rfl) ?_
          repeat (go_big_quiet_step ((fail)))
          refine wpQuiet_nil ?_
          intro _ hqw
          obtain ⟨pq, hqw⟩ := hqw
          subst hqw
          clear q_c0 q_c1 q_c2 q_c0' q_c1' q_c2' q_x0 q_x1 q_y0 q_y1
          have hbq := hBr.trans ((below_regrown wr pq.d pq.os).mono hBr.size)
          clear c0 c1 c2 c0' c1' c2' x0 x1 y0 y1 hrun lt_x lt_y hBr
          generalize grow (redrawn wr pq.d) pq.os = wq at *
          go_wp2_with fail
          go_ret
          exact ⟨rfl, HB.out.trans (hbq.mono HB.out.size)⟩
      · have hie : i = n := by omega
        have hf : b = true := by
          have he := HE.out
          rw [List.take_of_length_le (by rw [HD.out]; omega), List.take_of_length_le (by rw [HD'.out]; omega)] at he
          rw [← HBB.out, he]; simp
        subst hf
        subst hie
        go_wp2_with fail
        go_ret
        exact ⟨rfl, HB.out.trans hbw⟩
set_option maxHeartbeats 4000000 in
set_option maxRecDepth 100000 in
theorem rids12_any (A : Option Addr) (n c : Nat) (d : List Hp) (t : Int) (w : World) (hd : d.length = n) (hn : n ≤ 1000000) (h : Sl w w.heap.size 3 A n c (flatHp d)) :
    Calls Tryz.prog 30 #[.agg #[.slice A n c, .int .i64 t]] w fun e w' => ∃ v, e = .returned v ∧ w'.ownsRow w.heap.size 3 1 v n ((d.map Hp.id).map (Value.int .i64)) ∧ Below w.heap.size w w' := by
  obtain ⟨i0, hi0, hz0, hz1, hz2⟩ := info_parts infoI12
  have hB0 : Below w.heap.size w (w.alloc (.cells #[.slice A n c, .int .i64 t] 31)) := by (repeat (first | exact Below.refl _ _ | refine Below.alloc ?_ (by first | omega | (simp; done) | (simp; omega)) _ | refine Below.setCell ?_ (by first | omega | (simp; done) | (simp; omega)) _ | refine Below.drew ?_))
  have hX0 := Blok.new w 31 #[.slice A n c, .int .i64 t]
  have hl := h.below hB0
  obtain ⟨b1, hb1⟩ : ∃ q, (w.alloc (.cells #[.slice A n c, .int .i64 t] 31)).heap.size = q := ⟨_, rfl⟩
  have hwb : w.heap.size < b1 := by rw [← hb1, World.size_alloc]; omega
  have HD := Lib.hid hd
  clear hd h
  go_enter Tryz.func30, Tryz.ntmps30
  go_wp2
  generalize w.alloc (.cells #[.slice A n c, .int .i64 t] 31) = w0 at *
  have HL := Lib.hid hl
  have HB0 := Lib.hid hB0
  have HX := Lib.hid hX0
  have HB1 := Lib.hid hb1
  clear hl hB0 hX0 hb1
  go_loopw [3, 4] (fun ev iv wr => ∃ (i : Nat), iv = .int .i64 i ∧ i ≤ n ∧ wr.ownsRow b1 3 1 ev i (((d.take i).map Hp.id).map (Value.int .i64)) ∧ Below w.heap.size w wr ∧ b1 ≤ wr.heap.size ∧ Hid (Sl wr w.heap.size 3 A n c (flatHp d)) ∧ Hid (Blok wr w.heap.size 31 #[.slice A n c, .int .i64 t])) (fun _ iv _ => n - (intOf iv).toNat)
  case atStart => exact ⟨0, rfl, by omega, World.ownsRow_nil _ _ _ _, HB0.out, by rw [HB1.out]; omega, HL.out, HX.out⟩
  case round =>
    clear HB0 HL HX HB1
    obtain ⟨i, rfl, hi, hown, hB, hs1, HL, HX⟩ := hrel
    have hsz := hB.size
    obtain ⟨Ae, ce, rfl⟩ := slice_of_own hown
    have x0 : wr.cell? ⟨w.heap.size, 0, none⟩ = some (.slice A n c) := HX.out.cell 0
    have x1 : wr.cell? ⟨w.heap.size, 1, none⟩ = some (.int .i64 t) := HX.out.cell 1
    have lt_x := HX.out.lt
    by_cases hin : i < n
    · obtain ⟨ad, rfl, hab, c0, c1, c2⟩ := HL.out.lst.atHp HD.out hin
      have hnx : ((d.take (i + 1)).map Hp.id).map (Value.int .i64) = ((d.take i).map Hp.id).map (Value.int .i64) ++ [.int .i64 (gHp d i).id] := by
        rw [take_nextHp (by rw [HD.out]; exact hin)]; simp
      obtain ⟨x, hx⟩ : ∃ x, gHp d i = x := ⟨_, rfl⟩
      rw [hx] at c0 c1 c2 hnx
      have HNX := Lib.hid hnx
      clear hx hnx
      go_wp2_with (first | (at_builtin; refine wpList_append_own _ rfl _ _ 44 rfl b1 3 i0 _ 1 8 Tryz.underlying44 hi0 hz0 hz1 hz2 rfl (by decide) _ _ _ rfl (hown.alloc _) ⟨wr.heap.size, 0, none⟩ 1 1 [.int .i64 x.id] rfl rfl (by exact lit_cells wr #[.int .i64 x.id] _ _ rfl) (by simp [Value.oneCell']) (by unfold maxLen; omega) (by omega) (by simp; omega) ?_; intro v' w3 hown' hgrow3 hnil3))
      have hbN : Below w.heap.size w w3 := (hB.alloc hsz _).grown hgrow3 (by simp; omega) (fun q hq => by have := (hown.lt q hq).1; omega)
      have hLN := Lib.hid (HL.out.below (((Below.refl _ _).alloc hsz (.cells #[.int .i64 x.id] 3)).grown hgrow3 (by simp; omega) (fun q hq => by have := (hown.lt q hq).1; omega)))
      have hXN := Lib.hid ((HX.out.alloc (.cells #[.int .i64 x.id] 3)).grown hgrow3 (fun e => by have := (hown.lt _ e.symm).1; omega))
      have hs3 : b1 ≤ w3.heap.size := by have h1 := hgrow3.size; rw [World.size_alloc] at h1; omega
      clear hgrow3 hnil3 x0 x1 lt_x HL HX
      go_wp2_with fail
      go_roundw
      case rel => exact ⟨i + 1, by go_num, by omega, (by rw [HNX.out]; exact hown'), hbN, hs3, hLN, hXN⟩
      case measure => simp [intOf]; omega
    · obtain rfl : i = n := by omega
      rw [List.take_of_length_le (by rw [HD.out]; omega)] at hown
      have HOWN := Lib.hid (own_down (base' := w.heap.size) hown (by omega))
      clear hown
      go_wp2_with fail
      go_ret
      exact ⟨_, rfl, HOWN.out, hB⟩
def Rx.offP (g:Nat) (x:Rx):Prop:=0 < x.h.n → ∀ ad,x.h.A = some ad → ad.block ≠ g
theorem Rx.ok.keptP {S:Nat → Prop} {w w':World} {x:Rx} (h:x.ok w) (hk:Kept S w w') (ho:∀ g,S g → x.offP g):x.ok w':=⟨h.1,h.2.1,h.2.2.keptJ hk (fun hn ad e hS => ho _ hS hn ad e rfl)⟩
theorem Rx.ok.offP_new {w:World} {x:Rx} (h:x.ok w) {g:Nat} (hg:w.heap.size ≤ g):x.offP g:=fun hn ad e => by
 have:=h.2.2.off_newJ hn e
 omega
structure RtRow (w:World) (base:Nat) (rv:Value) (L:List Rx):Prop where
 row:w.ownsRow base 31 2 rv L.length (flatRh (hdRx L))
 ok:∀ x ∈ L,x.ok w
 off:∀ x ∈ L,∀ g,rv.ownBlock = some g → x.offP g
theorem RtRow.kept {S:Nat → Prop} {w w':World} {base:Nat} {rv:Value} {L:List Rx} (h:RtRow w base rv L) (hk:Kept S w w') (ho:∀ x ∈ L,∀ g,S g → x.offP g) (hv:∀ g,rv.ownBlock = some g → ¬ S g):RtRow w' base rv L:=⟨own_keptJ h.row hk hv,fun x hx => (h.ok x hx).keptP hk (ho x hx),h.off⟩
theorem RtRow.below {w w':World} {base:Nat} {rv:Value} {L:List Rx} (h:RtRow w base rv L) (hb:Below w.heap.size w w'):RtRow w' base rv L:=h.kept (S:=fun _ => False) (Kept.of_below hb) (fun _ _ _ f => f.elim) (fun _ _ f => f)
def RO (w:World) (base:Nat) (v:Value) (R:List (List Hp × Int)):Prop:=∃ L:List Rx,w.ownsRow base 31 2 v L.length (flatRh (hdRx L)) ∧ L.map Rx.rt = R ∧ ∀ x ∈ L,x.ok w
theorem RO.nil (w:World) (base:Nat):RO w base (.slice none 0 0) []:=⟨[],World.ownsRow_nil _ _ _ _,rfl,fun x hx => by cases hx⟩
theorem RO.below {w w':World} {base:Nat} {v:Value} {R:List (List Hp × Int)} (h:RO w base v R) (hb:Below w.heap.size w w'):RO w' base v R:=by
 obtain ⟨L,h1,h2,h3⟩:=h
 exact ⟨L,own_belowK h1 hb,h2,fun x hx => (h3 x hx).below hb⟩
theorem RO.rl {w:World} {base:Nat} {v:Value} {R:List (List Hp × Int)} (h:RO w base v R):RL w v R:=by
 obtain ⟨L,h1,h2,h3⟩:=h
 obtain ⟨A',c',rfl⟩:=slice_of_own h1
 exact ⟨A',_,c',L,rfl,rfl,h2,Sl.of_own h1,h3⟩
theorem RO.sl {w:World} {base:Nat} {v:Value} {R:List (List Hp × Int)} (h:RO w base v R):∃ A c,v = .slice A R.length c:=by
 obtain ⟨L,h1,rfl,h3⟩:=h
 obtain ⟨A',c',rfl⟩:=slice_of_own h1
 rw [List.length_map]
 exact ⟨_,_,rfl⟩
theorem RO.cells {w:World} {base g n c k:Nat} {R:List (List Hp × Int)} (h:RO w base (.slice (some ⟨g,0,none⟩) n c) R) (hk:k < n):∃ An nn cn,w.cell? ⟨g,k * 2,none⟩ = some (.slice An nn cn) ∧ w.cell? ⟨g,k * 2 + 1,none⟩ = some (.int .i64 (R.getD k ([],0)).2) ∧ (R.getD k ([],0)).1.length = nn ∧ nn ≤ 1000000 ∧ Sl w w.heap.size 3 An nn cn (flatHp (R.getD k ([],0)).1):=by
 obtain ⟨L,h1,rfl,h3⟩:=h
 have hnL:n = L.length:=by
  obtain ⟨A',c',e⟩:=slice_of_own h1
  simp only [Value.slice.injEq] at e
  exact e.2.1
 subst hnL
 have hl:(hdRx L).length = L.length:=by simp [hdRx]
 obtain ⟨a1,a2⟩:=ownRh_at h1 hl hk
 rw [gRx_hd hk] at a1 a2
 have e2:(L.map Rx.rt).getD k ([],0) = (gRx L k).rt:=by
  unfold gRx
  rw [List.getD_eq_getElem?_getD,List.getD_eq_getElem?_getD,List.getElem?_map,List.getElem?_eq_getElem hk]
  rfl
 rw [e2]
 obtain ⟨b1,b2,b3⟩:=h3 _ (gRx_mem hk)
 exact ⟨_,_,_,a1,a2,b1,b2,b3⟩
theorem RO.first {w:World} {base n c m:Nat} {A:Option Addr} {R:List (List Hp × Int)} (h:RO w base (.slice A n c) R) (hm:m ≤ n):RL w (.slice A m c) (R.take m):=by
 obtain ⟨L,h1,rfl,h3⟩:=h
 have hnL:n = L.length:=by
  obtain ⟨A',c',e⟩:=slice_of_own h1
  simp only [Value.slice.injEq] at e
  exact e.2.1
 subst hnL
 refine ⟨A,m,c,L.take m,rfl,by rw [List.length_take]; omega,by rw [List.map_take],?_,fun x hx => h3 x (List.mem_of_mem_take hx)⟩
 have hs:=(Sl.of_own h1).upto hm
 rw [flatRh_take] at hs
 have e:(hdRx L).take m = hdRx (L.take m):=by simp [hdRx,List.map_take]
 rw [e] at hs
 exact hs
end Go.Proofs.YtodcoockhkghdaaGreat
