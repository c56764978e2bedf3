/- Package contacts: Expire's closure, which notes who goes. No condition. -/
import Derived.Test.YtolaabllhibkdaaGreatContacts4
namespace Go.Proofs.YtolaabllhibkdaaGreat.Kc
open Go.ChangeShapes Go.WideShapes Go.ChangeAt Go.RowKit Go.Sort
set_option linter.unusedSimpArgs false
set_option linter.unusedVariables false
def overE (now : Int) (x : Co) : Bool := decide (x.en ≤ now)
def goneL (d : List Co) (now : Int) : List Int := (d.filter (overE now)).map (fun x => x.id)
theorem goneL_next {d : List Co} {k : Nat} (now : Int) (h : k < d.length) : goneL (d.take (k + 1)) now = goneL (d.take k) now ++ if overE now (gCo d k) = true then [(gCo d k).id] else [] := by
  unfold goneL
  rw [take_nextCo h, List.filter_append, List.map_append]
  congr 1
  cases h2 : overE now (gCo d k) <;> simp [List.filter_cons, h2]
theorem goneL_len (d : List Co) (now : Int) (k : Nat) : (goneL (d.take k) now).length ≤ k := by
  unfold goneL
  rw [List.length_map]
  have := List.length_filter_le (overE now) (d.take k)
  rw [List.length_take] at this
  omega
theorem infoI : (Tryz.prog.info? 3).map (fun i => (i.zero, i.size, i.bytes)) = some (some (.int .i64 0), 1, 8) := by kernel_rfl
/-- Who has gone till now, as the closure keeps it. -/
def GoneS (gN gg g0 : Nat) (now : Int) (l : List Int) (W : World) : Prop :=
  Blok W gN 3 #[.int .i64 now] ∧ ∃ v, Blok W gg 47 #[v] ∧ W.ownsRow (gg + 1) 3 1 v l.length (l.map (Value.int .i64)) ∧ v.ownBlock ≠ some g0
def GoneR (gN gg g0 : Nat) (now : Int) (d : List Co) (k : Nat) (W : World) : Prop := GoneS gN gg g0 now (goneL (d.take k) now) W
def SameFrom (W w w' : World) : Prop := ∀ b, W.heap.size ≤ b → b < w.heap.size → w'.heap[b]? = w.heap[b]?
def SameAt (g0 : Nat) (w w' : World) : Prop := w'.heap[g0]? = w.heap[g0]?
theorem ints_one (l : List Int) : ∀ u ∈ l.map (Value.int .i64), u.oneCell' = true := by
  intro u hu
  obtain ⟨x, _, rfl⟩ := List.mem_map.1 hu
  rfl
set_option maxHeartbeats 2000000 in
set_option maxRecDepth 100000 in
theorem expire1_any (now : Int) (gN gg g0 base : Nat) (d : List Co) (k : Nat) (W w : World) (hk : k < d.length) (hdl : d.length ≤ 1000000) (hR : GoneR gN gg g0 now d k W) (hb : Below W.heap.size W w) (hg0 : g0 < W.heap.size) (hbase : base ≤ gg) (hNg : gN ≠ gg) (h0g : g0 ≠ gg) (h0N : g0 ≠ gN) (hNl : gN ≤ gg) :
    Calls Tryz.prog 89 (#[.agg #[.int .i64 (gCo d k).id, .int .i64 (gCo d k).fr, .int .i64 (gCo d k).tn, .int .i64 (gCo d k).st, .int .i64 (gCo d k).en, .int .i64 (gCo d k).rt]] ++ #[.pointer (some ⟨gN, 0, none⟩), .pointer (some ⟨gg, 0, none⟩)]) w fun e w' => e = .returned (.bool (overE now (gCo d k))) ∧ GoneR gN gg g0 now d (k + 1) w' ∧ Below base w w' ∧ SameAt g0 w w' ∧ SameFrom W w w' := by
  obtain ⟨hN, v, hG, hown, hne⟩ := hR
  have hggW := hG.lt
  have hvW := hown.lt
  have hbs := hb.size
  have hN1 := hN.below hb hN.lt
  have hG1 := hG.below hb hG.lt
  have hown1 := hown.kept (grown_of_below (row := some W.heap.size) hb) (.inr (fun e => by have := (hvW _ e).2; omega))
  obtain ⟨x, hx⟩ : ∃ x, gCo d k = x := ⟨_, rfl⟩
  have hnext := goneL_next now hk
  rw [hx] at hnext ⊢
  have hlen := goneL_len d now k
  have HK := Lib.hid hnext
  clear hnext hx hN hG hown hb
  obtain ⟨l, hl⟩ : ∃ l, goneL (d.take k) now = l := ⟨_, rfl⟩
  obtain ⟨l', hl'⟩ : ∃ l', goneL (d.take (k + 1)) now = l' := ⟨_, rfl⟩
  have HK2 : Hid (l' = l ++ if overE now x = true then [x.id] else []) := by
    have := HK.out
    rw [hl, hl'] at this
    exact this
  rw [hl] at hown1 hlen
  have hR' : GoneR gN gg g0 now d (k + 1) = GoneS gN gg g0 now l' := by funext w'; unfold GoneR; rw [hl']
  rw [hR']
  clear hl hl' HK hR'
  have hBa : Below w.heap.size w (w.alloc (.cells #[.int .i64 x.id, .int .i64 x.fr, .int .i64 x.tn, .int .i64 x.st, .int .i64 x.en, .int .i64 x.rt] 33)) := by (repeat (first | exact Below.refl _ _ | refine Below.alloc ?_ (by first | omega | (simp; done) | (simp; omega)) _ | refine Below.setCell ?_ (by first | omega | (simp; done) | (simp; omega)) _ | refine Below.drew ?_))
  have hN2 := hN1.below hBa hN1.lt
  have hG2 := hG1.below hBa hG1.lt
  have hown2 := hown1.alloc (.cells #[.int .i64 x.id, .int .i64 x.fr, .int .i64 x.tn, .int .i64 x.st, .int .i64 x.en, .int .i64 x.rt] 33)
  have hNlt := hN1.lt
  have hGlt := hG1.lt
  have c0 : w.cell? ⟨gN, 0, none⟩ = some (.int .i64 now) := hN1.cell 0
  have c1 : w.cell? ⟨gg, 0, none⟩ = some v := hG1.cell 0
  have f1 := hG1.free 0
  by_cases ho : x.en ≤ now
  · have ho1 : overE now x = true := by simp [overE, ho]
    have hl' : l' = l ++ [x.id] := by rw [HK2.out, if_pos ho1]
    rw [ho1]
    have hd : decide (x.en ≤ now) = true := by simp [ho]
    clear HK2 ho1 ho
    obtain ⟨i0, hi0, hz0, hz1, hz2⟩ := info_parts infoI
    have HL := Lib.hid hl'
    clear hl' hN1 hG1 hown1
    obtain ⟨A, c, rfl⟩ := slice_of_own hown2
    obtain ⟨ln, hln⟩ : ∃ ln, l.length = ln := ⟨_, rfl⟩
    rw [hln] at hown2 c1 hG2 hlen hne hvW
    have HLN := Lib.hid hln
    clear hln
    have hlit := own_lit (w.alloc (.cells #[.int .i64 x.id, .int .i64 x.fr, .int .i64 x.tn, .int .i64 x.st, .int .i64 x.en, .int .i64 x.rt] 33)) 0 3 1 1 #[.int .i64 x.id] (by omega) rfl (by simp [maxLen])
    rw [World.size_alloc] at hlit
    have hsl := Lst.of_own hlit
    have hown3 := hown2.alloc (.cells #[.int .i64 x.id] 3)
    have hN3 := hN2.alloc (.cells #[.int .i64 x.id] 3)
    have hG3 := hG2.alloc (.cells #[.int .i64 x.id] 3)
    have hB3 : Below w.heap.size w ((w.alloc (.cells #[.int .i64 x.id, .int .i64 x.fr, .int .i64 x.tn, .int .i64 x.st, .int .i64 x.en, .int .i64 x.rt] 33)).alloc (.cells #[.int .i64 x.id] 3)) := hBa.alloc hBa.size _
    have HN3 := Lib.hid hN3
    have HG3 := Lib.hid hG3
    have HO3 := Lib.hid hown3
    have HS3 := Lib.hid hsl
    have HB3 := Lib.hid hB3
    clear hN2 hG2 hown2 hlit hsl hown3 hN3 hG3 hB3 hBa
    go_enter Tryz.func89, Tryz.ntmps89
    go_wp2_with (first
      | (at_builtin
         refine wpList_append_lst _ rfl (.tmp 11) (.tmp 14) 47 rfl (gg + 1) 3 i0 _ 1 8 Tryz.underlying47 hi0 hz0 hz1 hz2 rfl (by decide) (.slice A ln c) ln _ rfl HO3.out _ (some ⟨w.heap.size + 1, 0, none⟩) 1 1 [.int .i64 x.id] rfl HS3.out (ints_one [x.id]) (by unfold maxLen; omega) (by omega) (by simp; omega) ?_
         intro v1 w3 hown4 hg4 hat4
         obtain ⟨A4, c4, rfl⟩ := slice_of_own hown4
         have hG4 := HG3.out.grown hg4 (fun e => by have := (hvW gg e.symm).1; omega)
         have e0 : w3.cell? ⟨gg, 0, none⟩ = some (.slice A ln c) := hG4.cell 0
         have e1 := hG4.free 0
         have HO4 := Lib.hid hown4
         have HG4 := Lib.hid hG4
         have HGR := Lib.hid hg4
         have HAT := Lib.hid hat4
         clear hown4 hG4 hg4 hat4))
    go_ret
    have hown4 := HO4.out
    have hg4 := HGR.out
    have hsz3 : w.heap.size + 2 ≤ w3.heap.size := by have := hg4.size; simp at this; omega
    have hBl := HB3.out
    refine ⟨rfl, ⟨?_, .slice A4 (ln + 1) c4, ?_, ?_, ?_⟩, ?_, ?_, ?_⟩
    · exact (HN3.out.grown hg4 (fun e => by have := (hvW gN e.symm).1; omega)).far (p := ⟨gg, 0, none⟩) hNg _
    · have := HG4.out.set_ 0 (.slice A4 (ln + 1) c4); simpa using this
    · have hne4 : (Value.slice A4 (ln + 1) c4).ownBlock ≠ some gg := fun e => by have := (hown4.lt _ e).1; omega
      have := hown4.kept (grown_set w3 0 (.slice A4 (ln + 1) c4) (g := gg)) (.inr hne4)
      rw [HL.out]
      simpa [HLN.out] using this
    · rcases HAT.out with e | e
      · rw [e]; exact hne
      · rw [e]; simp; omega
    · have h1 : Below base w w3 := Below.grown (hBl.mono (by omega)) hg4 (by simp; omega) (fun j hj => by have := (hvW j hj).1; omega)
      exact h1.setCell (p := ⟨gg, 0, none⟩) hbase _
    · unfold SameAt
      rw [Below.heap_setCell _ _ _ _ (by simpa using h0g), hg4.block g0 (by simp; omega) (fun e => hne e.symm)]
      exact hBl.block g0 (by omega)
    · intro b h1 h2
      rw [Below.heap_setCell _ _ _ _ (by simp; omega), hg4.block b (by simp; omega) (fun e => by have := (hvW b e.symm).2; omega)]
      exact hBl.block b h2
  · have ho1 : overE now x = false := by simp [overE]; omega
    have hl' : l' = l := by rw [HK2.out, if_neg (by rw [ho1]; simp)]; simp
    rw [ho1, hl']
    have hd : decide (x.en ≤ now) = false := by simp; omega
    have HN2 := Lib.hid hN2
    have HG2 := Lib.hid hG2
    have HO2 := Lib.hid hown2
    have HB2 := Lib.hid hBa
    clear HK2 ho1 hl' hN1 hG1 hown1 hN2 hG2 hown2 hBa c1 f1
    go_enter Tryz.func89, Tryz.ntmps89
    go_wp2
    go_ret
    exact ⟨rfl, ⟨HN2.out, v, HG2.out, HO2.out, hne⟩, HB2.out.mono (by omega), HB2.out.block g0 (by omega), fun b _ h2 => HB2.out.block b h2⟩
theorem pred_expire (now : Int) (gN gg g0 base : Nat) (d : List Co) (hdl : d.length ≤ 1000000) (hbase : base ≤ gg) (hNg : gN ≠ gg) (h0g : g0 ≠ gg) (h0N : g0 ≠ gN) (hNl : gN ≤ gg) :
    PredS 89 #[.pointer (some ⟨gN, 0, none⟩), .pointer (some ⟨gg, 0, none⟩)] g0 base d (overE now) (GoneR gN gg g0 now d) :=
  ⟨enter_run Tryz.func89 rfl rfl,
   fun k hk W w' hR hb hg _ => (expire1_any now gN gg g0 base d k W w' hk hdl hR hb hg hbase hNg h0g h0N hNl).mono fun _ _ h => h,
   fun k w w' ⟨hN, v, hG, hown, hne⟩ hgr => ⟨hN.grown hgr (fun e => h0N (by simpa using e.symm)), v, hG.grown hgr (fun e => h0g (by simpa using e.symm)), hown.kept hgr (.inr hne), hne⟩⟩
end Go.Proofs.YtolaabllhibkdaaGreat.Kc
