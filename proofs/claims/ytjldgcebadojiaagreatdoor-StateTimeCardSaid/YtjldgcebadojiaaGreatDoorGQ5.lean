/- Several texts of mine in one: Contacts5, SortI, Contacts6, Ints, Small06, ContactsMath. No condition. -/
import Derived.Test.YtjldgcebadojiaaGreatDoorGQ4
import Derived.Test.YtjldgcebadojiaaGreatDoorShelf
import Derived.Test.YtjldgcebadojiaaGreatDoorGQ8
import Derived.Sort.OwnSortedInts
import Derived.Test.YtjldgcebadojiaaGreatDoorChecked
namespace Go.Proofs.YtjldgcebadojiaaGreatDoor.Kc
open Go.ChangeShapes Go.WideShapes Go.ChangeAt Go.RowKit Go.Sort
set_option linter.unusedSimpArgs false
set_option linter.unusedVariables false
def overE (now : Int) (x : Co) : Bool := decide (x.en ≤ now)
def goneL (d : List Co) (now : Int) : List Int := (d.filter (overE now)).map (fun x => x.id)
theorem goneL_next {d : List Co} {k : Nat} (now : Int) (h : k < d.length) : goneL (d.take (k + 1)) now = goneL (d.take k) now ++ if overE now (gCo d k) = true then [(gCo d k).id] else [] := by
  unfold goneL
  rw [take_nextCo h, List.filter_append, List.map_append]
  congr 1
  cases h2 : overE now (gCo d k) <;> simp [List.filter_cons, h2]
theorem goneL_len (d : List Co) (now : Int) (k : Nat) : (goneL (d.take k) now).length ≤ k := by
  unfold goneL
  rw [List.length_map]
  have := List.length_filter_le (overE now) (d.take k)
  rw [List.length_take] at this
  omega
theorem infoI : (Tryz.prog.info? 3).map (fun i => (i.zero, i.size, i.bytes)) = some (some (.int .i64 0), 1, 8) := by kernel_rfl
def GoneS (gN gg g0 : Nat) (now : Int) (l : List Int) (W : World) : Prop :=
  Blok W gN 3 #[.int .i64 now] ∧ ∃ v, Blok W gg 39 #[v] ∧ W.ownsRow (gg + 1) 3 1 v l.length (l.map (Value.int .i64)) ∧ v.ownBlock ≠ some g0
def GoneR (gN gg g0 : Nat) (now : Int) (d : List Co) (k : Nat) (W : World) : Prop := GoneS gN gg g0 now (goneL (d.take k) now) W
def SameFrom (W w w' : World) : Prop := ∀ b, W.heap.size ≤ b → b < w.heap.size → w'.heap[b]? = w.heap[b]?
def SameAt (g0 : Nat) (w w' : World) : Prop := w'.heap[g0]? = w.heap[g0]?
theorem ints_one (l : List Int) : ∀ u ∈ l.map (Value.int .i64), u.oneCell' = true := by
  intro u hu
  obtain ⟨x, _, rfl⟩ := List.mem_map.1 hu
  rfl
set_option maxHeartbeats 2000000 in
set_option maxRecDepth 100000 in
theorem expire1_any (now : Int) (gN gg g0 base : Nat) (d : List Co) (k : Nat) (W w : World) (hk : k < d.length) (hdl : d.length ≤ 1000000) (hR : GoneR gN gg g0 now d k W) (hb : Below W.heap.size W w) (hg0 : g0 < W.heap.size) (hbase : base ≤ gg) (hNg : gN ≠ gg) (h0g : g0 ≠ gg) (h0N : g0 ≠ gN) (hNl : gN ≤ gg) :
    Calls Tryz.prog 186 (#[.agg #[.int .i64 (gCo d k).id, .int .i64 (gCo d k).fr, .int .i64 (gCo d k).tn, .int .i64 (gCo d k).st, .int .i64 (gCo d k).en, .int .i64 (gCo d k).rt]] ++ #[.pointer (some ⟨gN, 0, none⟩), .pointer (some ⟨gg, 0, none⟩)]) w fun e w' => e = .returned (.bool (overE now (gCo d k))) ∧ GoneR gN gg g0 now d (k + 1) w' ∧ Below base w w' ∧ SameAt g0 w w' ∧ SameFrom W w w' := by
  obtain ⟨hN, v, hG, hown, hne⟩ := hR
  have hggW := hG.lt
  have hvW := hown.lt
  have hbs := hb.size
  have hN1 := hN.below hb hN.lt
  have hG1 := hG.below hb hG.lt
  have hown1 := hown.kept (grown_of_below (row := some W.heap.size) hb) (.inr (fun e => by have := (hvW _ e).2; omega))
  obtain ⟨x, hx⟩ : ∃ x, gCo d k = x := ⟨_, rfl⟩
  have hnext := goneL_next now hk
  rw [hx] at hnext ⊢
  have hlen := goneL_len d now k
  have HK := Lib.hid hnext
  clear hnext hx hN hG hown hb
  obtain ⟨l, hl⟩ : ∃ l, goneL (d.take k) now = l := ⟨_, rfl⟩
  obtain ⟨l', hl'⟩ : ∃ l', goneL (d.take (k + 1)) now = l' := ⟨_, rfl⟩
  have HK2 : Hid (l' = l ++ if overE now x = true then [x.id] else []) := by
    have := HK.out
    rw [hl, hl'] at this
    exact this
  rw [hl] at hown1 hlen
  have hR' : GoneR gN gg g0 now d (k + 1) = GoneS gN gg g0 now l' := by funext w'; unfold GoneR; rw [hl']
  rw [hR']
  clear hl hl' HK hR'
  have hBa : Below w.heap.size w (w.alloc (.cells #[.int .i64 x.id, .int .i64 x.fr, .int .i64 x.tn, .int .i64 x.st, .int .i64 x.en, .int .i64 x.rt] 34)) := by (repeat (first | exact Below.refl _ _ | refine Below.alloc ?_ (by first | omega | (simp; done) | (simp; omega)) _ | refine Below.setCell ?_ (by first | omega | (simp; done) | (simp; omega)) _ | refine Below.drew ?_))
  have hN2 := hN1.below hBa hN1.lt
  have hG2 := hG1.below hBa hG1.lt
  have hown2 := hown1.alloc (.cells #[.int .i64 x.id, .int .i64 x.fr, .int .i64 x.tn, .int .i64 x.st, .int .i64 x.en, .int .i64 x.rt] 34)
  have hNlt := hN1.lt
  have hGlt := hG1.lt
  have c0 : w.cell? ⟨gN, 0, none⟩ = some (.int .i64 now) := hN1.cell 0
  have c1 : w.cell? ⟨gg, 0, none⟩ = some v := hG1.cell 0
  have f1 := hG1.free 0
  by_cases ho : x.en ≤ now
  · have ho1 : overE now x = true := by simp [overE, ho]
    have hl' : l' = l ++ [x.id] := by rw [HK2.out, if_pos ho1]
    rw [ho1]
    have hd : decide (x.en ≤ now) = true := by simp [ho]
    clear HK2 ho1 ho
    obtain ⟨i0, hi0, hz0, hz1, hz2⟩ := info_parts infoI
    have HL := Lib.hid hl'
    clear hl' hN1 hG1 hown1
    obtain ⟨A, c, rfl⟩ := slice_of_own hown2
    obtain ⟨ln, hln⟩ : ∃ ln, l.length = ln := ⟨_, rfl⟩
    rw [hln] at hown2 c1 hG2 hlen hne hvW
    have HLN := Lib.hid hln
    clear hln
    have hlit := own_lit (w.alloc (.cells #[.int .i64 x.id, .int .i64 x.fr, .int .i64 x.tn, .int .i64 x.st, .int .i64 x.en, .int .i64 x.rt] 34)) 0 3 1 1 #[.int .i64 x.id] (by omega) rfl (by simp [maxLen])
    rw [World.size_alloc] at hlit
    have hsl := Lst.of_own hlit
    have hown3 := hown2.alloc (.cells #[.int .i64 x.id] 3)
    have hN3 := hN2.alloc (.cells #[.int .i64 x.id] 3)
    have hG3 := hG2.alloc (.cells #[.int .i64 x.id] 3)
    have hB3 : Below w.heap.size w ((w.alloc (.cells #[.int .i64 x.id, .int .i64 x.fr, .int .i64 x.tn, .int .i64 x.st, .int .i64 x.en, .int .i64 x.rt] 34)).alloc (.cells #[.int .i64 x.id] 3)) := hBa.alloc hBa.size _
    have HN3 := Lib.hid hN3
    have HG3 := Lib.hid hG3
    have HO3 := Lib.hid hown3
    have HS3 := Lib.hid hsl
    have HB3 := Lib.hid hB3
    clear hN2 hG2 hown2 hlit hsl hown3 hN3 hG3 hB3 hBa
    go_enter Tryz.func186, Tryz.ntmps186
    go_wp2_with (first
      | (at_builtin
         refine wpList_append_lst _ rfl (.tmp 11) (.tmp 14) 39 rfl (gg + 1) 3 i0 _ 1 8 Tryz.underlying39 hi0 hz0 hz1 hz2 rfl (by decide) (.slice A ln c) ln _ rfl HO3.out _ (some ⟨w.heap.size + 1, 0, none⟩) 1 1 [.int .i64 x.id] rfl HS3.out (ints_one [x.id]) (by unfold maxLen; omega) (by omega) (by simp; omega) ?_
         intro v1 w3 hown4 hg4 hat4
         obtain ⟨A4, c4, rfl⟩ := slice_of_own hown4
         have hG4 := HG3.out.grown hg4 (fun e => by have := (hvW gg e.symm).1; omega)
         have e0 : w3.cell? ⟨gg, 0, none⟩ = some (.slice A ln c) := hG4.cell 0
         have e1 := hG4.free 0
         have HO4 := Lib.hid hown4
         have HG4 := Lib.hid hG4
         have HGR := Lib.hid hg4
         have HAT := Lib.hid hat4
         clear hown4 hG4 hg4 hat4))
    go_ret
    have hown4 := HO4.out
    have hg4 := HGR.out
    have hsz3 : w.heap.size + 2 ≤ w3.heap.size := by have := hg4.size; simp at this; omega
    have hBl := HB3.out
    refine ⟨rfl, ⟨?_, .slice A4 (ln + 1) c4, ?_, ?_, ?_⟩, ?_, ?_, ?_⟩
    · exact (HN3.out.grown hg4 (fun e => by have := (hvW gN e.symm).1; omega)).far (p := ⟨gg, 0, none⟩) hNg _
    · have := HG4.out.set_ 0 (.slice A4 (ln + 1) c4); simpa using this
    · have hne4 : (Value.slice A4 (ln + 1) c4).ownBlock ≠ some gg := fun e => by have := (hown4.lt _ e).1; omega
      have := hown4.kept (grown_set w3 0 (.slice A4 (ln + 1) c4) (g := gg)) (.inr hne4)
      rw [HL.out]
      simpa [HLN.out] using this
    · rcases HAT.out with e | e
      · rw [e]; exact hne
      · rw [e]; simp; omega
    · have h1 : Below base w w3 := Below.grown (hBl.mono (by omega)) hg4 (by simp; omega) (fun j hj => by have := (hvW j hj).1; omega)
      exact h1.setCell (p := ⟨gg, 0, none⟩) hbase _
    · unfold SameAt
      rw [Below.heap_setCell _ _ _ _ (by simpa using h0g), hg4.block g0 (by simp; omega) (fun e => hne e.symm)]
      exact hBl.block g0 (by omega)
    · intro b h1 h2
      rw [Below.heap_setCell _ _ _ _ (by simp; omega), hg4.block b (by simp; omega) (fun e => by have := (hvW b e.symm).2; omega)]
      exact hBl.block b h2
  · have ho1 : overE now x = false := by simp [overE]; omega
    have hl' : l' = l := by rw [HK2.out, if_neg (by rw [ho1]; simp)]; simp
    rw [ho1, hl']
    have hd : decide (x.en ≤ now) = false := by simp; omega
    have HN2 := Lib.hid hN2
    have HG2 := Lib.hid hG2
    have HO2 := Lib.hid hown2
    have HB2 := Lib.hid hBa
    clear HK2 ho1 hl' hN1 hG1 hown1 hN2 hG2 hown2 hBa c1 f1
    go_enter Tryz.func186, Tryz.ntmps186
    go_wp2
    go_ret
    exact ⟨rfl, ⟨HN2.out, v, HG2.out, HO2.out, hne⟩, HB2.out.mono (by omega), HB2.out.block g0 (by omega), fun b _ h2 => HB2.out.block b h2⟩
theorem pred_expire (now : Int) (gN gg g0 base : Nat) (d : List Co) (hdl : d.length ≤ 1000000) (hbase : base ≤ gg) (hNg : gN ≠ gg) (h0g : g0 ≠ gg) (h0N : g0 ≠ gN) (hNl : gN ≤ gg) :
    PredS 186 #[.pointer (some ⟨gN, 0, none⟩), .pointer (some ⟨gg, 0, none⟩)] g0 base d (overE now) (GoneR gN gg g0 now d) :=
  ⟨enter_run Tryz.func186 rfl rfl,
   fun k hk W w' hR hb hg _ => (expire1_any now gN gg g0 base d k W w' hk hdl hR hb hg hbase hNg h0g h0N hNl).mono fun _ _ h => h,
   fun k w w' ⟨hN, v, hG, hown, hne⟩ hgr => ⟨hN.grown hgr (fun e => h0N (by simpa using e.symm)), v, hG.grown hgr (fun e => h0g (by simpa using e.symm)), hown.kept hgr (.inr hne), hne⟩⟩
end Go.Proofs.YtjldgcebadojiaaGreatDoor.Kc
namespace Go.Proofs.YtjldgcebadojiaaGreatDoor
open Go.ChangeShapes Go.WideShapes Go.ChangeAt Go.RowKit Go.Sort
set_option linter.unusedSimpArgs false
set_option linter.unusedVariables false
def sortI (l:List Int):List Int:=l.mergeSort fun x y => decide (x ≤ y)
theorem sortI_length (l:List Int):(sortI l).length = l.length:=by unfold sortI; exact List.length_mergeSort _
theorem sortI_any (u:Value) (l:List Int) (base:Nat) (w:World) (hl:l.length ≤ 1000000) (hown:w.ownsRow base 3 1 u l.length (l.map (Value.int .i64))) :
  Calls Tryz.prog 187 #[u] w fun e w' => e = .returned (.tuple #[]) ∧ w'.ownsRow base 3 1 u l.length ((sortI l).map (Value.int .i64)) ∧ w.grownBy w' u.ownBlock:=by
 rcases hown.2 with ⟨rfl,h0⟩ | ⟨g,cap,cur,rfl,hbase,hb,h1,h2,h3,h4⟩
 ·have hl0:l = []:=by simpa using h0
  subst hl0
  refine (Tryz.slices_Sort_int_none none 0 w).mono ?_
  rintro e w' ⟨rfl,rfl⟩
  exact ⟨rfl,by rw [show sortI [] = [] from by simp [sortI]]; exact hown,grown_refl _ _⟩
 ·have hH:=holds_of_blockI hb (by simpa using h4)
  have hgl:g < w.heap.size:=(Array.getElem?_eq_some_iff.1 hb).1
  refine (Tryz.slices_Sort_int g 0 cap l w hH hgl (by omega)).mono ?_
  rintro e w' ⟨rfl,nn,os,rfl⟩
  exact ⟨rfl,ownsRow_sortedI (sortI_length l) hbase hb h1 h2 h3,grownBy_sortedI _⟩
theorem own_ne {w:World} {b b':Nat} {e e':TypeId} {s s' n n':Nat} {v v':Value} {xs xs':List Value} (h:w.ownsRow b e s v n xs) (h':w.ownsRow b' e' s' v' n' xs') (hne:e ≠ e'):v.ownBlock = none ∨ v.ownBlock ≠ v'.ownBlock:=by
 rcases h.2 with ⟨rfl,_⟩ | ⟨g,cap,cur,rfl,_,hg,_⟩
 ·exact .inl rfl
 ·rcases h'.2 with ⟨rfl,_⟩ | ⟨g',cap',cur',rfl,_,hg',_⟩
  ·exact .inr (by simp [Value.ownBlock])
  ·refine .inr (fun e2 => hne ?_)
   simp only [Value.ownBlock,Option.some.injEq] at e2
   rw [e2,hg'] at hg
   injection hg with hg
   injection hg with _ hg
   exact hg.symm
end Go.Proofs.YtjldgcebadojiaaGreatDoor
namespace Go.Proofs.YtjldgcebadojiaaGreatDoor.Kc
open Go.ChangeShapes Go.WideShapes Go.ChangeAt Go.RowKit Go.Sort
set_option linter.unusedSimpArgs false
set_option linter.unusedVariables false
def leftC (d:List Co) (now:Int):List Co:=d.filter (fun x => !overE now x)
def DelPost (base0 gg:Nat) (now:Int) (d:List Co) (w:World) (e:Ending) (w':World):Prop:=
 ∃ v u,e = .returned v ∧ w'.ownsRow base0 34 6 v (leftC d now).length (flatCo (leftC d now)) ∧ Blok w' gg 39 #[u] ∧ w'.ownsRow (gg + 1) 3 1 u (goneL d now).length ((goneL d now).map (Value.int .i64)) ∧ Below base0 w w'
theorem del_step (v:Value) (n:Nat) (d:List Co) (now:Int) (gN gg base0 base:Nat) (w:World) (hd:d.length = n) (hn:n ≤ 1000000) (hown:w.ownsRow base 34 6 v n (flatCo d)) (hN:Blok w gN 3 #[.int .i64 now]) (hG:Blok w gg 39 #[.slice none 0 0]) (hNg:gN < gg) (hb0:base0 ≤ gN) (hgb:gg < base) (hbs:base ≤ w.heap.size) :
  Calls Tryz.prog 185 #[v,.func (.func 186) #[] #[.pointer (some ⟨gN,0,none⟩),.pointer (some ⟨gg,0,none⟩)]] w (DelPost base0 gg now d w):=by
 by_cases h0:n = 0
 ·subst h0
  have hd0:d = []:=List.eq_nil_of_length_eq_zero hd
  subst hd0
  obtain ⟨A,c,rfl⟩:=slice_of_own hown
  refine (delete0 A c _ _ w (enter_run Tryz.func186 rfl rfl)).mono ?_
  rintro e w' ⟨rfl,rfl⟩
  exact ⟨_,_,rfl,own_down hown (by omega),hG,World.ownsRow_nil _ _ _ _,Below.refl _ _⟩
 ·obtain ⟨g0,c0,rfl,hnc,hcm,hgb2,hgl⟩:=own_at hown (by omega)
  have hP:=pred_expire now gN gg g0 base0 d (by omega) (by omega) (by omega) (by omega) (by omega) (by omega)
  refine (deleteS g0 n c0 d _ _ base0 _ _ w hd hn (own_down hown (by omega)) (by omega) hP ⟨hN,_,hG,by exact World.ownsRow_nil _ _ _ _,by simp [Value.ownBlock]⟩ (by omega)).mono ?_
  rintro e w' ⟨v',rfl,hv,⟨_,u,hG',hu,_⟩,hb⟩
  rw [← hd,List.take_length] at hu
  exact ⟨v',u,rfl,hv,hG',hu,hb⟩
def ExpPost (d:List Co) (now:Int) (w:World) (e:Ending) (w':World):Prop:=
 ∃ v u,e = .returned (.tuple #[v,u]) ∧ w'.ownsRow w.heap.size 34 6 v (leftC d now).length (flatCo (leftC d now)) ∧ w'.ownsRow w.heap.size 3 1 u (goneL d now).length ((sortI (goneL d now)).map (Value.int .i64)) ∧ Below w.heap.size w w'
set_option maxHeartbeats 2000000 in
set_option maxRecDepth 100000 in
theorem expire_any (A:Option Addr) (n c:Nat) (d:List Co) (now:Int) (w:World) (hd:d.length = n) (hn:n ≤ 1000000) (h:Sl w w.heap.size 6 A n c (flatCo d)) :
  Calls Tryz.prog 123 #[.slice A n c,.int .i64 now] w (ExpPost d now w):=by
 have hB1:Below w.heap.size w (w.alloc (.cells #[.int .i64 now] 3)):=by (repeat (first | exact Below.refl _ _ | refine Below.alloc ?_ (by first | omega | (simp; done) | (simp; omega)) _ | refine Below.setCell ?_ (by first | omega | (simp; done) | (simp; omega)) _ | refine Below.drew ?_))
 have hN1:=Blok.new w 3 #[.int .i64 now]
 have hG2:=Blok.new (w.alloc (.cells #[.int .i64 now] 3)) 39 #[.slice none 0 0]
 have hN2:=hN1.alloc (.cells #[.slice none 0 0] 39)
 have hB2:=hB1.alloc hB1.size (.cells #[.slice none 0 0] 39)
 have hs2:=h.up hB2
 have hlen:(goneL d now).length ≤ n:=by
  have:=goneL_len d now d.length
  rw [List.take_length] at this
  omega
 simp only [World.size_alloc] at hG2
 have HD:=Lib.hid hd
 clear hd h hB1 hN1
 go_enter Tryz.func123,Tryz.ntmps123
 go_wp2_with fail
 generalize (w.alloc (.cells #[.int .i64 now] 3)).alloc (.cells #[.slice none 0 0] 39) = w2 at *
 have hgl:=hG2.lt
 refine (cloneCo A n c d w2 HD.out hn hs2).mono ?_
 rintro e w3 ⟨v,rfl,hown,hb3⟩
 have hN3:=hN2.below hb3 hN2.lt
 have hG3:=hG2.below hb3 hG2.lt
 have hB3:=hB2.trans (hb3.mono hB2.size)
 have hsz3:=hb3.size
 clear hN2 hG2 hB2 hs2 hb3
 go_wp2_with fail
 refine (del_step v n d now w.heap.size (w.heap.size + 1) w.heap.size w2.heap.size w3 HD.out hn hown hN3 hG3 (by omega) (Nat.le_refl _) hgl hsz3).mono ?_
 rintro e w4 ⟨v4,u,rfl,hv4,hG4,hu4,hb4⟩
 have hB4:=hB3.trans hb4
 have hne:=own_ne hv4 hu4 (by decide)
 have hgu:u.ownBlock ≠ some (w.heap.size + 1):=fun e => by have:=(hu4.lt _ e).1; omega
 have c4:w4.cell? ⟨w.heap.size + 1,0,none⟩ = some u:=hG4.cell 0
 have hsz4:=hB4.size
 have hglt:=hG4.lt
 clear hN3 hG3 hown hb4 hB3
 obtain ⟨Au,cu,rfl⟩:=slice_of_own hu4
 obtain ⟨Av,cv,rfl⟩:=slice_of_own hv4
 obtain ⟨l,hl⟩:∃ l,goneL d now = l:=⟨_,rfl⟩
 obtain ⟨le,hle⟩:∃ le,leftC d now = le:=⟨_,rfl⟩
 have hP:ExpPost d now w = fun e w' => ∃ v u,e = .returned (.tuple #[v,u]) ∧ w'.ownsRow w.heap.size 34 6 v le.length (flatCo le) ∧ w'.ownsRow w.heap.size 3 1 u l.length ((sortI l).map (Value.int .i64)) ∧ Below w.heap.size w w':=by
  funext e w'
  unfold ExpPost
  rw [hl,hle]
 have HP:=Lib.hid hP
 rw [hl] at hu4 hne hgu hlen c4 hG4
 rw [hle] at hv4 hne
 rw [hle]
 clear hl hle hP
 obtain ⟨ln,hln⟩:∃ ln,l.length = ln:=⟨_,rfl⟩
 rw [hln] at hu4 hne hgu hlen c4 hG4
 have HLN:=Lib.hid hln
 obtain ⟨lm,hlm⟩:∃ lm,le.length = lm:=⟨_,rfl⟩
 rw [hlm] at hv4 hne ⊢
 have HLM:=Lib.hid hlm
 clear hln hlm
 go_wp2_with fail
 refine (sortI_any (.slice Au ln cu) l _ w4 (by have:=HLN.out; omega) (by have:=HLN.out; rw [this]; exact hu4)).mono ?_
 rintro e w5 ⟨rfl,hu5,hg5⟩
 rw [HLN.out] at hu5
 have hv5:=hv4.kept hg5 hne
 have hG5:=hG4.grown hg5 (fun e => hgu e.symm)
 have hB5:Below w.heap.size w w5:=hB4.grown hg5 hsz4 (fun k hk => by have:=(hu4.lt k hk).1; omega)
 have c5:w5.cell? ⟨w.heap.size + 1,0,none⟩ = some (.slice Au ln cu):=hG5.cell 0
 clear hu4 hv4 hG4 hG5 hB4 c4 hg5 hne hgu
 have hs5:=hB5.size
 go_wp2_with fail
 have q_c5:=fun d os => cell_regrown c5 d os
 try simp only [List.append]
 first | refine wp_region_text_below ?_ | refine wp_region_quiet_below (by kernel_rfl) (by kernel_rfl) ?_
 repeat (go_big_quiet_step ((fail)))
 refine wpQuiet_nil ?_
 intro _ hqw
 obtain ⟨pq,hqw⟩:=hqw
 subst hqw
 clear q_c5
 have hbel:=below_regrown w5 pq.d pq.os
 have hu6:=hu5.kept (grown_of_below (row:=some w5.heap.size) hbel) (.inr (fun e => by have:=(hu5.lt _ e).2; omega))
 have hv6:=hv5.kept (grown_of_below (row:=some w5.heap.size) hbel) (.inr (fun e => by have:=(hv5.lt _ e).2; omega))
 have hB6:=hB5.trans (hbel.mono hs5)
 clear hbel hu5 hv5 hB5 c5
 generalize grow (redrawn w5 pq.d) pq.os = wq at *
 go_wp2
 go_ret2
 rw [HP.out]
 refine ⟨_,_,rfl,?_,?_,hB6⟩
 ·rw [HLM.out]; exact hv6
 ·rw [HLN.out]; exact own_down hu6 (by omega)
end Go.Proofs.YtjldgcebadojiaaGreatDoor.Kc
namespace Go.Proofs.YtjldgcebadojiaaGreatDoor
open Go.ChangeShapes Go.WideShapes Go.ChangeAt Go.RowKit Go.Sort
set_option linter.unusedSimpArgs false
set_option linter.unusedVariables false
theorem intAt {l:List Int} {k:Nat} (h:k < l.length):(l.map (Value.int .i64))[k]? = some (.int .i64 (l.getD k 0)):=by
 rw [List.getElem?_map,List.getElem?_eq_getElem h,List.getD_eq_getElem?_getD,List.getElem?_eq_getElem h]; rfl
theorem Lst.atI {w:World} {B:Nat} {A:Option Addr} {n:Nat} {l:List Int} (h:Lst w B 1 A n (l.map (Value.int .i64))) (hl:l.length = n) {k:Nat} (hk:k < n):∃ ad,A = some ad ∧ ad.block < B ∧ w.cell? (ad.add k) = some (.int .i64 (l.getD k 0)):=by
 obtain ⟨ad,e,hb,hc⟩:=h.at_ (by omega)
 exact ⟨ad,e,hb,hc _ _ (intAt (by omega))⟩
end Go.Proofs.YtjldgcebadojiaaGreatDoor
namespace Go.Proofs.YtjldgcebadojiaaGreatDoor.Kc
open Go.ChangeShapes Go.WideShapes Go.ChangeAt Go.RowKit Go.Sort
set_option linter.unusedSimpArgs false
set_option linter.unusedVariables false
theorem own_below {w w':World} {base:Nat} {e:TypeId} {size n:Nat} {v:Value} {xs:List Value} (h:w.ownsRow base e size v n xs) (hb:Below w.heap.size w w'):w'.ownsRow base e size v n xs:=
 h.kept (grown_of_below (row:=some w.heap.size) hb) (.inr (fun e => by have:=(h.lt _ e).2; omega))
theorem mem_gCo {d:List Co} {y:Co} (h:y ∈ d):∃ j,j < d.length ∧ gCo d j = y:=by
 obtain ⟨j,hj,e⟩:=List.mem_iff_getElem.1 h
 exact ⟨j,hj,by rw [gCo_eq hj,e]⟩
theorem ltC_trans {a b c:Co} (h1:ltC a b) (h2:ltC b c):ltC a c:=by unfold ltC at *; omega
theorem cmpC_lt {a b:Co}:cmpC a b < 0 ↔ ltC a b:=by
 rcases cmpC_spec a b with ⟨h,e⟩ | ⟨h1,h2,h3,h4,e⟩ | ⟨h,e⟩
 ·rw [e]; exact ⟨fun _ => h,fun _ => by omega⟩
 ·rw [e]; unfold ltC; omega
 ·rw [e]; unfold ltC at *; omega
theorem right_step {d:List Co} (h:rightC d = true) {i:Nat} (hi:i < d.length):okC (gCo d i) = true ∧ idIn (d.take i) (gCo d i).id = false ∧ (i ≠ 0 → ltC (gCo d (i - 1)) (gCo d i) ∧ overC (gCo d (i - 1)) (gCo d i) = false):=by
 have:=(rightC_true.1 h).2 i hi
 unfold stepC at this
 simp only [Bool.and_eq_true,Bool.or_eq_true,Bool.not_eq_true',beq_iff_eq,decide_eq_true_eq] at this
 refine ⟨this.1.1,this.1.2,fun h0 => ?_⟩
 rcases this.2 with h1 | ⟨h1,h2⟩
 ·exact absurd h1 h0
 ·exact ⟨cmpC_lt.1 h1,h2⟩
theorem right_ok {d:List Co} (h:rightC d = true):∀ x ∈ d,okC x = true:=fun x hx => by
 obtain ⟨j,hj,rfl⟩:=mem_gCo hx
 exact (right_step h hj).1
theorem right_lt {d:List Co} (h:rightC d = true):∀ (j i:Nat),i < j → j < d.length → ltC (gCo d i) (gCo d j)
 | 0,i,h1,_ => by omega
 | j + 1,i,h1,h2 => by
  have hs:=((right_step h h2).2.2 (by omega)).1
  rw [Nat.add_sub_cancel] at hs
  by_cases e:i = j
  ·rw [e]; exact hs
  ·exact ltC_trans (right_lt h j i (by omega) (by omega)) hs
theorem right_ids {d:List Co} (h:rightC d = true) {i j:Nat} (hij:i < j) (hj:j < d.length):(gCo d i).id ≠ (gCo d j).id:=by
 have h1:=(right_step h hj).2.1
 unfold idIn at h1
 rw [List.any_eq_false] at h1
 intro e
 exact h1 (gCo d i) (by rw [gCo_eq (by omega:i < d.length)]; exact List.mem_take_iff_getElem.2 ⟨i,by omega,rfl⟩) (by simp [e])
def insC (d:List Co) (i:Nat) (r:Co):List Co:=d.take i ++ [r] ++ d.drop i
theorem insC_length {d:List Co} {i:Nat} (r:Co) (hi:i ≤ d.length):(insC d i r).length = d.length + 1:=by
 unfold insC
 simp only [List.length_append,List.length_take,List.length_drop,List.length_cons,List.length_nil]
 omega
theorem may_ok {d:List Co} {r:Co} (hm:mayC d r = 0):okC r = true ∧ d.length < 4096 ∧ (∀ y ∈ d,(y.id == r.id) = false) ∧ ∀ y ∈ d,overC y r = false:=by
 unfold mayC at hm
 split at hm
 ·cases hm
 ·split at hm
  ·cases hm
  ·split at hm
   ·cases hm
   ·split at hm
    ·cases hm
    ·rename_i h1 h2 h3 h4
     refine ⟨by simpa using h1,by omega,fun y hy => ?_,fun y hy => ?_⟩
     ·cases e:(y.id == r.id)
      ·rfl
      ·exact absurd (List.any_eq_true.2 ⟨y,hy,e⟩) h3
     ·cases e:overC y r
      ·rfl
      ·exact absurd (List.any_eq_true.2 ⟨y,hy,e⟩) h4
end Go.Proofs.YtjldgcebadojiaaGreatDoor.Kc
