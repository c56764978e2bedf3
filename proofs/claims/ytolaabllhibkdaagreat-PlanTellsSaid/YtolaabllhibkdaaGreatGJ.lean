/- Several texts of mine in one: SortI, Contacts6, Small06, ContactsMath. No condition. -/
import Derived.Test.YtolaabllhibkdaaGreatShelf
import Derived.Test.YtolaabllhibkdaaGreatGA
import Derived.Sort.OwnSortedInts
import Derived.Test.YtolaabllhibkdaaGreatContacts5
import Derived.Test.YtolaabllhibkdaaGreatInts

/- slices.Sort at ints, a row of the call's own. No condition. -/
namespace Go.Proofs.YtolaabllhibkdaaGreat
open Go.ChangeShapes Go.WideShapes Go.ChangeAt Go.RowKit Go.Sort
set_option linter.unusedSimpArgs false
set_option linter.unusedVariables false
def sortI (l:List Int):List Int:=l.mergeSort fun x y => decide (x ≤ y)
theorem sortI_length (l:List Int):(sortI l).length = l.length:=by unfold sortI; exact List.length_mergeSort _
theorem sortI_any (u:Value) (l:List Int) (base:Nat) (w:World) (hl:l.length ≤ 1000000) (hown:w.ownsRow base 3 1 u l.length (l.map (Value.int .i64))) :
  Calls Tryz.prog 90 #[u] w fun e w' => e = .returned (.tuple #[]) ∧ w'.ownsRow base 3 1 u l.length ((sortI l).map (Value.int .i64)) ∧ w.grownBy w' u.ownBlock:=by
 rcases hown.2 with ⟨rfl,h0⟩ | ⟨g,cap,cur,rfl,hbase,hb,h1,h2,h3,h4⟩
 ·have hl0:l = []:=by simpa using h0
  subst hl0
  refine (Tryz.slices_Sort_int_none none 0 w).mono ?_
  rintro e w' ⟨rfl,rfl⟩
  exact ⟨rfl,by rw [show sortI [] = [] from by simp [sortI]]; exact hown,grown_refl _ _⟩
 ·have hH:=holds_of_blockI hb (by simpa using h4)
  have hgl:g < w.heap.size:=(Array.getElem?_eq_some_iff.1 hb).1
  refine (Tryz.slices_Sort_int g 0 cap l w hH hgl (by omega)).mono ?_
  rintro e w' ⟨rfl,nn,os,rfl⟩
  exact ⟨rfl,ownsRow_sortedI (sortI_length l) hbase hb h1 h2 h3,grownBy_sortedI _⟩
theorem own_ne {w:World} {b b':Nat} {e e':TypeId} {s s' n n':Nat} {v v':Value} {xs xs':List Value} (h:w.ownsRow b e s v n xs) (h':w.ownsRow b' e' s' v' n' xs') (hne:e ≠ e'):v.ownBlock = none ∨ v.ownBlock ≠ v'.ownBlock:=by
 rcases h.2 with ⟨rfl,_⟩ | ⟨g,cap,cur,rfl,_,hg,_⟩
 ·exact .inl rfl
 ·rcases h'.2 with ⟨rfl,_⟩ | ⟨g',cap',cur',rfl,_,hg',_⟩
  ·exact .inr (by simp [Value.ownBlock])
  ·refine .inr (fun e2 => hne ?_)
   simp only [Value.ownBlock,Option.some.injEq] at e2
   rw [e2,hg'] at hg
   injection hg with hg
   injection hg with _ hg
   exact hg.symm
end Go.Proofs.YtolaabllhibkdaaGreat

/- Package contacts: Expire. No condition. -/
namespace Go.Proofs.YtolaabllhibkdaaGreat.Kc
open Go.ChangeShapes Go.WideShapes Go.ChangeAt Go.RowKit Go.Sort
set_option linter.unusedSimpArgs false
set_option linter.unusedVariables false
def leftC (d:List Co) (now:Int):List Co:=d.filter (fun x => !overE now x)
/-- What Expire's inner call leaves. -/
def DelPost (base0 gg:Nat) (now:Int) (d:List Co) (w:World) (e:Ending) (w':World):Prop:=
 ∃ v u,e = .returned v ∧ w'.ownsRow base0 33 6 v (leftC d now).length (flatCo (leftC d now)) ∧ Blok w' gg 47 #[u] ∧ w'.ownsRow (gg + 1) 3 1 u (goneL d now).length ((goneL d now).map (Value.int .i64)) ∧ Below base0 w w'
theorem del_step (v:Value) (n:Nat) (d:List Co) (now:Int) (gN gg base0 base:Nat) (w:World) (hd:d.length = n) (hn:n ≤ 1000000) (hown:w.ownsRow base 33 6 v n (flatCo d)) (hN:Blok w gN 3 #[.int .i64 now]) (hG:Blok w gg 47 #[.slice none 0 0]) (hNg:gN < gg) (hb0:base0 ≤ gN) (hgb:gg < base) (hbs:base ≤ w.heap.size) :
  Calls Tryz.prog 88 #[v,.func (.func 89) #[] #[.pointer (some ⟨gN,0,none⟩),.pointer (some ⟨gg,0,none⟩)]] w (DelPost base0 gg now d w):=by
 by_cases h0:n = 0
 ·subst h0
  have hd0:d = []:=List.eq_nil_of_length_eq_zero hd
  subst hd0
  obtain ⟨A,c,rfl⟩:=slice_of_own hown
  refine (delete0 A c _ _ w (enter_run Tryz.func89 rfl rfl)).mono ?_
  rintro e w' ⟨rfl,rfl⟩
  exact ⟨_,_,rfl,own_down hown (by omega),hG,World.ownsRow_nil _ _ _ _,Below.refl _ _⟩
 ·obtain ⟨g0,c0,rfl,hnc,hcm,hgb2,hgl⟩:=own_at hown (by omega)
  have hP:=pred_expire now gN gg g0 base0 d (by omega) (by omega) (by omega) (by omega) (by omega) (by omega)
  refine (deleteS g0 n c0 d _ _ base0 _ _ w hd hn (own_down hown (by omega)) (by omega) hP ⟨hN,_,hG,by exact World.ownsRow_nil _ _ _ _,by simp [Value.ownBlock]⟩ (by omega)).mono ?_
  rintro e w' ⟨v',rfl,hv,⟨_,u,hG',hu,_⟩,hb⟩
  rw [← hd,List.take_length] at hu
  exact ⟨v',u,rfl,hv,hG',hu,hb⟩
def ExpPost (d:List Co) (now:Int) (w:World) (e:Ending) (w':World):Prop:=
 ∃ v u,e = .returned (.tuple #[v,u]) ∧ w'.ownsRow w.heap.size 33 6 v (leftC d now).length (flatCo (leftC d now)) ∧ w'.ownsRow w.heap.size 3 1 u (goneL d now).length ((sortI (goneL d now)).map (Value.int .i64)) ∧ Below w.heap.size w w'
set_option maxHeartbeats 2000000 in
set_option maxRecDepth 100000 in
theorem expire_any (A:Option Addr) (n c:Nat) (d:List Co) (now:Int) (w:World) (hd:d.length = n) (hn:n ≤ 1000000) (h:Sl w w.heap.size 6 A n c (flatCo d)) :
  Calls Tryz.prog 56 #[.slice A n c,.int .i64 now] w (ExpPost d now w):=by
 have hB1:Below w.heap.size w (w.alloc (.cells #[.int .i64 now] 3)):=by (repeat (first | exact Below.refl _ _ | refine Below.alloc ?_ (by first | omega | (simp; done) | (simp; omega)) _ | refine Below.setCell ?_ (by first | omega | (simp; done) | (simp; omega)) _ | refine Below.drew ?_))
 have hN1:=Blok.new w 3 #[.int .i64 now]
 have hG2:=Blok.new (w.alloc (.cells #[.int .i64 now] 3)) 47 #[.slice none 0 0]
 have hN2:=hN1.alloc (.cells #[.slice none 0 0] 47)
 have hB2:=hB1.alloc hB1.size (.cells #[.slice none 0 0] 47)
 have hs2:=h.up hB2
 have hlen:(goneL d now).length ≤ n:=by
  have:=goneL_len d now d.length
  rw [List.take_length] at this
  omega
 simp only [World.size_alloc] at hG2
 have HD:=Lib.hid hd
 clear hd h hB1 hN1
 go_enter Tryz.func56,Tryz.ntmps56
 go_wp2_with fail
 generalize (w.alloc (.cells #[.int .i64 now] 3)).alloc (.cells #[.slice none 0 0] 47) = w2 at *
 have hgl:=hG2.lt
 refine (cloneCo A n c d w2 HD.out hn hs2).mono ?_
 rintro e w3 ⟨v,rfl,hown,hb3⟩
 have hN3:=hN2.below hb3 hN2.lt
 have hG3:=hG2.below hb3 hG2.lt
 have hB3:=hB2.trans (hb3.mono hB2.size)
 have hsz3:=hb3.size
 clear hN2 hG2 hB2 hs2 hb3
 go_wp2_with fail
 refine (del_step v n d now w.heap.size (w.heap.size + 1) w.heap.size w2.heap.size w3 HD.out hn hown hN3 hG3 (by omega) (Nat.le_refl _) hgl hsz3).mono ?_
 rintro e w4 ⟨v4,u,rfl,hv4,hG4,hu4,hb4⟩
 have hB4:=hB3.trans hb4
 have hne:=own_ne hv4 hu4 (by decide)
 have hgu:u.ownBlock ≠ some (w.heap.size + 1):=fun e => by have:=(hu4.lt _ e).1; omega
 have c4:w4.cell? ⟨w.heap.size + 1,0,none⟩ = some u:=hG4.cell 0
 have hsz4:=hB4.size
 have hglt:=hG4.lt
 clear hN3 hG3 hown hb4 hB3
 obtain ⟨Au,cu,rfl⟩:=slice_of_own hu4
 obtain ⟨Av,cv,rfl⟩:=slice_of_own hv4
 obtain ⟨l,hl⟩:∃ l,goneL d now = l:=⟨_,rfl⟩
 obtain ⟨le,hle⟩:∃ le,leftC d now = le:=⟨_,rfl⟩
 have hP:ExpPost d now w = fun e w' => ∃ v u,e = .returned (.tuple #[v,u]) ∧ w'.ownsRow w.heap.size 33 6 v le.length (flatCo le) ∧ w'.ownsRow w.heap.size 3 1 u l.length ((sortI l).map (Value.int .i64)) ∧ Below w.heap.size w w':=by
  funext e w'
  unfold ExpPost
  rw [hl,hle]
 have HP:=Lib.hid hP
 rw [hl] at hu4 hne hgu hlen c4 hG4
 rw [hle] at hv4 hne
 rw [hle]
 clear hl hle hP
 obtain ⟨ln,hln⟩:∃ ln,l.length = ln:=⟨_,rfl⟩
 rw [hln] at hu4 hne hgu hlen c4 hG4
 have HLN:=Lib.hid hln
 obtain ⟨lm,hlm⟩:∃ lm,le.length = lm:=⟨_,rfl⟩
 rw [hlm] at hv4 hne ⊢
 have HLM:=Lib.hid hlm
 clear hln hlm
 go_wp2_with fail
 refine (sortI_any (.slice Au ln cu) l _ w4 (by have:=HLN.out; omega) (by have:=HLN.out; rw [this]; exact hu4)).mono ?_
 rintro e w5 ⟨rfl,hu5,hg5⟩
 rw [HLN.out] at hu5
 have hv5:=hv4.kept hg5 hne
 have hG5:=hG4.grown hg5 (fun e => hgu e.symm)
 have hB5:Below w.heap.size w w5:=hB4.grown hg5 hsz4 (fun k hk => by have:=(hu4.lt k hk).1; omega)
 have c5:w5.cell? ⟨w.heap.size + 1,0,none⟩ = some (.slice Au ln cu):=hG5.cell 0
 clear hu4 hv4 hG4 hG5 hB4 c4 hg5 hne hgu
 have hs5:=hB5.size
 go_wp2_with fail
 have q_c5:=fun d os => cell_regrown c5 d os
 try simp only [List.append]
 first | refine wp_region_text_below ?_ | refine wp_region_quiet_below (by kernel_rfl) (by kernel_rfl) ?_
 repeat (go_big_quiet_step ((fail)))
 refine wpQuiet_nil ?_
 intro _ hqw
 obtain ⟨pq,hqw⟩:=hqw
 subst hqw
 clear q_c5
 have hbel:=below_regrown w5 pq.d pq.os
 have hu6:=hu5.kept (grown_of_below (row:=some w5.heap.size) hbel) (.inr (fun e => by have:=(hu5.lt _ e).2; omega))
 have hv6:=hv5.kept (grown_of_below (row:=some w5.heap.size) hbel) (.inr (fun e => by have:=(hv5.lt _ e).2; omega))
 have hB6:=hB5.trans (hbel.mono hs5)
 clear hbel hu5 hv5 hB5 c5
 generalize grow (redrawn w5 pq.d) pq.os = wq at *
 go_wp2
 go_ret2
 rw [HP.out]
 refine ⟨_,_,rfl,?_,?_,hB6⟩
 ·rw [HLM.out]; exact hv6
 ·rw [HLN.out]; exact own_down hu6 (by omega)
end Go.Proofs.YtolaabllhibkdaaGreat.Kc

/- Layer 6's small case comes out right. No condition. -/
namespace Go.Proofs.YtolaabllhibkdaaGreat.Kc
open Go.ChangeShapes Go.WideShapes Go.ChangeAt Go.RowKit Go.Sort
set_option linter.unusedSimpArgs false
set_option linter.unusedVariables false
theorem own_below {w w':World} {base:Nat} {e:TypeId} {size n:Nat} {v:Value} {xs:List Value} (h:w.ownsRow base e size v n xs) (hb:Below w.heap.size w w'):w'.ownsRow base e size v n xs:=
 h.kept (grown_of_below (row:=some w.heap.size) hb) (.inr (fun e => by have:=(h.lt _ e).2; omega))
end Go.Proofs.YtolaabllhibkdaaGreat.Kc

/- Right tables of contacts: their order, who is found, one more, one less. No condition. -/
namespace Go.Proofs.YtolaabllhibkdaaGreat.Kc
open Go.ChangeShapes Go.WideShapes Go.ChangeAt Go.RowKit Go.Sort
set_option linter.unusedSimpArgs false
set_option linter.unusedVariables false
theorem mem_gCo {d:List Co} {y:Co} (h:y ∈ d):∃ j,j < d.length ∧ gCo d j = y:=by
 obtain ⟨j,hj,e⟩:=List.mem_iff_getElem.1 h
 exact ⟨j,hj,by rw [gCo_eq hj,e]⟩
theorem ltC_trans {a b c:Co} (h1:ltC a b) (h2:ltC b c):ltC a c:=by unfold ltC at *; omega
theorem cmpC_lt {a b:Co}:cmpC a b < 0 ↔ ltC a b:=by
 rcases cmpC_spec a b with ⟨h,e⟩ | ⟨h1,h2,h3,h4,e⟩ | ⟨h,e⟩
 ·rw [e]; exact ⟨fun _ => h,fun _ => by omega⟩
 ·rw [e]; unfold ltC; omega
 ·rw [e]; unfold ltC at *; omega
theorem right_step {d:List Co} (h:rightC d = true) {i:Nat} (hi:i < d.length):okC (gCo d i) = true ∧ idIn (d.take i) (gCo d i).id = false ∧ (i ≠ 0 → ltC (gCo d (i - 1)) (gCo d i) ∧ overC (gCo d (i - 1)) (gCo d i) = false):=by
 have:=(rightC_true.1 h).2 i hi
 unfold stepC at this
 simp only [Bool.and_eq_true,Bool.or_eq_true,Bool.not_eq_true',beq_iff_eq,decide_eq_true_eq] at this
 refine ⟨this.1.1,this.1.2,fun h0 => ?_⟩
 rcases this.2 with h1 | ⟨h1,h2⟩
 ·exact absurd h1 h0
 ·exact ⟨cmpC_lt.1 h1,h2⟩
theorem right_ok {d:List Co} (h:rightC d = true):∀ x ∈ d,okC x = true:=fun x hx => by
 obtain ⟨j,hj,rfl⟩:=mem_gCo hx
 exact (right_step h hj).1
theorem right_lt {d:List Co} (h:rightC d = true):∀ (j i:Nat),i < j → j < d.length → ltC (gCo d i) (gCo d j)
 | 0,i,h1,_ => by omega
 | j + 1,i,h1,h2 => by
  have hs:=((right_step h h2).2.2 (by omega)).1
  rw [Nat.add_sub_cancel] at hs
  by_cases e:i = j
  ·rw [e]; exact hs
  ·exact ltC_trans (right_lt h j i (by omega) (by omega)) hs
theorem right_ids {d:List Co} (h:rightC d = true) {i j:Nat} (hij:i < j) (hj:j < d.length):(gCo d i).id ≠ (gCo d j).id:=by
 have h1:=(right_step h hj).2.1
 unfold idIn at h1
 rw [List.any_eq_false] at h1
 intro e
 exact h1 (gCo d i) (by rw [gCo_eq (by omega:i < d.length)]; exact List.mem_take_iff_getElem.2 ⟨i,by omega,rfl⟩) (by simp [e])
def insC (d:List Co) (i:Nat) (r:Co):List Co:=d.take i ++ [r] ++ d.drop i
theorem insC_length {d:List Co} {i:Nat} (r:Co) (hi:i ≤ d.length):(insC d i r).length = d.length + 1:=by
 unfold insC
 simp only [List.length_append,List.length_take,List.length_drop,List.length_cons,List.length_nil]
 omega
theorem may_ok {d:List Co} {r:Co} (hm:mayC d r = 0):okC r = true ∧ d.length < 4096 ∧ (∀ y ∈ d,(y.id == r.id) = false) ∧ ∀ y ∈ d,overC y r = false:=by
 unfold mayC at hm
 split at hm
 ·cases hm
 ·split at hm
  ·cases hm
  ·split at hm
   ·cases hm
   ·split at hm
    ·cases hm
    ·rename_i h1 h2 h3 h4
     refine ⟨by simpa using h1,by omega,fun y hy => ?_,fun y hy => ?_⟩
     ·cases e:(y.id == r.id)
      ·rfl
      ·exact absurd (List.any_eq_true.2 ⟨y,hy,e⟩) h3
     ·cases e:overC y r
      ·rfl
      ·exact absurd (List.any_eq_true.2 ⟨y,hy,e⟩) h4
end Go.Proofs.YtolaabllhibkdaaGreat.Kc
