/- Several texts of mine in one: BestL, Small19, BestLaw. No condition. -/
import Derived.Test.YtkonkhblipbjcaaGreatGQ32
import Derived.Test.YtkonkhblipbjcaaGreatGQ29
import Derived.Test.YtkonkhblipbjcaaGreatGQ25
import Derived.Test.YtkonkhblipbjcaaGreatGQ11

/- The first routes' facts for the laws. Plain facts. -/
namespace Go.Proofs.YtkonkhblipbjcaaGreat
open Go.ChangeShapes Go.WideShapes Go.ChangeAt Go.RowKit Go.Sort Go.Maps Hp
set_option linter.unusedSimpArgs false
set_option linter.unusedVariables false
theorem cT_m1 {a b:Rtp} (h:cT a b < 0):cT a b = -1:=by
 rw [cT_key] at *
 have:=cmpL_range (keyT a) (keyT b)
 omega
theorem cT_arr {a b:Rtp} (h:cT a b ≤ 0):a.2 ≤ b.2:=by
 unfold cT cmpR at h
 by_cases e:cmpI a.2 b.2 = 0
 ·exact Int.le_of_eq (cmpI_zero.1 e)
 ·rw [if_neg e] at h
  unfold cmpI at h
  split at h
  ·omega
  ·split at h <;> omega
theorem take_while_srt {u:Int}:∀ {L:List Rtp},SrtT L → ∀ x,x ∈ L.takeWhile (fun p => decide (p.2 ≤ u)) ↔ x ∈ L ∧ x.2 ≤ u
 | [],_,x => by simp
 | y :: r,h,x => by
  obtain ⟨h1,h2⟩:=List.pairwise_cons.1 h
  rw [List.takeWhile_cons]
  by_cases hy:y.2 ≤ u
  ·rw [if_pos (decide_eq_true hy),List.mem_cons,take_while_srt h2 x,List.mem_cons]
   constructor
   ·rintro (rfl | ⟨h3,h4⟩)
    ·exact ⟨.inl rfl,hy⟩
    ·exact ⟨.inr h3,h4⟩
   ·rintro ⟨rfl | h3,h4⟩
    ·exact .inl rfl
    ·exact .inr ⟨h3,h4⟩
  ·rw [if_neg (by simpa using hy)]
   refine ⟨fun h => (by cases h),fun ⟨h3,h4⟩ => ?_⟩
   rcases List.mem_cons.1 h3 with rfl | h3
   ·omega
   ·have:=cT_arr (Int.le_of_lt (h1 x h3))
    omega
section
variable {l:List Ed} {f q now size by_:Int}
/-- The first one of all is the best one. -/
theorem allR_head:(allR l f q now size by_).head? = bestX l f q now size by_ []:=by
 cases ho:bestX l f q now size by_ [] with
 | none =>
  have hs:=spur_bare.trans ho
  cases hL:allR l f q now size by_ with
  | nil => rfl
  | cons x r =>
   have hx:x ∈ allR l f q now size by_:=by rw [hL]; exact List.mem_cons_self ..
   exact (spur_no hs (allR_ok hx) (goes_nil _)).elim
 | some p =>
  have hs:=spur_bare.trans ho
  obtain ⟨hb,_⟩:=spur_br hs
  have hpm:=allR_has hb.mem.1
  cases hL:allR l f q now size by_ with
  | nil => rw [hL] at hpm; cases hpm
  | cons x r =>
   have hx:x ∈ allR l f q now size by_:=by rw [hL]; exact List.mem_cons_self ..
   have hmin:=hb.min x ⟨allR_ok hx,by show goesB ((idsT p).take 0) [] _ = true; rw [List.take_zero]; exact goes_nil _⟩
   have hS:=allR_srt (l:=l) (f:=f) (q:=q) (now:=now) (size:=size) (by_:=by_)
   rw [hL] at hS hpm
   rcases List.mem_cons.1 hpm with rfl | hr
   ·rfl
   ·exfalso
    have h1:=(List.pairwise_cons.1 hS).1 p hr
    have h2:cT p x ≤ 0:=hmin
    have:=cT_anti x p
    omega
theorem take_rises {k i:Nat} (hi:i + 1 < ((allR l f q now size by_).take k).length):cT (((allR l f q now size by_).take k).getD i ([],0)) (((allR l f q now size by_).take k).getD (i + 1) ([],0)) = -1:=by
 rw [List.getD_eq_getElem?_getD,List.getD_eq_getElem?_getD,List.getElem?_eq_getElem hi,List.getElem?_eq_getElem (by omega)]
 refine cT_m1 ?_
 have hS:SrtT ((allR l f q now size by_).take k):=allR_srt.sublist (List.take_sublist _ _)
 exact srtT_ne hS (by omega) hi (by omega)
theorem take_ok {k i:Nat} (hi:i < ((allR l f q now size by_).take k).length):RtOk l f q now size by_ (((allR l f q now size by_).take k).getD i ([],0)):=by
 rw [List.getD_eq_getElem?_getD,List.getElem?_eq_getElem hi]
 exact allR_ok (List.mem_of_mem_take (List.getElem_mem hi))
/-- A route that is not among the first ones is behind them, and there are as many as are asked for. -/
theorem whole_behind {k:Nat} {p:Rtp} (hp:RtOk l f q now size by_ p) (hn:p ∉ (allR l f q now size by_).take k):((allR l f q now size by_).take k).length = k ∧ ∀ i,i < k → cT (((allR l f q now size by_).take k).getD i ([],0)) p = -1:=by
 obtain ⟨j,hj,he⟩:=List.getElem_of_mem (allR_has hp)
 have hjk:k ≤ j:=by
  rcases Nat.lt_or_ge j k with h | h
  ·exfalso
   refine hn (List.mem_iff_getElem.2 ⟨j,by rw [List.length_take]; omega,?_⟩)
   rw [List.getElem_take]; exact he
  ·exact h
 have hl:((allR l f q now size by_).take k).length = k:=by rw [List.length_take]; omega
 refine ⟨hl,fun i hi => ?_⟩
 rw [List.getD_eq_getElem?_getD,List.getElem?_eq_getElem (by omega)]
 refine cT_m1 ?_
 show cT (((allR l f q now size by_).take k)[i]'(by omega)) p < 0
 rw [List.getElem_take,← he]
 exact srtT_ne allR_srt _ _ (by omega)
/-- Who is to be there earlier has those that are there by then. -/
theorem allR_sooner {u:Int} (hu:u ≤ by_):allR l f q now size u = (allR l f q now size by_).takeWhile (fun p => decide (p.2 ≤ u)):=by
 refine srtT_ext allR_srt (allR_srt.sublist (List.takeWhile_sublist _)) fun x => ?_
 rw [take_while_srt allR_srt,allR_mem,allR_mem]
 exact ⟨fun h => ⟨⟨h.1,by have:=h.2; omega⟩,h.2⟩,fun h => ⟨h.1.1,h.2⟩⟩
theorem take_takeWhile {α:Type} (P:α → Bool):∀ (L:List α) (k:Nat),(L.takeWhile P).take k = (L.take k).takeWhile P
 | [],k => by simp
 | x :: r,0 => by simp
 | x :: r,k + 1 => by
  rw [List.take_succ_cons,List.takeWhile_cons,List.takeWhile_cons]
  cases P x with
  | true => simp only [if_true]; rw [List.take_succ_cons,take_takeWhile P r k]
  | false => simp
end
end Go.Proofs.YtkonkhblipbjcaaGreat

/- Layer 19's small case comes out right. No condition. -/
namespace Go.Proofs.YtkonkhblipbjcaaGreat
open Go.ChangeShapes Go.WideShapes Go.ChangeAt Go.RowKit Go.Sort Hp
set_option linter.unusedSimpArgs false
set_option linter.unusedVariables false
def net19:List Ed:=[⟨1,1,2,10,20,3,4,30⟩,⟨2,2,3,30,50,9,1,30⟩,⟨3,1,3,30,50,9,1,90⟩,⟨4,2,3,0,50,1,7,90⟩,⟨5,1,2,45,48,1,1,90⟩]
def ra19:List Rtp:=[([⟨1,10,14⟩,⟨4,14,21⟩],21),([⟨3,30,31⟩],31),([⟨1,10,14⟩,⟨2,30,31⟩],31),([⟨5,45,46⟩,⟨2,46,47⟩],47),([⟨5,45,46⟩,⟨4,46,53⟩],53)]
set_option maxHeartbeats 4000000 in
set_option maxRecDepth 100000 in
theorem net19_any (w:World) :
  Calls Tryz.prog 18 #[] w fun e w' => e = .returned (.slice (some ⟨w.heap.size,0,none⟩) 5 5) ∧ w' = w.alloc (.cells #[.int .i64 1,.int .i64 1,.int .i64 2,.int .i64 10,.int .i64 20,.int .i64 3,.int .i64 4,.int .i64 30,.int .i64 2,.int .i64 2,.int .i64 3,.int .i64 30,.int .i64 50,.int .i64 9,.int .i64 1,.int .i64 30,.int .i64 3,.int .i64 1,.int .i64 3,.int .i64 30,.int .i64 50,.int .i64 9,.int .i64 1,.int .i64 90,.int .i64 4,.int .i64 2,.int .i64 3,.int .i64 0,.int .i64 50,.int .i64 1,.int .i64 7,.int .i64 90,.int .i64 5,.int .i64 1,.int .i64 2,.int .i64 45,.int .i64 48,.int .i64 1,.int .i64 1,.int .i64 90] 82):=by
 go_enter Tryz.func18,Tryz.ntmps18
 go_wp2
 go_ret
 exact ⟨rfl,rfl⟩
theorem wf_lits {l:List Int} {n:Nat} (h:l.all (fun x => (Lit.int .i64 x).wf) = true) (hn:l.length = n):∀ k,k < n → (Lit.int .i64 (l.getD k 0)).wf = true:=wf_getD hn (fun m hm => List.all_eq_true.1 h m hm)
theorem ints_yes (A A':Option Addr) (n c n' c':Nat) (d d':List Int) (w:World) (hd:d.length = n) (hd':d'.length = n') (hn:n ≤ 1000000) (hn':n' ≤ 1000000) (h:Sl w w.heap.size 1 A n c (d.map (Value.int .i64))) (h':Sl w w.heap.size 1 A' n' c' (d'.map (Value.int .i64))) (e:d = d') :
  Calls Tryz.prog 19 #[.slice A n c,.slice A' n' c'] w fun e w' => e = .returned (.bool true) ∧ Below w.heap.size w w':=by
 have h1:=ints_any A A' n c n' c' d d' w hd hd' hn hn' h h'
 rw [decide_eq_true e] at h1
 exact h1
theorem a19:(allR net19 1 3 0 0 1000).take (9:Int).toNat = ra19:=by decide +kernel
theorem b19:(allR net19 1 3 0 0 1000).take (2:Int).toNat = ra19.take 2:=by decide +kernel
theorem c19:(allR net19 2 2 5 0 1000).take (9:Int).toNat = [([],5)]:=by decide +kernel
theorem d19:(allR net19 1 3 0 0 1000).take (0:Int).toNat = []:=by decide +kernel
theorem e19:(allR net19 3 1 0 0 1000).take (9:Int).toNat = []:=by decide +kernel
set_option maxHeartbeats 8000000 in
set_option maxRecDepth 100000 in
theorem small19_any (w:World):Calls Tryz.prog 8 #[] w fun e w' => e = .returned (.bool true) ∧ Below w.heap.size w w':=by
 have hB:Below w.heap.size w (w.alloc (.cells #[.int .i64 1,.int .i64 1,.int .i64 2,.int .i64 10,.int .i64 20,.int .i64 3,.int .i64 4,.int .i64 30,.int .i64 2,.int .i64 2,.int .i64 3,.int .i64 30,.int .i64 50,.int .i64 9,.int .i64 1,.int .i64 30,.int .i64 3,.int .i64 1,.int .i64 3,.int .i64 30,.int .i64 50,.int .i64 9,.int .i64 1,.int .i64 90,.int .i64 4,.int .i64 2,.int .i64 3,.int .i64 0,.int .i64 50,.int .i64 1,.int .i64 7,.int .i64 90,.int .i64 5,.int .i64 1,.int .i64 2,.int .i64 45,.int .i64 48,.int .i64 1,.int .i64 1,.int .i64 90] 82)):=(Below.refl _ _).alloc (Nat.le_refl _) _
 have hN:=Sl.of_own (own_lit w w.heap.size 82 8 5 #[.int .i64 1,.int .i64 1,.int .i64 2,.int .i64 10,.int .i64 20,.int .i64 3,.int .i64 4,.int .i64 30,.int .i64 2,.int .i64 2,.int .i64 3,.int .i64 30,.int .i64 50,.int .i64 9,.int .i64 1,.int .i64 30,.int .i64 3,.int .i64 1,.int .i64 3,.int .i64 30,.int .i64 50,.int .i64 9,.int .i64 1,.int .i64 90,.int .i64 4,.int .i64 2,.int .i64 3,.int .i64 0,.int .i64 50,.int .i64 1,.int .i64 7,.int .i64 90,.int .i64 5,.int .i64 1,.int .i64 2,.int .i64 45,.int .i64 48,.int .i64 1,.int .i64 1,.int .i64 90] (Nat.le_refl _) rfl (by simp [maxLen]))
 change Sl _ _ 8 _ 5 5 (flatEd net19) at hN
 go_enter Tryz.func8,Tryz.ntmps8
 go_wp2_with fail
 refine (net19_any w).mono ?_
 rintro e w0 ⟨rfl,rfl⟩
 generalize w.alloc (.cells #[.int .i64 1,.int .i64 1,.int .i64 2,.int .i64 10,.int .i64 20,.int .i64 3,.int .i64 4,.int .i64 30,.int .i64 2,.int .i64 2,.int .i64 3,.int .i64 30,.int .i64 50,.int .i64 9,.int .i64 1,.int .i64 30,.int .i64 3,.int .i64 1,.int .i64 3,.int .i64 30,.int .i64 50,.int .i64 9,.int .i64 1,.int .i64 90,.int .i64 4,.int .i64 2,.int .i64 3,.int .i64 0,.int .i64 50,.int .i64 1,.int .i64 7,.int .i64 90,.int .i64 5,.int .i64 1,.int .i64 2,.int .i64 45,.int .i64 48,.int .i64 1,.int .i64 1,.int .i64 90] 82) = w0 at *
 go_wp2_with fail
 refine (broutes_v (some ⟨w.heap.size,0,none⟩) 5 5 net19 1 3 0 0 1000 9 w0 rfl (by omega) (by omega) hN ra19 a19 5 rfl).mono ?_
 rintro e wk1 ⟨Aa,ca,rfl,ra,hb⟩
 replace hN:=hN.up hb
 replace hB:=hB.trans (hb.mono hB.size)
 clear hb
 obtain ⟨ga,hga,_,hgl,hca⟩:=ra.addr (by omega)
 subst hga
 clear hgl
 go_wp2_with fail
 refine (broutes_v (some ⟨w.heap.size,0,none⟩) 5 5 net19 1 3 0 0 1000 2 wk1 rfl (by omega) (by omega) hN (ra19.take 2) b19 2 rfl).mono ?_
 rintro e wk2 ⟨Ab,cb,rfl,rb,hb⟩
 replace ra:=ra.below hb
 replace hN:=hN.up hb
 replace hB:=hB.trans (hb.mono hB.size)
 clear hb
 go_wp2_with fail
 refine (broutes_v (some ⟨w.heap.size,0,none⟩) 5 5 net19 2 2 5 0 1000 9 wk2 rfl (by omega) (by omega) hN [([],5)] c19 1 rfl).mono ?_
 rintro e wk3 ⟨Ac,cc,rfl,rc,hb⟩
 replace ra:=ra.below hb
 replace rb:=rb.below hb
 replace hN:=hN.up hb
 replace hB:=hB.trans (hb.mono hB.size)
 clear hb
 obtain ⟨A1,n1,c1,x0,x1,hl,hm,s1⟩:=ra.cells (k:=0) (by omega)
 obtain rfl:2 = n1:=hl
 clear hm
 try clear hl
 replace x0:wk3.cell? ⟨ga,0,none⟩ = some (.slice A1 2 c1):=x0
 replace x1:wk3.cell? ⟨ga,1,none⟩ = some (.int .i64 21):=x1
 replace s1:Sl wk3 wk3.heap.size 3 A1 2 c1 (flatHp [⟨1,10,14⟩,⟨4,14,21⟩]):=s1
 go_wp2_with fail
 try clear x0 x1
 refine (pids_v A1 2 c1 [⟨1,10,14⟩,⟨4,14,21⟩] 21 wk3 rfl (by omega) s1 [1,4] rfl).mono ?_
 rintro e wk4 ⟨Ai,ci,rfl,hil,si,hb⟩
 clear hil
 replace ra:=ra.below hb
 replace rb:=rb.below hb
 replace rc:=rc.below hb
 replace hN:=hN.up hb
 replace s1:=s1.up hb
 replace hB:=hB.trans (hb.mono hB.size)
 clear hb
 clear s1
 go_wp2_with fail
 have hb:Below wk4.heap.size wk4 (wk4.alloc (.cells #[.int .i64 1,.int .i64 4] 3)):=(Below.refl _ _).alloc (Nat.le_refl _) _
 have hP:=Sl.of_own (own_lit wk4 wk4.heap.size 3 1 2 #[.int .i64 1,.int .i64 4] (Nat.le_refl _) rfl (by simp [maxLen]))
 change Sl _ _ 1 _ 2 2 (([1,4]:List Int).map (Value.int .i64)) at hP
 obtain ⟨bhP,hbhP⟩:∃ q,wk4.heap.size = q:=⟨_,rfl⟩
 have hshP:(wk4.alloc (.cells #[.int .i64 1,.int .i64 4] 3)).heap.size = bhP + 1:=by rw [← hbhP]; simp
 replace ra:=ra.below hb
 replace rb:=rb.below hb
 replace rc:=rc.below hb
 replace hN:=hN.up hb
 replace si:=si.up hb
 replace hB:=hB.trans (hb.mono hB.size)
 clear hb
 generalize wk4.alloc (.cells #[.int .i64 1,.int .i64 4] 3) = wk5 at *
 rw [hbhP] at hP
 try rw [hbhP]
 clear hbhP
 try clear hshP
 refine (ints_yes Ai (some ⟨bhP,0,none⟩) 2 ci 2 2 [1,4] [1,4] wk5 rfl rfl (by omega) (by omega) si hP rfl).mono ?_
 rintro e wk6 ⟨rfl,hb⟩
 replace ra:=ra.below hb
 replace rb:=rb.below hb
 replace rc:=rc.below hb
 replace hN:=hN.up hb
 replace si:=si.up hb
 replace hP:=hP.up hb
 replace hB:=hB.trans (hb.mono hB.size)
 clear hb
 clear hP
 clear si
 obtain ⟨A1,n1,c1,x0,x1,hl,hm,s1⟩:=ra.cells (k:=1) (by omega)
 obtain rfl:1 = n1:=hl
 clear hm
 try clear hl
 replace x0:wk6.cell? ⟨ga,2,none⟩ = some (.slice A1 1 c1):=x0
 replace x1:wk6.cell? ⟨ga,3,none⟩ = some (.int .i64 31):=x1
 replace s1:Sl wk6 wk6.heap.size 3 A1 1 c1 (flatHp [⟨3,30,31⟩]):=s1
 go_wp2_with fail
 try clear x0 x1
 refine (pids_v A1 1 c1 [⟨3,30,31⟩] 31 wk6 rfl (by omega) s1 [3] rfl).mono ?_
 rintro e wk7 ⟨Ai,ci,rfl,hil,si,hb⟩
 clear hil
 replace ra:=ra.below hb
 replace rb:=rb.below hb
 replace rc:=rc.below hb
 replace hN:=hN.up hb
 replace s1:=s1.up hb
 replace hB:=hB.trans (hb.mono hB.size)
 clear hb
 clear s1
 go_wp2_with fail
 have hb:Below wk7.heap.size wk7 (wk7.alloc (.cells #[.int .i64 3] 3)):=(Below.refl _ _).alloc (Nat.le_refl _) _
 have hP:=Sl.of_own (own_lit wk7 wk7.heap.size 3 1 1 #[.int .i64 3] (Nat.le_refl _) rfl (by simp [maxLen]))
 change Sl _ _ 1 _ 1 1 (([3]:List Int).map (Value.int .i64)) at hP
 obtain ⟨bhP,hbhP⟩:∃ q,wk7.heap.size = q:=⟨_,rfl⟩
 have hshP:(wk7.alloc (.cells #[.int .i64 3] 3)).heap.size = bhP + 1:=by rw [← hbhP]; simp
 replace ra:=ra.below hb
 replace rb:=rb.below hb
 replace rc:=rc.below hb
 replace hN:=hN.up hb
 replace si:=si.up hb
 replace hB:=hB.trans (hb.mono hB.size)
 clear hb
 generalize wk7.alloc (.cells #[.int .i64 3] 3) = wk8 at *
 rw [hbhP] at hP
 try rw [hbhP]
 clear hbhP
 try clear hshP
 refine (ints_yes Ai (some ⟨bhP,0,none⟩) 1 ci 1 1 [3] [3] wk8 rfl rfl (by omega) (by omega) si hP rfl).mono ?_
 rintro e wk9 ⟨rfl,hb⟩
 replace ra:=ra.below hb
 replace rb:=rb.below hb
 replace rc:=rc.below hb
 replace hN:=hN.up hb
 replace si:=si.up hb
 replace hP:=hP.up hb
 replace hB:=hB.trans (hb.mono hB.size)
 clear hb
 clear hP
 clear si
 obtain ⟨A1,n1,c1,x0,x1,hl,hm,s1⟩:=ra.cells (k:=2) (by omega)
 obtain rfl:2 = n1:=hl
 clear hm
 try clear hl
 replace x0:wk9.cell? ⟨ga,4,none⟩ = some (.slice A1 2 c1):=x0
 replace x1:wk9.cell? ⟨ga,5,none⟩ = some (.int .i64 31):=x1
 replace s1:Sl wk9 wk9.heap.size 3 A1 2 c1 (flatHp [⟨1,10,14⟩,⟨2,30,31⟩]):=s1
 go_wp2_with fail
 try clear x0 x1
 refine (pids_v A1 2 c1 [⟨1,10,14⟩,⟨2,30,31⟩] 31 wk9 rfl (by omega) s1 [1,2] rfl).mono ?_
 rintro e wk10 ⟨Ai,ci,rfl,hil,si,hb⟩
 clear hil
 replace ra:=ra.below hb
 replace rb:=rb.below hb
 replace rc:=rc.below hb
 replace hN:=hN.up hb
 replace s1:=s1.up hb
 replace hB:=hB.trans (hb.mono hB.size)
 clear hb
 clear s1
 go_wp2_with fail
 have hb:Below wk10.heap.size wk10 (wk10.alloc (.cells #[.int .i64 1,.int .i64 2] 3)):=(Below.refl _ _).alloc (Nat.le_refl _) _
 have hP:=Sl.of_own (own_lit wk10 wk10.heap.size 3 1 2 #[.int .i64 1,.int .i64 2] (Nat.le_refl _) rfl (by simp [maxLen]))
 change Sl _ _ 1 _ 2 2 (([1,2]:List Int).map (Value.int .i64)) at hP
 obtain ⟨bhP,hbhP⟩:∃ q,wk10.heap.size = q:=⟨_,rfl⟩
 have hshP:(wk10.alloc (.cells #[.int .i64 1,.int .i64 2] 3)).heap.size = bhP + 1:=by rw [← hbhP]; simp
 replace ra:=ra.below hb
 replace rb:=rb.below hb
 replace rc:=rc.below hb
 replace hN:=hN.up hb
 replace si:=si.up hb
 replace hB:=hB.trans (hb.mono hB.size)
 clear hb
 generalize wk10.alloc (.cells #[.int .i64 1,.int .i64 2] 3) = wk11 at *
 rw [hbhP] at hP
 try rw [hbhP]
 clear hbhP
 try clear hshP
 refine (ints_yes Ai (some ⟨bhP,0,none⟩) 2 ci 2 2 [1,2] [1,2] wk11 rfl rfl (by omega) (by omega) si hP rfl).mono ?_
 rintro e wk12 ⟨rfl,hb⟩
 replace ra:=ra.below hb
 replace rb:=rb.below hb
 replace rc:=rc.below hb
 replace hN:=hN.up hb
 replace si:=si.up hb
 replace hP:=hP.up hb
 replace hB:=hB.trans (hb.mono hB.size)
 clear hb
 clear hP
 clear si
 obtain ⟨A1,n1,c1,x0,x1,hl,hm,s1⟩:=ra.cells (k:=3) (by omega)
 obtain rfl:2 = n1:=hl
 clear hm
 try clear hl
 replace x0:wk12.cell? ⟨ga,6,none⟩ = some (.slice A1 2 c1):=x0
 replace x1:wk12.cell? ⟨ga,7,none⟩ = some (.int .i64 47):=x1
 replace s1:Sl wk12 wk12.heap.size 3 A1 2 c1 (flatHp [⟨5,45,46⟩,⟨2,46,47⟩]):=s1
 go_wp2_with fail
 try clear x0 x1
 refine (pids_v A1 2 c1 [⟨5,45,46⟩,⟨2,46,47⟩] 47 wk12 rfl (by omega) s1 [5,2] rfl).mono ?_
 rintro e wk13 ⟨Ai,ci,rfl,hil,si,hb⟩
 clear hil
 replace ra:=ra.below hb
 replace rb:=rb.below hb
 replace rc:=rc.below hb
 replace hN:=hN.up hb
 replace s1:=s1.up hb
 replace hB:=hB.trans (hb.mono hB.size)
 clear hb
 clear s1
 go_wp2_with fail
 have hb:Below wk13.heap.size wk13 (wk13.alloc (.cells #[.int .i64 5,.int .i64 2] 3)):=(Below.refl _ _).alloc (Nat.le_refl _) _
 have hP:=Sl.of_own (own_lit wk13 wk13.heap.size 3 1 2 #[.int .i64 5,.int .i64 2] (Nat.le_refl _) rfl (by simp [maxLen]))
 change Sl _ _ 1 _ 2 2 (([5,2]:List Int).map (Value.int .i64)) at hP
 obtain ⟨bhP,hbhP⟩:∃ q,wk13.heap.size = q:=⟨_,rfl⟩
 have hshP:(wk13.alloc (.cells #[.int .i64 5,.int .i64 2] 3)).heap.size = bhP + 1:=by rw [← hbhP]; simp
 replace ra:=ra.below hb
 replace rb:=rb.below hb
 replace rc:=rc.below hb
 replace hN:=hN.up hb
 replace si:=si.up hb
 replace hB:=hB.trans (hb.mono hB.size)
 clear hb
 generalize wk13.alloc (.cells #[.int .i64 5,.int .i64 2] 3) = wk14 at *
 rw [hbhP] at hP
 try rw [hbhP]
 clear hbhP
 try clear hshP
 refine (ints_yes Ai (some ⟨bhP,0,none⟩) 2 ci 2 2 [5,2] [5,2] wk14 rfl rfl (by omega) (by omega) si hP rfl).mono ?_
 rintro e wk15 ⟨rfl,hb⟩
 replace ra:=ra.below hb
 replace rb:=rb.below hb
 replace rc:=rc.below hb
 replace hN:=hN.up hb
 replace si:=si.up hb
 replace hP:=hP.up hb
 replace hB:=hB.trans (hb.mono hB.size)
 clear hb
 clear hP
 clear si
 obtain ⟨A1,n1,c1,x0,x1,hl,hm,s1⟩:=ra.cells (k:=4) (by omega)
 obtain rfl:2 = n1:=hl
 clear hm
 try clear hl
 replace x0:wk15.cell? ⟨ga,8,none⟩ = some (.slice A1 2 c1):=x0
 replace x1:wk15.cell? ⟨ga,9,none⟩ = some (.int .i64 53):=x1
 replace s1:Sl wk15 wk15.heap.size 3 A1 2 c1 (flatHp [⟨5,45,46⟩,⟨4,46,53⟩]):=s1
 go_wp2_with fail
 try clear x0 x1
 refine (pids_v A1 2 c1 [⟨5,45,46⟩,⟨4,46,53⟩] 53 wk15 rfl (by omega) s1 [5,4] rfl).mono ?_
 rintro e wk16 ⟨Ai,ci,rfl,hil,si,hb⟩
 clear hil
 replace ra:=ra.below hb
 replace rb:=rb.below hb
 replace rc:=rc.below hb
 replace hN:=hN.up hb
 replace s1:=s1.up hb
 replace hB:=hB.trans (hb.mono hB.size)
 clear hb
 clear s1
 go_wp2_with fail
 have hb:Below wk16.heap.size wk16 (wk16.alloc (.cells #[.int .i64 5,.int .i64 4] 3)):=(Below.refl _ _).alloc (Nat.le_refl _) _
 have hP:=Sl.of_own (own_lit wk16 wk16.heap.size 3 1 2 #[.int .i64 5,.int .i64 4] (Nat.le_refl _) rfl (by simp [maxLen]))
 change Sl _ _ 1 _ 2 2 (([5,4]:List Int).map (Value.int .i64)) at hP
 obtain ⟨bhP,hbhP⟩:∃ q,wk16.heap.size = q:=⟨_,rfl⟩
 have hshP:(wk16.alloc (.cells #[.int .i64 5,.int .i64 4] 3)).heap.size = bhP + 1:=by rw [← hbhP]; simp
 replace ra:=ra.below hb
 replace rb:=rb.below hb
 replace rc:=rc.below hb
 replace hN:=hN.up hb
 replace si:=si.up hb
 replace hB:=hB.trans (hb.mono hB.size)
 clear hb
 generalize wk16.alloc (.cells #[.int .i64 5,.int .i64 4] 3) = wk17 at *
 rw [hbhP] at hP
 try rw [hbhP]
 clear hbhP
 try clear hshP
 refine (ints_yes Ai (some ⟨bhP,0,none⟩) 2 ci 2 2 [5,4] [5,4] wk17 rfl rfl (by omega) (by omega) si hP rfl).mono ?_
 rintro e wk18 ⟨rfl,hb⟩
 replace ra:=ra.below hb
 replace rb:=rb.below hb
 replace rc:=rc.below hb
 replace hN:=hN.up hb
 replace si:=si.up hb
 replace hP:=hP.up hb
 replace hB:=hB.trans (hb.mono hB.size)
 clear hb
 clear hP
 clear si
 go_wp2_with fail
 refine (sameV rb.rl (ra.first (show 2 ≤ 5 by omega)) (by decide) (by decide) true (by decide)).mono ?_
 rintro e wk19 ⟨rfl,hb⟩
 replace ra:=ra.below hb
 replace rb:=rb.below hb
 replace rc:=rc.below hb
 replace hN:=hN.up hb
 replace hB:=hB.trans (hb.mono hB.size)
 clear hb
 go_wp2_with fail
 have hb:Below wk19.heap.size wk19 (wk19.alloc (.cells #[.slice none 0 0,.int .i64 5] 30)):=(Below.refl _ _).alloc (Nat.le_refl _) _
 have rz:RL (wk19.alloc (.cells #[.slice none 0 0,.int .i64 5] 30)) (.slice (some ⟨wk19.heap.size,0,none⟩) 1 1) [([],5)]:=RL.lit 30 [⟨⟨none,0,0,5⟩,[]⟩] 1 #[.slice none 0 0,.int .i64 5] [([],5)] rfl rfl (by omega) rfl rfl (fun x hx => by rw [List.mem_singleton.1 hx]; exact ⟨rfl,by show 0 ≤ 1000000; omega,Sl.nil0 _ _ _⟩)
 replace ra:=ra.below hb
 replace rb:=rb.below hb
 replace rc:=rc.below hb
 replace hN:=hN.up hb
 replace hB:=hB.trans (hb.mono hB.size)
 clear hb
 generalize wk19.alloc (.cells #[.slice none 0 0,.int .i64 5] 30) = wk20 at *
 refine (sameV rc.rl rz (by decide) (by decide) true (by decide)).mono ?_
 rintro e wk21 ⟨rfl,hb⟩
 clear rz
 replace ra:=ra.below hb
 replace rb:=rb.below hb
 replace rc:=rc.below hb
 replace hN:=hN.up hb
 replace hB:=hB.trans (hb.mono hB.size)
 clear hb
 go_wp2_with fail
 refine (broutes_v (some ⟨w.heap.size,0,none⟩) 5 5 net19 1 3 0 0 1000 0 wk21 rfl (by omega) (by omega) hN [] d19 0 rfl).mono ?_
 rintro e wk22 ⟨Ad,cd,rfl,rd,hb⟩
 replace ra:=ra.below hb
 replace rb:=rb.below hb
 replace rc:=rc.below hb
 replace hN:=hN.up hb
 replace hB:=hB.trans (hb.mono hB.size)
 clear hb
 clear rd
 go_wp2_with fail
 refine (broutes_v (some ⟨w.heap.size,0,none⟩) 5 5 net19 3 1 0 0 1000 9 wk22 rfl (by omega) (by omega) hN [] e19 0 rfl).mono ?_
 rintro e wk23 ⟨Ae,ce,rfl,re,hb⟩
 replace ra:=ra.below hb
 replace rb:=rb.below hb
 replace rc:=rc.below hb
 replace hN:=hN.up hb
 replace hB:=hB.trans (hb.mono hB.size)
 clear hb
 clear re
 go_wp2_with fail
 go_ret
 exact ⟨rfl,hB⟩
end Go.Proofs.YtkonkhblipbjcaaGreat

/- Facts for layer 19's laws. Plain facts; a slice of routes cut. -/
namespace Go.Proofs.YtkonkhblipbjcaaGreat
open Go.ChangeShapes Go.WideShapes Go.ChangeAt Go.RowKit Go.Sort
set_option linter.unusedSimpArgs false
set_option linter.unusedVariables false
theorem run_hiR (w0:World) (A:Option Addr) (n c p:Nat) (hp:p ≤ c):(Instr.slice 25 (.slice A n c) none (some (.int .i64 (p:Int))) none).run Tryz.prog w0 = .ok (.slice A p c) w0:=by
 have ht:Tryz.prog.underlying 25 = some (.slice (Tryz.prog.elem 25)):=by kernel_rfl
 have hsz:(sizeOf (Tryz.prog.elem 25)).run Tryz.prog w0 = .ok 2 w0:=by kernel_rfl
 rw [run_slice_h w0 25 A n c ht .i64 (p:Int) (by omega) (by omega),hsz]
 simp [Result.andThen,sliced]
 intro _
 cases A <;> simp [Addr.add_zero']
theorem RO.cap {w:World} {base n c:Nat} {A:Option Addr} {R:List Rtp} (h:RO w base (.slice A n c) R):n ≤ c:=by
 obtain ⟨L,h1,_,_⟩:=h
 obtain ⟨A',c',e⟩:=slice_of_own h1
 simp only [Value.slice.injEq] at e
 obtain ⟨rfl,rfl,rfl⟩:=e
 exact (Sl.of_own h1).cap
theorem more_math {X:List Rtp} {k:Nat}:(X.take k).length ≤ (X.take (k + 1)).length ∧ (X.take (k + 1)).length ≤ (X.take k).length + 1 ∧ ((X.take k).length < k → (X.take (k + 1)).length = (X.take k).length) ∧ (X.take (k + 1)).take (X.take k).length = X.take k:=by
 simp only [List.length_take]
 refine ⟨by omega,by omega,by omega,?_⟩
 rw [List.take_take]
 by_cases h:k ≤ X.length
 ·congr 1; omega
 ·rw [List.take_of_length_le (by omega),List.take_of_length_le (by omega)]
theorem takeWhile_imp {α:Type} {P:α → Bool}:∀ {l:List α} {x:α},x ∈ l.takeWhile P → P x = true
 | [],x,h => by cases h
 | y :: r,x,h => by
  rw [List.takeWhile_cons] at h
  split at h
  ·rename_i hy
   rcases List.mem_cons.1 h with rfl | h
   ·exact hy
   ·exact takeWhile_imp h
  ·cases h
/-- Who is to be there earlier: the first ones that are there by then. -/
theorem by_math {l:List Ed} {f q now size by_ u:Int} (hu:u ≤ by_) {X Y:List Rtp} {m1 m2 k:Nat} (hX:(allR l f q now size by_).take k = X) (hY:(allR l f q now size u).take k = Y) (h1:X.length = m1) (h2:Y.length = m2) :
  m2 ≤ m1 ∧ X.take m2 = Y ∧ (∀ i,i < m2 → (X.getD i ([],0)).2 ≤ u) ∧ (m2 < m1 → u < (X.getD m2 ([],0)).2):=by
 have hY2:Y = X.takeWhile (fun p => decide (p.2 ≤ u)):=by rw [← hY,allR_sooner hu,take_takeWhile,hX]
 have hp:Y <+: X:=hY2 ▸ List.takeWhile_prefix _
 obtain ⟨Z,hZ⟩:=hp
 have hl:m2 ≤ m1:=by rw [← h1,← h2,← hZ,List.length_append]; omega
 have ht:X.take m2 = Y:=by rw [← hZ,← h2,List.take_left]
 refine ⟨hl,ht,fun i hi => ?_,fun hlt => ?_⟩
 ·have h3:X.getD i ([],0) ∈ Y:=by
   rw [List.getD_eq_getElem?_getD,← hZ,List.getElem?_append_left (by omega),List.getElem?_eq_getElem (by omega)]
   exact List.getElem_mem _
  rw [hY2] at h3
  have:=takeWhile_imp h3
  exact of_decide_eq_true this
 ·cases hZc:Z with
  | nil => rw [hZc,List.append_nil] at hZ; rw [← hZ,h2] at h1; omega
  | cons z Z' =>
   have h4:X.getD m2 ([],0) = z:=by
    rw [List.getD_eq_getElem?_getD,← hZ,hZc,List.getElem?_append_right (by omega),h2,Nat.sub_self]
    rfl
   rw [h4]
   rcases Int.lt_or_le u z.2 with h5 | h5
   ·exact h5
   ·exfalso
    have h6:∀ (Y Z':List Rtp) (z:Rtp),z.2 ≤ u → Y = (Y ++ z :: Z').takeWhile (fun p => decide (p.2 ≤ u)) → False:=by
     intro Y
     induction Y with
     | nil => intro Z' z hz h; rw [List.nil_append,List.takeWhile_cons,if_pos (decide_eq_true hz)] at h; cases h
     | cons y Y ih =>
      intro Z' z hz h
      rw [List.cons_append,List.takeWhile_cons] at h
      split at h
      ·injection h with _ h
       exact ih Z' z hz h
      ·cases h
    refine h6 Y Z' z h5 ?_
    rw [← hZc,hZ]; exact hY2
theorem rtOk_of_route {l:List Ed} {f q now size by_ ar:Int} {ids:List Int} {hs:List Hp} (h:routeE l ids f q now size = some (hs,ar)) (hle:ar ≤ by_):RtOk l f q now size by_ (hs,ar):=by
 obtain ⟨es,h1,h2,h3,ha,hq⟩:=rte_of_route h
 have e:idsT (hs,ar) = ids:=by
  show hs.map Hp.id = ids
  rw [← h2,← hopsE_ids size now es]
  exact congrArg (List.map Hp.id) h3
 exact ⟨by rw [e]; exact h,hle⟩
theorem rtok_len {l:List Ed} {f q now size by_:Int} {p:Rtp} (h:RtOk l f q now size by_ p):p.1.length ≤ l.length:=by
 obtain ⟨ha,es,h1,h2,h3⟩:=h.rte
 rw [h2,hopsE_length]
 exact h1.len
end Go.Proofs.YtkonkhblipbjcaaGreat
