/- Several texts of mine in one: Ref09c, Small09, Ref09d, Ref09e, Ref09f, Ref09g. No condition. -/
import Derived.Test.YtodcoockhkghdaaGreatGQ11
import Derived.Deep.CutBlock
namespace Go.Proofs.YtodcoockhkghdaaGreat.Kb
open Go.ChangeShapes Go.WideShapes Go.ChangeAt Go.RowKit Go.Sort
set_option linter.unusedSimpArgs false
set_option linter.unusedVariables false
theorem own_below {w w':World} {base:Nat} {e:TypeId} {size n:Nat} {v:Value} {xs:List Value} (h:w.ownsRow base e size v n xs) (hb:Below w.heap.size w w'):w'.ownsRow base e size v n xs:=
 h.kept (grown_of_below (row:=some w.heap.size) hb) (.inr (fun e => by have:=(h.lt _ e).2; omega))
def okTo (r:Bk):Nat → Bool
 | 0 => true
 | k + 1 => okTo r k && inM (getU r (k:Int))
def someTo (r:Bk):Nat → Bool
 | 0 => false
 | k + 1 => someTo r k || decide (0 < getU r (k:Int))
theorem okTo3 (r:Bk):okTo r 3 = (inM r.ua && (inM r.ub && inM r.uc)):=by simp [okTo,getU,Bool.and_assoc]
theorem someTo3 {r:Bk} (h:okTo r 3 = true):someTo r 3 = !zeroU r:=by
 rw [okTo3] at h
 simp only [Bool.and_eq_true] at h
 obtain ⟨h1,h2,h3⟩:=h
 unfold inM inB at h1 h2 h3
 simp only [Bool.and_eq_true,decide_eq_true_eq] at h1 h2 h3
 unfold zeroU
 rw [Bool.eq_iff_iff]
 simp [someTo,getU]
 omega
theorem okTo_bad {r:Bk} {k:Nat} (hk:k < 3) (h:inM (getU r (k:Int)) = false):okTo r 3 = false:=by
 rw [okTo3]
 rcases (by omega:k = 0 ∨ k = 1 ∨ k = 2) with rfl | rfl | rfl <;> simp [getU] at h <;> simp [h]
set_option maxHeartbeats 8000000 in
set_option maxRecDepth 100000 in
theorem rright_any (A:Option Addr) (n c:Nat) (d:List Bk) (w:World) (hd:d.length = n) (hn:n ≤ 100000) (h:Sl w w.heap.size 4 A n c (flatBk d)) :
  Calls Tryz.prog 32 #[.slice A n c] w fun e w' => e = .returned (.bool (rightB d)) ∧ Below w.heap.size w w':=by
 have HD:=Lib.hid hd
 have HL:=Lib.hid h
 clear hd h
 go_enter Tryz.func32,Tryz.ntmps32
 go_wp2
 go_loopw [3] (fun iv wr => ∃ (i:Nat),iv = .int .i64 i ∧ i ≤ n ∧ Hid (∀ j,j < i → stepR d j = true) ∧ Below w.heap.size w wr) (fun iv _ => n - (intOf iv).toNat)
 case atStart => exact ⟨0,rfl,by omega,fun j hj => by omega,Below.refl _ _⟩
 case round =>
  obtain ⟨i,rfl,hi,HS,hB⟩:=hrel
  have hs:=hB.size
  by_cases hin:i < n
  ·obtain ⟨ad,rfl,hab,c0,c1,c2,c3⟩:=(HL.out.below hB).lst.atBk HD.out hin
   obtain ⟨r,hr⟩:∃ r,gBk d i = r:=⟨_,rfl⟩
   rw [hr] at c0 c1 c2 c3
   have hstep:stepR d i = (inB r.id 1 1048576 && ((i == 0 || decide ((gBk d (i - 1)).id < r.id)) && (!zeroU r && (inM r.ua && (inM r.ub && inM r.uc))))):=by unfold stepR; rw [hr]
   have HST:=Lib.hid hstep
   have HBAD:=Lib.hid (fun hq:stepR d i = false => rightB_false (by rw [HD.out]; exact hin) hq)
   have hbA:Below wr.heap.size wr (wr.alloc (.cells #[.int .i64 r.id,.int .i64 r.ua,.int .i64 r.ub,.int .i64 r.uc] 65)):=by (repeat (first | exact Below.refl _ _ | refine Below.alloc ?_ (by first | omega | (simp; done) | (simp; omega)) _ | refine Below.setCell ?_ (by first | omega | (simp; done) | (simp; omega)) _ | refine Below.drew ?_))
   have hX:=Blok.new wr 65 #[.int .i64 r.id,.int .i64 r.ua,.int .i64 r.ub,.int .i64 r.uc]
   clear hstep hr
   go_upto_region 5 with fail
   have hB3:=hB.trans (hbA.mono hs)
   generalize wr.alloc (.cells #[.int .i64 r.id,.int .i64 r.ua,.int .i64 r.ub,.int .i64 r.uc] 65) = w3 at *
   generalize wr.heap.size = bx at *
   have hs3:=hB3.size
   have q0:w3.cell? ⟨bx,0,none⟩ = some (.int .i64 r.id):=hX.cell 0
   have lt_x:=hX.lt
   clear c0 c1 c2 c3 hB hs hbA
   obtain ⟨p,hp⟩:∃ p,gBk d (i - 1) = p:=⟨_,rfl⟩
   have HP:=Lib.hid hp
   have hprev:Hid (0 < i → w3.cell? (ad.add ((i - 1) * 4)) = some (.int .i64 p.id)):=fun h0 => by
    obtain ⟨ae,he,_,e0,_⟩:=(HL.out.below hB3).lst.atBk HD.out (k:=i - 1) (by omega)
    injection he with he
    subst he
    rw [HP.out] at e0
    exact e0
   clear hp
   go_cut [39] (fun s wx => ∃ b:Bool,s = .bool b ∧ Hid (b = true → stepR d i = false) ∧ Hid (b = false → inB r.id 1 1048576 = true ∧ (i == 0 || decide (p.id < r.id)) = true) ∧ Below w3.heap.size w3 wx)
   case first =>
    by_cases g1:r.id < 1
    ·skip
     have d1:decide (r.id < 1) = true:=decide_eq_true g1
     have q_q0:=fun d os => cell_regrown q0 d os
     try simp only [List.append]
     first | refine wp_region_text_below ?_ | refine wp_region_quiet_below (by kernel_rfl) (by kernel_rfl) ?_
     repeat (go_big_quiet_step ((fail)))
     refine wpQuiet_nil ?_
     intro _ hqw
     obtain ⟨pq,hqw⟩:=hqw
     subst hqw
     clear q_q0
     have hbq:=below_regrown w3 pq.d pq.os
     clear q0
     generalize grow (redrawn w3 pq.d) pq.os = wq at *
     go_wp2_with fail
     go_meet
     exact ⟨true,rfl,(fun _ => by rw [HST.out]; have e:inB r.id 1 1048576 = false:=by {unfold inB; simp; omega}; rw [e]; rfl),(fun h => by cases h),hbq⟩
    ·by_cases g2:1048576 < r.id
     ·skip
      have d1:decide (r.id < 1) = false:=decide_eq_false g1
      have d2:decide (r.id > 1048576) = true:=decide_eq_true g2
      have q_q0:=fun d os => cell_regrown q0 d os
      try simp only [List.append]
      first | refine wp_region_text_below ?_ | refine wp_region_quiet_below (by kernel_rfl) (by kernel_rfl) ?_
      repeat (go_big_quiet_step ((fail)))
      refine wpQuiet_nil ?_
      intro _ hqw
      obtain ⟨pq,hqw⟩:=hqw
      subst hqw
      clear q_q0
      have hbq:=below_regrown w3 pq.d pq.os
      clear q0
      generalize grow (redrawn w3 pq.d) pq.os = wq at *
      go_wp2_with fail
      go_meet
      exact ⟨true,rfl,(fun _ => by rw [HST.out]; have e:inB r.id 1 1048576 = false:=by {unfold inB; simp; omega}; rw [e]; rfl),(fun h => by cases h),hbq⟩
     ·by_cases g3:i = 0
      ·subst g3
       skip
       have d1:decide (r.id < 1) = false:=decide_eq_false g1
       have d2:decide (r.id > 1048576) = false:=decide_eq_false g2
       have q_q0:=fun d os => cell_regrown q0 d os
       try simp only [List.append]
       first | refine wp_region_text_below ?_ | refine wp_region_quiet_below (by kernel_rfl) (by kernel_rfl) ?_
       repeat (go_big_quiet_step ((fail)))
       refine wpQuiet_nil ?_
       intro _ hqw
       obtain ⟨pq,hqw⟩:=hqw
       subst hqw
       clear q_q0
       have hbq:=below_regrown w3 pq.d pq.os
       clear q0
       generalize grow (redrawn w3 pq.d) pq.os = wq at *
       go_wp2_with fail
       go_meet
       exact ⟨false,rfl,(fun h => by cases h),(fun _ => ⟨by {unfold inB; simp; omega},rfl⟩),hbq⟩
      ·have p0:=hprev.out (by omega)
       have hi0:0 < i:=by omega
       have hwr:IntKind.i64.wrap ((i:Int) - 1) = (i:Int) - 1:=IntWalk.i64_in _ (by omega)
       have hcast:((i:Int) - 1) = ((i - 1:Nat):Int):=by omega
       have hlt1:i - 1 < n:=by omega
       by_cases g4:r.id ≤ p.id
       ·skip
        have d1:decide (r.id < 1) = false:=decide_eq_false g1
        have d2:decide (r.id > 1048576) = false:=decide_eq_false g2
        have d3:decide ((i:Int) > 0) = true:=by simp; omega
        have d4:decide (r.id ≤ p.id) = true:=decide_eq_true g4
        have q_q0:=fun d os => cell_regrown q0 d os
        have q_p0:=fun d os => cell_regrown p0 d os
        try simp only [List.append]
        first | refine wp_region_text_below ?_ | refine wp_region_quiet_below (by kernel_rfl) (by kernel_rfl) ?_
        repeat (go_big_quiet_step ((fail)))
        refine wpQuiet_nil ?_
        intro _ hqw
        obtain ⟨pq,hqw⟩:=hqw
        subst hqw
        clear q_q0 q_p0
        have hbq:=below_regrown w3 pq.d pq.os
        clear q0 p0
        generalize grow (redrawn w3 pq.d) pq.os = wq at *
        go_wp2_with fail
        go_meet
        exact ⟨true,rfl,(fun _ => by rw [HST.out]; have e:(i == 0 || decide ((gBk d (i - 1)).id < r.id)) = false:=by {rw [HP.out]; simp; omega}; rw [e]; simp),(fun h => by cases h),hbq⟩
       ·skip
        have d1:decide (r.id < 1) = false:=decide_eq_false g1
        have d2:decide (r.id > 1048576) = false:=decide_eq_false g2
        have d3:decide ((i:Int) > 0) = true:=by simp; omega
        have d4:decide (r.id ≤ p.id) = false:=decide_eq_false g4
        have q_q0:=fun d os => cell_regrown q0 d os
        have q_p0:=fun d os => cell_regrown p0 d os
        try simp only [List.append]
        first | refine wp_region_text_below ?_ | refine wp_region_quiet_below (by kernel_rfl) (by kernel_rfl) ?_
        repeat (go_big_quiet_step ((fail)))
        refine wpQuiet_nil ?_
        intro _ hqw
        obtain ⟨pq,hqw⟩:=hqw
        subst hqw
        clear q_q0 q_p0
        have hbq:=below_regrown w3 pq.d pq.os
        clear q0 p0
        generalize grow (redrawn w3 pq.d) pq.os = wq at *
        go_wp2_with fail
        go_meet
        exact ⟨false,rfl,(fun h => by cases h),(fun _ => ⟨by {unfold inB; simp; omega},by {simp; omega}⟩),hbq⟩
   case rest =>
    revert wc
    intro w4 hcut
    obtain ⟨b,rfl,HB1,HB2,hb⟩:=hcut
    have hX4:=hX.below hb hX.lt
    have hB4:=hB3.trans (hb.mono hs3)
    have hs4:=hB4.size
    clear q0 lt_x hX hB3 hs3 hb hprev
    cases b
    ·obtain ⟨hid1,hid2⟩:=HB2.out rfl
     have HI1:=Lib.hid hid1
     have HI2:=Lib.hid hid2
     clear hid1 hid2 HB1 HB2
     have q1:w4.cell? ⟨bx,1,none⟩ = some (.int .i64 r.ua):=hX4.cell 1
     have q2:w4.cell? ⟨bx,2,none⟩ = some (.int .i64 r.ub):=hX4.cell 2
     have q3:w4.cell? ⟨bx,3,none⟩ = some (.int .i64 r.uc):=hX4.cell 3
     have lt_x:=hX4.lt
     have HX4:=Lib.hid hX4
     clear hX4
     go_wp2
     go_loopw [5,6] (fun gv kv wx => ∃ (k:Nat) (g:Bool),gv = .bool g ∧ kv = .int .i64 k ∧ k ≤ 3 ∧ Hid (okTo r k = true) ∧ Hid (someTo r k = g) ∧ w4 = wx) (fun _ kv _ => 3 - (intOf kv).toNat)
     case atStart => exact ⟨0,false,rfl,rfl,by omega,rfl,rfl,rfl⟩
     case round =>
      obtain ⟨k,g,rfl,rfl,hk,HK,HG,rfl⟩:=hrel
      by_cases hk3:k < 3
      ·rcases (by omega:k = 0 ∨ k = 1 ∨ k = 2) with rfl | rfl | rfl
       ·try simp only [Int.natCast_zero,Int.natCast_one]
        by_cases h1:r.ua < 0
        ·have d1:decide (r.ua < 0) = true:=decide_eq_true h1
         have hbad:stepR d i = false:=by
          have e:=okTo_bad (r:=r) (k:=0) (by omega) (by unfold inM inB; simp [getU]; omega)
          rw [okTo3] at e
          rw [HST.out,e]; simp
         have HF:=Lib.hid (HBAD.out hbad)
         clear hbad
         go_wp2_with fail
         go_ret
         exact ⟨by rw [HF.out]; rfl,hB4⟩
        ·have d1:decide (r.ua < 0) = false:=decide_eq_false h1
         by_cases h2:4611686018427387904 < r.ua
         ·have d2:decide (r.ua > 4611686018427387904) = true:=decide_eq_true h2
          have hbad:stepR d i = false:=by
           have e:=okTo_bad (r:=r) (k:=0) (by omega) (by unfold inM inB; simp [getU]; omega)
           rw [okTo3] at e
           rw [HST.out,e]; simp
          have HF:=Lib.hid (HBAD.out hbad)
          clear hbad
          go_wp2_with fail
          go_ret
          exact ⟨by rw [HF.out]; rfl,hB4⟩
         ·have d2:decide (r.ua > 4611686018427387904) = false:=decide_eq_false h2
          cases g
          ·by_cases h3:0 < r.ua
           ·have d3:decide (r.ua > 0) = true:=decide_eq_true h3
            have HK2:Hid (okTo r 1 = true):=by
             show (okTo r 0 && inM (getU r ((0:Nat):Int))) = true
             rw [HK.out]; unfold inM inB; simp [getU]; omega
            have HG2:Hid (someTo r 1 = true):=by
             show (someTo r 0 || decide (0 < getU r ((0:Nat):Int))) = true
             rw [HG.out]; simp [getU]; try exact h3
            clear HK HG
            try simp only [Int.natCast_zero,Int.natCast_one]
            go_wp2_with fail
            go_roundw
            case rel => exact ⟨1,true,rfl,by go_num,by omega,HK2,HG2,by first | rfl | trivial⟩
            case measure => simp [intOf]
           ·have d3:decide (r.ua > 0) = false:=decide_eq_false h3
            have HK2:Hid (okTo r 1 = true):=by
             show (okTo r 0 && inM (getU r ((0:Nat):Int))) = true
             rw [HK.out]; unfold inM inB; simp [getU]; omega
            have HG2:Hid (someTo r 1 = false):=by
             show (someTo r 0 || decide (0 < getU r ((0:Nat):Int))) = false
             rw [HG.out]; simp [getU]; try omega
            clear HK HG
            try simp only [Int.natCast_zero,Int.natCast_one]
            go_wp2_with fail
            go_roundw
            case rel => exact ⟨1,false,rfl,by go_num,by omega,HK2,HG2,by first | rfl | trivial⟩
            case measure => simp [intOf]
          ·skip
           have HK2:Hid (okTo r 1 = true):=by
            show (okTo r 0 && inM (getU r ((0:Nat):Int))) = true
            rw [HK.out]; unfold inM inB; simp [getU]; omega
           have HG2:Hid (someTo r 1 = true):=by
            show (someTo r 0 || decide (0 < getU r ((0:Nat):Int))) = true
            rw [HG.out]; simp [getU]
           clear HK HG
           try simp only [Int.natCast_zero,Int.natCast_one]
           go_wp2_with fail
           go_roundw
           case rel => exact ⟨1,true,rfl,by go_num,by omega,HK2,HG2,by first | rfl | trivial⟩
           case measure => simp [intOf]
       ·try simp only [Int.natCast_zero,Int.natCast_one]
        by_cases h1:r.ub < 0
        ·have d1:decide (r.ub < 0) = true:=decide_eq_true h1
         have hbad:stepR d i = false:=by
          have e:=okTo_bad (r:=r) (k:=1) (by omega) (by unfold inM inB; simp [getU]; omega)
          rw [okTo3] at e
          rw [HST.out,e]; simp
         have HF:=Lib.hid (HBAD.out hbad)
         clear hbad
         go_wp2_with fail
         go_ret
         exact ⟨by rw [HF.out]; rfl,hB4⟩
        ·have d1:decide (r.ub < 0) = false:=decide_eq_false h1
         by_cases h2:4611686018427387904 < r.ub
         ·have d2:decide (r.ub > 4611686018427387904) = true:=decide_eq_true h2
          have hbad:stepR d i = false:=by
           have e:=okTo_bad (r:=r) (k:=1) (by omega) (by unfold inM inB; simp [getU]; omega)
           rw [okTo3] at e
           rw [HST.out,e]; simp
          have HF:=Lib.hid (HBAD.out hbad)
          clear hbad
          go_wp2_with fail
          go_ret
          exact ⟨by rw [HF.out]; rfl,hB4⟩
         ·have d2:decide (r.ub > 4611686018427387904) = false:=decide_eq_false h2
          cases g
          ·by_cases h3:0 < r.ub
           ·have d3:decide (r.ub > 0) = true:=decide_eq_true h3
            have HK2:Hid (okTo r 2 = true):=by
             show (okTo r 1 && inM (getU r ((1:Nat):Int))) = true
             rw [HK.out]; unfold inM inB; simp [getU]; omega
            have HG2:Hid (someTo r 2 = true):=by
             show (someTo r 1 || decide (0 < getU r ((1:Nat):Int))) = true
             rw [HG.out]; simp [getU]; try exact h3
            clear HK HG
            try simp only [Int.natCast_zero,Int.natCast_one]
            go_wp2_with fail
            go_roundw
            case rel => exact ⟨2,true,rfl,by go_num,by omega,HK2,HG2,by first | rfl | trivial⟩
            case measure => simp [intOf]
           ·have d3:decide (r.ub > 0) = false:=decide_eq_false h3
            have HK2:Hid (okTo r 2 = true):=by
             show (okTo r 1 && inM (getU r ((1:Nat):Int))) = true
             rw [HK.out]; unfold inM inB; simp [getU]; omega
            have HG2:Hid (someTo r 2 = false):=by
             show (someTo r 1 || decide (0 < getU r ((1:Nat):Int))) = false
             rw [HG.out]; simp [getU]; try omega
            clear HK HG
            try simp only [Int.natCast_zero,Int.natCast_one]
            go_wp2_with fail
            go_roundw
            case rel => exact ⟨2,false,rfl,by go_num,by omega,HK2,HG2,by first | rfl | trivial⟩
            case measure => simp [intOf]
          ·skip
           have HK2:Hid (okTo r 2 = true):=by
            show (okTo r 1 && inM (getU r ((1:Nat):Int))) = true
            rw [HK.out]; unfold inM inB; simp [getU]; omega
           have HG2:Hid (someTo r 2 = true):=by
            show (someTo r 1 || decide (0 < getU r ((1:Nat):Int))) = true
            rw [HG.out]; simp [getU]
           clear HK HG
           try simp only [Int.natCast_zero,Int.natCast_one]
           go_wp2_with fail
           go_roundw
           case rel => exact ⟨2,true,rfl,by go_num,by omega,HK2,HG2,by first | rfl | trivial⟩
           case measure => simp [intOf]
       ·try simp only [Int.natCast_zero,Int.natCast_one]
        by_cases h1:r.uc < 0
        ·have d1:decide (r.uc < 0) = true:=decide_eq_true h1
         have hbad:stepR d i = false:=by
          have e:=okTo_bad (r:=r) (k:=2) (by omega) (by unfold inM inB; simp [getU]; omega)
          rw [okTo3] at e
          rw [HST.out,e]; simp
         have HF:=Lib.hid (HBAD.out hbad)
         clear hbad
         go_wp2_with fail
         go_ret
         exact ⟨by rw [HF.out]; rfl,hB4⟩
        ·have d1:decide (r.uc < 0) = false:=decide_eq_false h1
         by_cases h2:4611686018427387904 < r.uc
         ·have d2:decide (r.uc > 4611686018427387904) = true:=decide_eq_true h2
          have hbad:stepR d i = false:=by
           have e:=okTo_bad (r:=r) (k:=2) (by omega) (by unfold inM inB; simp [getU]; omega)
           rw [okTo3] at e
           rw [HST.out,e]; simp
          have HF:=Lib.hid (HBAD.out hbad)
          clear hbad
          go_wp2_with fail
          go_ret
          exact ⟨by rw [HF.out]; rfl,hB4⟩
         ·have d2:decide (r.uc > 4611686018427387904) = false:=decide_eq_false h2
          cases g
          ·by_cases h3:0 < r.uc
           ·have d3:decide (r.uc > 0) = true:=decide_eq_true h3
            have HK2:Hid (okTo r 3 = true):=by
             show (okTo r 2 && inM (getU r ((2:Nat):Int))) = true
             rw [HK.out]; unfold inM inB; simp [getU]; omega
            have HG2:Hid (someTo r 3 = true):=by
             show (someTo r 2 || decide (0 < getU r ((2:Nat):Int))) = true
             rw [HG.out]; simp [getU]; try exact h3
            clear HK HG
            try simp only [Int.natCast_zero,Int.natCast_one]
            go_wp2_with fail
            go_roundw
            case rel => exact ⟨3,true,rfl,by go_num,by omega,HK2,HG2,by first | rfl | trivial⟩
            case measure => simp [intOf]
           ·have d3:decide (r.uc > 0) = false:=decide_eq_false h3
            have HK2:Hid (okTo r 3 = true):=by
             show (okTo r 2 && inM (getU r ((2:Nat):Int))) = true
             rw [HK.out]; unfold inM inB; simp [getU]; omega
            have HG2:Hid (someTo r 3 = false):=by
             show (someTo r 2 || decide (0 < getU r ((2:Nat):Int))) = false
             rw [HG.out]; simp [getU]; try omega
            clear HK HG
            try simp only [Int.natCast_zero,Int.natCast_one]
            go_wp2_with fail
            go_roundw
            case rel => exact ⟨3,false,rfl,by go_num,by omega,HK2,HG2,by first | rfl | trivial⟩
            case measure => simp [intOf]
          ·skip
           have HK2:Hid (okTo r 3 = true):=by
            show (okTo r 2 && inM (getU r ((2:Nat):Int))) = true
            rw [HK.out]; unfold inM inB; simp [getU]; omega
           have HG2:Hid (someTo r 3 = true):=by
            show (someTo r 2 || decide (0 < getU r ((2:Nat):Int))) = true
            rw [HG.out]; simp [getU]
           clear HK HG
           try simp only [Int.natCast_zero,Int.natCast_one]
           go_wp2_with fail
           go_roundw
           case rel => exact ⟨3,true,rfl,by go_num,by omega,HK2,HG2,by first | rfl | trivial⟩
           case measure => simp [intOf]
      ·obtain rfl:k = 3:=by omega
       have hsm:=someTo3 HK.out
       rw [HG.out] at hsm
       have hok:=HK.out
       rw [okTo3] at hok
       cases g
       ·have hbad:stepR d i = false:=by rw [HST.out,hok,← hsm]; simp
        have HF:=Lib.hid (HBAD.out hbad)
        clear hbad hsm hok
        go_wp2_with fail
        go_ret
        exact ⟨by rw [HF.out]; rfl,hB4⟩
       ·have hgood:stepR d i = true:=by rw [HST.out,hok,← hsm,HI1.out,HP.out,HI2.out]; rfl
        have HN:Hid (∀ j,j < i + 1 → stepR d j = true):=fun j hj => by
         by_cases e:j = i
         ·subst e; exact hgood
         ·exact HS.out j (by omega)
        clear hgood hsm hok
        go_wp2_with fail
        go_roundw
        case rel => exact ⟨i + 1,by go_num,by omega,HN,hB4⟩
        case measure => simp [intOf]; omega
    ·have HF:=Lib.hid (HBAD.out (HB1.out rfl))
     clear HB1 HB2 hX4
     go_wp2_with fail
     go_ret
     exact ⟨by rw [HF.out]; rfl,hB4⟩
  ·have hie:i = n:=by omega
   have hall:rightB d = true:=rightB_true.2 (fun j hj => HS.out j (by rw [HD.out] at hj; omega))
   have HF:=Lib.hid hall
   clear hall HS
   go_wp2_with fail
   go_ret
   exact ⟨by rw [HF.out]; rfl,hB⟩
end Go.Proofs.YtodcoockhkghdaaGreat.Kb
