/- Package ledger: Right. No condition. -/
import Derived.Test.YtjldgcebadojiaaGreatDoorLedger4
namespace Go.Proofs.YtjldgcebadojiaaGreatDoor.Kb
open Go.ChangeShapes Go.WideShapes Go.ChangeAt Go.RowKit Go.Sort
set_option linter.unusedSimpArgs false
set_option linter.unusedVariables false
def inM (v:Int):Bool:=inB v 0 4611686018427387904
def stepR (d:List Bk) (i:Nat):Bool:=inB (gBk d i).id 1 1048576 && ((i == 0 || decide ((gBk d (i - 1)).id < (gBk d i).id)) && (!zeroU (gBk d i) && (inM (gBk d i).ua && (inM (gBk d i).ub && inM (gBk d i).uc))))
def rightB (d:List Bk):Bool:=(List.range d.length).all (stepR d)
theorem rightB_true {d:List Bk}:rightB d = true ↔ ∀ i,i < d.length → stepR d i = true:=by
 simp [rightB,List.all_eq_true]
theorem rightB_false {d:List Bk} {i:Nat} (hi:i < d.length) (h:stepR d i = false):rightB d = false:=by
 rw [Bool.eq_false_iff]
 intro e
 rw [rightB_true.1 e i hi] at h
 cases h
set_option maxHeartbeats 4000000 in
set_option maxRecDepth 100000 in
theorem right_any (A:Option Addr) (n c:Nat) (d:List Bk) (w:World) (hd:d.length = n) (hn:n ≤ 1000000) (h:Sl w w.heap.size 4 A n c (flatBk d)) :
  Calls Tryz.prog 37 #[.slice A n c] w fun e w' => e = .returned (.bool (rightB d)) ∧ Below w.heap.size w w':=by
 have HD:=Lib.hid hd
 have h0:=h
 clear hd h
 go_enter Tryz.func37,Tryz.ntmps37
 go_wp2
 go_loopw [9] (fun i wr => ∃ k:Nat,k ≤ n ∧ i = .int .i64 k ∧ Hid (∀ j,j < k → stepR d j = true) ∧ Below w.heap.size w wr ∧ Hid (Sl wr w.heap.size 4 A n c (flatBk d))) (fun i _ => n - (intOf i).toNat)
 case atStart => exact ⟨0,by omega,rfl,(fun j hj => by omega),Below.refl _ _,h0⟩
 case round =>
  clear h0
  obtain ⟨k,hk,rfl,HQ,hB,HL⟩:=hrel
  by_cases hkn:k < n
  ·obtain ⟨ad,rfl,hab,c0,c1,c2,c3⟩:=HL.out.lst.atBk HD.out hkn
   have hsw:=hB.size
   obtain ⟨x,hx⟩:∃ x,gBk d k = x:=⟨_,rfl⟩
   rw [hx] at c0 c1 c2 c3
   have HX:=Lib.hid hx
   clear hx
   have hBa:Below wr.heap.size wr (wr.alloc (.cells #[.int .i64 x.id,.int .i64 x.ua,.int .i64 x.ub,.int .i64 x.uc] 50)):=by (repeat (first | exact Below.refl _ _ | refine Below.alloc ?_ (by first | omega | (simp; done) | (simp; omega)) _ | refine Below.setCell ?_ (by first | omega | (simp; done) | (simp; omega)) _ | refine Below.drew ?_))
   have hX:=Blok.new wr 50 #[.int .i64 x.id,.int .i64 x.ua,.int .i64 x.ub,.int .i64 x.uc]
   have hB2:=hB.trans (hBa.mono hB.size)
   have hL2:=HL.out.below (hBa.mono hB.size)
   go_wp2_with fail
   clear c0 c1 c2 c3 hB HL hBa
   generalize wr.alloc (.cells #[.int .i64 x.id,.int .i64 x.ua,.int .i64 x.ub,.int .i64 x.uc] 50) = w3 at *
   generalize wr.heap.size = bb at *
   have hs3:=hB2.size
   have hbl:=hX.lt
   have habw:ad.block < w3.heap.size:=by omega
   obtain ⟨p,hp⟩:∃ p,inB x.id 1 1048576 = p:=⟨_,rfl⟩
   obtain ⟨z,hz⟩:∃ z,zeroU x = z:=⟨_,rfl⟩
   obtain ⟨qa,hqa⟩:∃ b,inM x.ua = b:=⟨_,rfl⟩
   obtain ⟨qb,hqb⟩:∃ b,inM x.ub = b:=⟨_,rfl⟩
   obtain ⟨qc,hqc⟩:∃ b,inM x.uc = b:=⟨_,rfl⟩
   have hst:stepR d k = (p && ((k == 0 || decide ((gBk d (k - 1)).id < x.id)) && (!z && (qa && (qb && qc))))):=by unfold stepR; rw [HX.out,hp,hz,hqa,hqb,hqc]
   have HP:=Lib.hid hp
   have HZ:=Lib.hid hz
   have hqa':inB x.ua 0 4611686018427387904 = qa:=hqa
   have hqb':inB x.ub 0 4611686018427387904 = qb:=hqb
   have hqc':inB x.uc 0 4611686018427387904 = qc:=hqc
   have HA:=Lib.hid hqa'
   have HBb:=Lib.hid hqb'
   have HC:=Lib.hid hqc'
   have HST:=Lib.hid hst
   have hzz:=hz
   unfold zeroU at hzz
   have hrun:=eql3 x.ua x.ub x.uc 0 0 0
   rw [hzz] at hrun
   clear hp hz hqa hqb hqc hqa' hqb' hqc' hst hzz
   have x0:w3.cell? ⟨bb,0,none⟩ = some (.int .i64 x.id):=hX.cell 0
   have x1:w3.cell? ⟨bb,1,none⟩ = some (.int .i64 x.ua):=hX.cell 1
   have x2:w3.cell? ⟨bb,2,none⟩ = some (.int .i64 x.ub):=hX.cell 2
   have x3:w3.cell? ⟨bb,3,none⟩ = some (.int .i64 x.uc):=hX.cell 3

   cases p with
   | false =>
    have hf:rightB d = false:=rightB_false (i:=k) (by have:=HD.out; omega) (by rw [HST.out]; rfl)
    have HF:=Lib.hid hf
    clear hf
    have HL2:=Lib.hid hL2
    clear hL2
    clear hX
    have q_x0:=fun d os => cell_regrown x0 d os
    have q_x1:=fun d os => cell_regrown x1 d os
    have q_x2:=fun d os => cell_regrown x2 d os
    have q_x3:=fun d os => cell_regrown x3 d os
    try simp only [List.append]
    first | refine wp_region_text_below ?_ | refine wp_region_quiet_below (by kernel_rfl) (by kernel_rfl) ?_
    repeat (go_big_quiet_step (((go_at_call 76; with_reducible exact Calls.regrown_same (in_is false HP.out _)))))
    refine wpQuiet_nil ?_
    intro _ hqw
    obtain ⟨pq,hqw⟩:=hqw
    subst hqw
    clear q_x0 q_x1 q_x2 q_x3
    have hbel:=below_regrown w3 pq.d pq.os
    replace hB2:=hB2.trans (hbel.mono hs3)
    replace HL2:=Lib.hid (HL2.out.below (hbel.mono hs3))
    clear hbel x0 x1 x2 x3
    generalize grow (redrawn w3 pq.d) pq.os = wq at *
    go_wp2
    go_ret
    exact ⟨by rw [HF.out]; rfl,hB2⟩
   | true =>
    have hcase:k = 0 ∨ ∃ p,k = p + 1:=by cases k with | zero => exact .inl rfl | succ p => exact .inr ⟨p,rfl⟩
    rcases hcase with rfl | ⟨p,rfl⟩
    ·have hd0:decide (((0:Nat):Int) > 0) = false:=by simp
     cases z with
     | true =>
      have hf:rightB d = false:=rightB_false (i:=0) (by have:=HD.out; omega) (by rw [HST.out]; simp)
      have HF:=Lib.hid hf
      clear hf
      have HL2:=Lib.hid hL2
      clear hL2
      clear hX
      have q_x0:=fun d os => cell_regrown x0 d os
      have q_x1:=fun d os => cell_regrown x1 d os
      have q_x2:=fun d os => cell_regrown x2 d os
      have q_x3:=fun d os => cell_regrown x3 d os
      try simp only [List.append]
      first | refine wp_region_text_below ?_ | refine wp_region_quiet_below (by kernel_rfl) (by kernel_rfl) ?_
      repeat (go_big_quiet_step (((go_at_call 76; with_reducible exact Calls.regrown_same (in_is true HP.out _)))))
      refine wpQuiet_nil ?_
      intro _ hqw
      obtain ⟨pq,hqw⟩:=hqw
      subst hqw
      clear q_x0 q_x1 q_x2 q_x3
      have hbel:=below_regrown w3 pq.d pq.os
      replace hB2:=hB2.trans (hbel.mono hs3)
      replace HL2:=Lib.hid (HL2.out.below (hbel.mono hs3))
      clear hbel x0 x1 x2 x3
      generalize grow (redrawn w3 pq.d) pq.os = wq at *
      go_wp2
      go_ret
      exact ⟨by rw [HF.out]; rfl,hB2⟩
     | false =>
      replace HST:Hid (stepR d 0 = (qa && (qb && qc))):=Lib.hid (by rw [HST.out]; simp)
      have HL2:=Lib.hid hL2
      clear hL2
      have q_x0:=fun d os => cell_regrown x0 d os
      have q_x1:=fun d os => cell_regrown x1 d os
      have q_x2:=fun d os => cell_regrown x2 d os
      have q_x3:=fun d os => cell_regrown x3 d os
      try simp only [List.append]
      first | refine wp_region_text_below ?_ | refine wp_region_quiet_below (by kernel_rfl) (by kernel_rfl) ?_
      repeat (go_big_quiet_step (((go_at_call 76; with_reducible exact Calls.regrown_same (in_is true HP.out _)))))
      refine wpQuiet_nil ?_
      intro _ hqw
      obtain ⟨pq,hqw⟩:=hqw
      subst hqw
      clear q_x0 q_x1 q_x2 q_x3
      have hbel:=below_regrown w3 pq.d pq.os
      replace hB2:=hB2.trans (hbel.mono hs3)
      replace HL2:=Lib.hid (HL2.out.below (hbel.mono hs3))
      replace hX:=hX.below hbel hbl
      clear hbel x0 x1 x2 x3
      generalize grow (redrawn w3 pq.d) pq.os = wq at *
      have x0:wq.cell? ⟨bb,0,none⟩ = some (.int .i64 x.id):=hX.cell 0
      have x1:wq.cell? ⟨bb,1,none⟩ = some (.int .i64 x.ua):=hX.cell 1
      have x2:wq.cell? ⟨bb,2,none⟩ = some (.int .i64 x.ub):=hX.cell 2
      have x3:wq.cell? ⟨bb,3,none⟩ = some (.int .i64 x.uc):=hX.cell 3
      have hbl2:=hX.lt
      go_wp2
      clear x0 x1 x2 x3
      try simp only [Int.natCast_add,Int.natCast_zero,Int.natCast_one,Nat.zero_mul,Addr.add_zero']
      go_loop [41] (fun iv => iv = .int .i64 0 ∨ (iv = .int .i64 1 ∧ Hid (qa = true)) ∨ (iv = .int .i64 2 ∧ Hid (qa = true) ∧ Hid (qb = true)) ∨ (iv = .int .i64 3 ∧ Hid (qa = true) ∧ Hid (qb = true) ∧ Hid (qc = true))) (fun iv => 3 - (intOf iv).toNat)
      case atStart => exact .inl rfl
      case round =>
       rcases hrel with rfl | ⟨rfl,h1⟩ | ⟨rfl,h1,h2⟩ | ⟨rfl,h1,h2,h3⟩
       ·go_wp2_with fail
        rw [index3_0]
        go_wp2_with fail
        cases qa with
        | false =>
         have hf:rightB d = false:=rightB_false (i:=0) (by have:=HD.out; omega) (by rw [HST.out]; simp)
         have HF:=Lib.hid hf
         clear hf
         refine (in_is false HA.out _).mono ?_
         rintro e w7 ⟨rfl,rfl⟩
         go_wp2
         go_ret
         exact ⟨by rw [HF.out]; rfl,hB2⟩
        | true =>
         refine (in_is true HA.out _).mono ?_
         rintro e w7 ⟨rfl,rfl⟩
         go_wp2
         go_round
         case rel => exact .inr (.inl ⟨rfl,trivial⟩)
         case measure => simp [intOf]
       ·go_wp2_with fail
        rw [index3_1]
        go_wp2_with fail
        cases qb with
        | false =>
         have hf:rightB d = false:=rightB_false (i:=0) (by have:=HD.out; omega) (by rw [HST.out]; simp)
         have HF:=Lib.hid hf
         clear hf
         refine (in_is false HBb.out _).mono ?_
         rintro e w7 ⟨rfl,rfl⟩
         go_wp2
         go_ret
         exact ⟨by rw [HF.out]; rfl,hB2⟩
        | true =>
         refine (in_is true HBb.out _).mono ?_
         rintro e w7 ⟨rfl,rfl⟩
         go_wp2
         go_round
         case rel => exact .inr (.inr (.inl ⟨rfl,h1,trivial⟩))
         case measure => simp [intOf]
       ·go_wp2_with fail
        rw [index3_2]
        go_wp2_with fail
        cases qc with
        | false =>
         have hf:rightB d = false:=rightB_false (i:=0) (by have:=HD.out; omega) (by rw [HST.out]; simp)
         have HF:=Lib.hid hf
         clear hf
         refine (in_is false HC.out _).mono ?_
         rintro e w7 ⟨rfl,rfl⟩
         go_wp2
         go_ret
         exact ⟨by rw [HF.out]; rfl,hB2⟩
        | true =>
         refine (in_is true HC.out _).mono ?_
         rintro e w7 ⟨rfl,rfl⟩
         go_wp2
         go_round
         case rel => exact .inr (.inr (.inr ⟨rfl,h1,h2,trivial⟩))
         case measure => simp [intOf]
       ·have hN:∀ j,j < 0 + 1 → stepR d j = true:=fun j hj => by
         by_cases e:j = 0
         ·rw [e,HST.out,h1.out,h2.out,h3.out]; rfl
         ·exact HQ.out j (by omega)
        have HN:=Lib.hid hN
        clear hN
        go_wp2
        go_roundw
        case rel => exact ⟨0 + 1,by omega,by go_num,HN.out,hB2,HL2.out⟩
        case measure => simp [intOf]; omega
    ·have hd0:decide (((p + 1:Nat):Int) > 0) = true:=decide_eq_true (by omega)
     obtain ⟨ad',hae,hab',z0,z1,z2,z3⟩:=hL2.lst.atBk HD.out (k:=p) (by omega)
     injection hae with hae
     subst hae
     obtain ⟨y,hy⟩:∃ y,gBk d p = y:=⟨_,rfl⟩
     rw [hy] at z0 z1 z2 z3
     have hst2:stepR d (p + 1) = (decide (y.id < x.id) && (!z && (qa && (qb && qc)))):=by rw [HST.out,Nat.add_sub_cancel,hy]; simp
     replace HST:=Lib.hid hst2
     clear hst2 hy
     by_cases hlt:y.id < x.id
     ·have hdy:decide (x.id ≤ y.id) = false:=by simp; omega
      replace HST:Hid (stepR d (p + 1) = (!z && (qa && (qb && qc)))):=Lib.hid (by rw [HST.out,decide_eq_true hlt]; simp)
      clear hlt
      cases z with
      | true =>
       have hf:rightB d = false:=rightB_false (i:=p + 1) (by have:=HD.out; omega) (by rw [HST.out]; simp)
       have HF:=Lib.hid hf
       clear hf
       have HL2:=Lib.hid hL2
       clear hL2
       clear hX
       have q_x0:=fun d os => cell_regrown x0 d os
       have q_x1:=fun d os => cell_regrown x1 d os
       have q_x2:=fun d os => cell_regrown x2 d os
       have q_x3:=fun d os => cell_regrown x3 d os
       have q_z0:=fun d os => cell_regrown z0 d os
       have q_z1:=fun d os => cell_regrown z1 d os
       have q_z2:=fun d os => cell_regrown z2 d os
       have q_z3:=fun d os => cell_regrown z3 d os
       try simp only [List.append]
       first | refine wp_region_text_below ?_ | refine wp_region_quiet_below (by kernel_rfl) (by kernel_rfl) ?_
       repeat (go_big_quiet_step (((go_at_call 76; with_reducible exact Calls.regrown_same (in_is true HP.out _)))))
       refine wpQuiet_nil ?_
       intro _ hqw
       obtain ⟨pq,hqw⟩:=hqw
       subst hqw
       clear q_x0 q_x1 q_x2 q_x3 q_z0 q_z1 q_z2 q_z3
       have hbel:=below_regrown w3 pq.d pq.os
       replace hB2:=hB2.trans (hbel.mono hs3)
       replace HL2:=Lib.hid (HL2.out.below (hbel.mono hs3))
       clear hbel x0 x1 x2 x3 z0 z1 z2 z3
       generalize grow (redrawn w3 pq.d) pq.os = wq at *
       go_wp2
       go_ret
       exact ⟨by rw [HF.out]; rfl,hB2⟩
      | false =>
       replace HST:Hid (stepR d (p + 1) = (qa && (qb && qc))):=Lib.hid (by rw [HST.out]; simp)
       have HL2:=Lib.hid hL2
       clear hL2
       have q_x0:=fun d os => cell_regrown x0 d os
       have q_x1:=fun d os => cell_regrown x1 d os
       have q_x2:=fun d os => cell_regrown x2 d os
       have q_x3:=fun d os => cell_regrown x3 d os
       have q_z0:=fun d os => cell_regrown z0 d os
       have q_z1:=fun d os => cell_regrown z1 d os
       have q_z2:=fun d os => cell_regrown z2 d os
       have q_z3:=fun d os => cell_regrown z3 d os
       try simp only [List.append]
       first | refine wp_region_text_below ?_ | refine wp_region_quiet_below (by kernel_rfl) (by kernel_rfl) ?_
       repeat (go_big_quiet_step (((go_at_call 76; with_reducible exact Calls.regrown_same (in_is true HP.out _)))))
       refine wpQuiet_nil ?_
       intro _ hqw
       obtain ⟨pq,hqw⟩:=hqw
       subst hqw
       clear q_x0 q_x1 q_x2 q_x3 q_z0 q_z1 q_z2 q_z3
       have hbel:=below_regrown w3 pq.d pq.os
       replace hB2:=hB2.trans (hbel.mono hs3)
       replace HL2:=Lib.hid (HL2.out.below (hbel.mono hs3))
       replace hX:=hX.below hbel hbl
       clear hbel x0 x1 x2 x3 z0 z1 z2 z3
       generalize grow (redrawn w3 pq.d) pq.os = wq at *
       have x0:wq.cell? ⟨bb,0,none⟩ = some (.int .i64 x.id):=hX.cell 0
       have x1:wq.cell? ⟨bb,1,none⟩ = some (.int .i64 x.ua):=hX.cell 1
       have x2:wq.cell? ⟨bb,2,none⟩ = some (.int .i64 x.ub):=hX.cell 2
       have x3:wq.cell? ⟨bb,3,none⟩ = some (.int .i64 x.uc):=hX.cell 3
       have hbl2:=hX.lt
       go_wp2
       clear x0 x1 x2 x3
       try simp only [Int.natCast_add,Int.natCast_zero,Int.natCast_one,Nat.zero_mul,Addr.add_zero']
       go_loop [41] (fun iv => iv = .int .i64 0 ∨ (iv = .int .i64 1 ∧ Hid (qa = true)) ∨ (iv = .int .i64 2 ∧ Hid (qa = true) ∧ Hid (qb = true)) ∨ (iv = .int .i64 3 ∧ Hid (qa = true) ∧ Hid (qb = true) ∧ Hid (qc = true))) (fun iv => 3 - (intOf iv).toNat)
       case atStart => exact .inl rfl
       case round =>
        rcases hrel with rfl | ⟨rfl,h1⟩ | ⟨rfl,h1,h2⟩ | ⟨rfl,h1,h2,h3⟩
        ·go_wp2_with fail
         rw [index3_0]
         go_wp2_with fail
         cases qa with
         | false =>
          have hf:rightB d = false:=rightB_false (i:=p + 1) (by have:=HD.out; omega) (by rw [HST.out]; simp)
          have HF:=Lib.hid hf
          clear hf
          refine (in_is false HA.out _).mono ?_
          rintro e w7 ⟨rfl,rfl⟩
          go_wp2
          go_ret
          exact ⟨by rw [HF.out]; rfl,hB2⟩
         | true =>
          refine (in_is true HA.out _).mono ?_
          rintro e w7 ⟨rfl,rfl⟩
          go_wp2
          go_round
          case rel => exact .inr (.inl ⟨rfl,trivial⟩)
          case measure => simp [intOf]
        ·go_wp2_with fail
         rw [index3_1]
         go_wp2_with fail
         cases qb with
         | false =>
          have hf:rightB d = false:=rightB_false (i:=p + 1) (by have:=HD.out; omega) (by rw [HST.out]; simp)
          have HF:=Lib.hid hf
          clear hf
          refine (in_is false HBb.out _).mono ?_
          rintro e w7 ⟨rfl,rfl⟩
          go_wp2
          go_ret
          exact ⟨by rw [HF.out]; rfl,hB2⟩
         | true =>
          refine (in_is true HBb.out _).mono ?_
          rintro e w7 ⟨rfl,rfl⟩
          go_wp2
          go_round
          case rel => exact .inr (.inr (.inl ⟨rfl,h1,trivial⟩))
          case measure => simp [intOf]
        ·go_wp2_with fail
         rw [index3_2]
         go_wp2_with fail
         cases qc with
         | false =>
          have hf:rightB d = false:=rightB_false (i:=p + 1) (by have:=HD.out; omega) (by rw [HST.out]; simp)
          have HF:=Lib.hid hf
          clear hf
          refine (in_is false HC.out _).mono ?_
          rintro e w7 ⟨rfl,rfl⟩
          go_wp2
          go_ret
          exact ⟨by rw [HF.out]; rfl,hB2⟩
         | true =>
          refine (in_is true HC.out _).mono ?_
          rintro e w7 ⟨rfl,rfl⟩
          go_wp2
          go_round
          case rel => exact .inr (.inr (.inr ⟨rfl,h1,h2,trivial⟩))
          case measure => simp [intOf]
        ·have hN:∀ j,j < p + 1 + 1 → stepR d j = true:=fun j hj => by
          by_cases e:j = p + 1
          ·rw [e,HST.out,h1.out,h2.out,h3.out]; rfl
          ·exact HQ.out j (by omega)
         have HN:=Lib.hid hN
         clear hN
         go_wp2
         go_roundw
         case rel => exact ⟨p + 1 + 1,by omega,by go_num,HN.out,hB2,HL2.out⟩
         case measure => simp [intOf]; omega
     ·have hdy:decide (x.id ≤ y.id) = true:=by simp; omega
      have hf:rightB d = false:=rightB_false (i:=p + 1) (by have:=HD.out; omega) (by rw [HST.out]; simp [hlt])
      have HF:=Lib.hid hf
      clear hf
      have HL2:=Lib.hid hL2
      clear hL2
      clear hX
      have q_x0:=fun d os => cell_regrown x0 d os
      have q_x1:=fun d os => cell_regrown x1 d os
      have q_x2:=fun d os => cell_regrown x2 d os
      have q_x3:=fun d os => cell_regrown x3 d os
      have q_z0:=fun d os => cell_regrown z0 d os
      have q_z1:=fun d os => cell_regrown z1 d os
      have q_z2:=fun d os => cell_regrown z2 d os
      have q_z3:=fun d os => cell_regrown z3 d os
      try simp only [List.append]
      first | refine wp_region_text_below ?_ | refine wp_region_quiet_below (by kernel_rfl) (by kernel_rfl) ?_
      repeat (go_big_quiet_step (((go_at_call 76; with_reducible exact Calls.regrown_same (in_is true HP.out _)))))
      refine wpQuiet_nil ?_
      intro _ hqw
      obtain ⟨pq,hqw⟩:=hqw
      subst hqw
      clear q_x0 q_x1 q_x2 q_x3 q_z0 q_z1 q_z2 q_z3
      have hbel:=below_regrown w3 pq.d pq.os
      replace hB2:=hB2.trans (hbel.mono hs3)
      replace HL2:=Lib.hid (HL2.out.below (hbel.mono hs3))
      clear hbel x0 x1 x2 x3 z0 z1 z2 z3
      generalize grow (redrawn w3 pq.d) pq.os = wq at *
      go_wp2
      go_ret
      exact ⟨by rw [HF.out]; rfl,hB2⟩
  ·obtain rfl:k = n:=by omega
   have hr:rightB d = true:=rightB_true.2 (fun i hi => HQ.out i (by have:=HD.out; omega))
   have HR:=Lib.hid hr
   clear hr
   go_wp2
   go_ret
   exact ⟨by rw [HR.out]; rfl,hB⟩
end Go.Proofs.YtjldgcebadojiaaGreatDoor.Kb
