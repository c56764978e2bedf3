/- Several texts of mine in one: Ranges5, Ranges6, Ranges7, Small07, OpenS, RangesTwice. No condition. -/
import Derived.Test.YtjldgcebadojiaaGreatDoorGQ1
import Derived.Test.YtjldgcebadojiaaGreatDoorGQ0
import Derived.Test.YtjldgcebadojiaaGreatDoorGQ8
import Derived.Test.YtjldgcebadojiaaGreatDoorRows
namespace Go.Proofs.YtjldgcebadojiaaGreatDoor.Kr
open Go.ChangeShapes Go.WideShapes Go.ChangeAt Go.RowKit Go.Sort
set_option linter.unusedSimpArgs false
set_option linter.unusedVariables false
def stepB (d:List Rg) (i:Nat):Bool:=okR (gRg d i) && (i == 0 || (decide (cmpR (gRg d (i - 1)) (gRg d i) < 0) && !overR (gRg d (i - 1)) (gRg d i)))
def rightB (d:List Rg):Bool:=decide (d.length ≤ 4096) && (List.range d.length).all (stepB d)
theorem rightB_true {d:List Rg}:rightB d = true ↔ d.length ≤ 4096 ∧ ∀ i,i < d.length → stepB d i = true:=by
 simp [rightB,List.all_eq_true]
theorem rightB_false {d:List Rg} {i:Nat} (hi:i < d.length) (h:stepB d i = false):rightB d = false:=by
 rw [Bool.eq_false_iff]
 intro e
 rw [(rightB_true.1 e).2 i hi] at h
 cases h
set_option maxHeartbeats 4000000 in
set_option maxRecDepth 100000 in
theorem right_any (A:Option Addr) (n c:Nat) (d:List Rg) (w:World) (hd:d.length = n) (hn:n ≤ 1000000) (h:Sl w w.heap.size 5 A n c (flatRg d)) :
  Calls Tryz.prog 75 #[.slice A n c] w fun e w' => e = .returned (.bool (rightB d)) ∧ Below w.heap.size w w':=by
 have HD:=Lib.hid hd
 by_cases hbig:4096 < n
 ·have hf:rightB d = false:=by
   rw [Bool.eq_false_iff]; intro e; have:=(rightB_true.1 e).1; omega
  have HF:=Lib.hid hf
  clear hf hd
  go_enter Tryz.func75,Tryz.ntmps75
  go_wp2
  go_ret
  exact ⟨by rw [HF.out]; rfl,Below.refl _ _⟩
 ·clear hd
  go_enter Tryz.func75,Tryz.ntmps75
  go_wp2
  go_loopw [10] (fun i wr => ∃ k:Nat,k ≤ n ∧ i = .int .i64 k ∧ Hid (∀ j,j < k → stepB d j = true) ∧ Below w.heap.size w wr) (fun i _ => n - (intOf i).toNat)
  case atStart => exact ⟨0,by omega,rfl,(fun j hj => by omega),Below.refl _ _⟩
  case round =>
   obtain ⟨k,hk,rfl,HQ,hB⟩:=hrel
   by_cases hkn:k < n
   ·obtain ⟨ad,rfl,hab,c0,c1,c2,c3,c4⟩:=(h.below hB).lst.atRg HD.out hkn
    obtain ⟨x,hx⟩:∃ x,gRg d k = x:=⟨_,rfl⟩
    rw [hx] at c0 c1 c2 c3 c4
    have HX:=Lib.hid hx
    clear hx
    have hBa:Below wr.heap.size wr (wr.alloc (.cells #[.int .i64 x.fr,.int .i64 x.tn,.int .i64 x.st,.int .i64 x.en,.int .i64 x.ow] 36)):=by (repeat (first | exact Below.refl _ _ | refine Below.alloc ?_ (by first | omega | (simp; done) | (simp; omega)) _ | refine Below.setCell ?_ (by first | omega | (simp; done) | (simp; omega)) _ | refine Below.drew ?_))
    have hX:=Blok.new wr 36 #[.int .i64 x.fr,.int .i64 x.tn,.int .i64 x.st,.int .i64 x.en,.int .i64 x.ow]
    have hB2:=hB.trans (hBa.mono hB.size)
    have hsx:=hB2.size
    have hbb:wr.heap.size < (wr.alloc (.cells #[.int .i64 x.fr,.int .i64 x.tn,.int .i64 x.st,.int .i64 x.en,.int .i64 x.ow] 36)).heap.size:=by simp
    have habw:ad.block < (wr.alloc (.cells #[.int .i64 x.fr,.int .i64 x.tn,.int .i64 x.st,.int .i64 x.en,.int .i64 x.ow] 36)).heap.size:=by have:=hB.size; simp; omega
    clear hBa
    go_wp2_with fail
    clear c0 c1 c2 c3 c4 hB
    have hB:=hB2
    clear hB2
    generalize wr.alloc (.cells #[.int .i64 x.fr,.int .i64 x.tn,.int .i64 x.st,.int .i64 x.en,.int .i64 x.ow] 36) = wx at *
    generalize wr.heap.size = bb at *
    have x0:wx.cell? ⟨bb,0,none⟩ = some (.int .i64 x.fr):=hX.cell 0
    have x1:wx.cell? ⟨bb,1,none⟩ = some (.int .i64 x.tn):=hX.cell 1
    have x2:wx.cell? ⟨bb,2,none⟩ = some (.int .i64 x.st):=hX.cell 2
    have x3:wx.cell? ⟨bb,3,none⟩ = some (.int .i64 x.en):=hX.cell 3
    have x4:wx.cell? ⟨bb,4,none⟩ = some (.int .i64 x.ow):=hX.cell 4
    clear hX
    cases ho:okR x with
    | false =>
     have HO:=Lib.hid ho
     have hf:rightB d = false:=rightB_false (i:=k) (by have:=HD.out; omega) (by unfold stepB; rw [HX.out,ho]; rfl)
     have HF:=Lib.hid hf
     clear ho hf
     go_wp2_with fail
     have q_x0:=fun d os => cell_regrown x0 d os
     have q_x1:=fun d os => cell_regrown x1 d os
     have q_x2:=fun d os => cell_regrown x2 d os
     have q_x3:=fun d os => cell_regrown x3 d os
     have q_x4:=fun d os => cell_regrown x4 d os
     try simp only [List.append]
     first | refine wp_region_text_below ?_ | refine wp_region_quiet_below (by kernel_rfl) (by kernel_rfl) ?_
     repeat (go_big_quiet_step ((first | (go_at_call 127; with_reducible exact Calls.regrown_of (okR_call x _ _ HO.out)) | (go_at_call 128; with_reducible exact Calls.regrown_of (HY.out ▸ cmpR_any z x _)) | (go_at_call 129; with_reducible exact Calls.regrown_of (HV.out ▸ over_any z x _)))))
     refine wpQuiet_nil ?_
     intro _ hqw
     obtain ⟨pq,hqw⟩:=hqw
     subst hqw
     clear q_x0 q_x1 q_x2 q_x3 q_x4
     have hbel:=below_regrown wx pq.d pq.os
     replace hB:=hB.trans (hbel.mono hsx)
     clear hbel x0 x1 x2 x3 x4
     generalize grow (redrawn wx pq.d) pq.os = wq at *
     go_wp2
     go_ret
     exact ⟨by rw [HF.out]; rfl,hB⟩
    | true =>
     have HO:=Lib.hid ho
     clear ho
     have hcase:k = 0 ∨ ∃ p,k = p + 1:=by cases k with | zero => exact .inl rfl | succ p => exact .inr ⟨p,rfl⟩
     rcases hcase with rfl | ⟨p,rfl⟩
     ·have hd0:decide (((0:Nat):Int) > 0) = false:=by simp
      have hN:∀ j,j < 0 + 1 → stepB d j = true:=fun j hj => by
       obtain rfl:j = 0:=by omega
       unfold stepB
       rw [HX.out,HO.out]; rfl
      have HN:=Lib.hid hN
      clear hN
      go_wp2_with fail
      have q_x0:=fun d os => cell_regrown x0 d os
      have q_x1:=fun d os => cell_regrown x1 d os
      have q_x2:=fun d os => cell_regrown x2 d os
      have q_x3:=fun d os => cell_regrown x3 d os
      have q_x4:=fun d os => cell_regrown x4 d os
      try simp only [List.append]
      first | refine wp_region_text_below ?_ | refine wp_region_quiet_below (by kernel_rfl) (by kernel_rfl) ?_
      repeat (go_big_quiet_step ((first | (go_at_call 127; with_reducible exact Calls.regrown_of (okR_call x _ _ HO.out)) | (go_at_call 128; with_reducible exact Calls.regrown_of (HY.out ▸ cmpR_any z x _)) | (go_at_call 129; with_reducible exact Calls.regrown_of (HV.out ▸ over_any z x _)))))
      refine wpQuiet_nil ?_
      intro _ hqw
      obtain ⟨pq,hqw⟩:=hqw
      subst hqw
      clear q_x0 q_x1 q_x2 q_x3 q_x4
      have hbel:=below_regrown wx pq.d pq.os
      replace hB:=hB.trans (hbel.mono hsx)
      clear hbel x0 x1 x2 x3 x4
      generalize grow (redrawn wx pq.d) pq.os = wq at *
      go_wp2
      go_roundw
      case rel => exact ⟨0 + 1,by omega,by go_num,HN.out,hB⟩
      case measure => simp [intOf]; omega
     ·have hd0:decide (((p + 1:Nat):Int) > 0) = true:=decide_eq_true (by omega)
      obtain ⟨ad',hae,hab',z0,z1,z2,z3,z4⟩:=(h.below hB).lst.atRg HD.out (k:=p) (by omega)
      injection hae with hae
      subst hae
      obtain ⟨z,hz⟩:∃ z,gRg d p = z:=⟨_,rfl⟩
      rw [hz] at z0 z1 z2 z3 z4
      obtain ⟨y,hy⟩:∃ y,cmpR z x = y:=⟨_,rfl⟩
      obtain ⟨v,hv⟩:∃ v,overR z x = v:=⟨_,rfl⟩
      have hst:stepB d (p + 1) = (decide (y < 0) && !v):=by
       unfold stepB
       rw [Nat.add_sub_cancel,HX.out,hz,hy,hv,HO.out]; simp
      have HY:=Lib.hid hy
      have HV:=Lib.hid hv
      have HST:=Lib.hid hst
      clear hz hy hv hst
      by_cases hy0:y < 0
      ·have hdy:decide (0 ≤ y) = false:=by simp; omega
       cases v
       ·have hN:∀ j,j < p + 1 + 1 → stepB d j = true:=fun j hj => by
         by_cases e:j = p + 1
         ·rw [e,HST.out]; simp [hy0]
         ·exact HQ.out j (by omega)
        have HN:=Lib.hid hN
        clear hN
        go_wp2_with fail
        have q_x0:=fun d os => cell_regrown x0 d os
        have q_x1:=fun d os => cell_regrown x1 d os
        have q_x2:=fun d os => cell_regrown x2 d os
        have q_x3:=fun d os => cell_regrown x3 d os
        have q_x4:=fun d os => cell_regrown x4 d os
        have q_z0:=fun d os => cell_regrown z0 d os
        have q_z1:=fun d os => cell_regrown z1 d os
        have q_z2:=fun d os => cell_regrown z2 d os
        have q_z3:=fun d os => cell_regrown z3 d os
        have q_z4:=fun d os => cell_regrown z4 d os
        try simp only [List.append]
        first | refine wp_region_text_below ?_ | refine wp_region_quiet_below (by kernel_rfl) (by kernel_rfl) ?_
        repeat (go_big_quiet_step ((first | (go_at_call 127; with_reducible exact Calls.regrown_of (okR_call x _ _ HO.out)) | (go_at_call 128; with_reducible exact Calls.regrown_of (HY.out ▸ cmpR_any z x _)) | (go_at_call 129; with_reducible exact Calls.regrown_of (HV.out ▸ over_any z x _)))))
        refine wpQuiet_nil ?_
        intro _ hqw
        obtain ⟨pq,hqw⟩:=hqw
        subst hqw
        clear q_x0 q_x1 q_x2 q_x3 q_x4 q_z0 q_z1 q_z2 q_z3 q_z4
        have hbel:=below_regrown wx pq.d pq.os
        replace hB:=hB.trans (hbel.mono hsx)
        clear hbel x0 x1 x2 x3 x4 z0 z1 z2 z3 z4
        generalize grow (redrawn wx pq.d) pq.os = wq at *
        go_wp2
        go_roundw
        case rel => exact ⟨(p + 1) + 1,by omega,by go_num,HN.out,hB⟩
        case measure => simp [intOf]; omega
       ·have hf:rightB d = false:=rightB_false (i:=p + 1) (by have:=HD.out; omega) (by rw [HST.out]; simp)
        have HF:=Lib.hid hf
        clear hf
        go_wp2_with fail
        have q_x0:=fun d os => cell_regrown x0 d os
        have q_x1:=fun d os => cell_regrown x1 d os
        have q_x2:=fun d os => cell_regrown x2 d os
        have q_x3:=fun d os => cell_regrown x3 d os
        have q_x4:=fun d os => cell_regrown x4 d os
        have q_z0:=fun d os => cell_regrown z0 d os
        have q_z1:=fun d os => cell_regrown z1 d os
        have q_z2:=fun d os => cell_regrown z2 d os
        have q_z3:=fun d os => cell_regrown z3 d os
        have q_z4:=fun d os => cell_regrown z4 d os
        try simp only [List.append]
        first | refine wp_region_text_below ?_ | refine wp_region_quiet_below (by kernel_rfl) (by kernel_rfl) ?_
        repeat (go_big_quiet_step ((first | (go_at_call 127; with_reducible exact Calls.regrown_of (okR_call x _ _ HO.out)) | (go_at_call 128; with_reducible exact Calls.regrown_of (HY.out ▸ cmpR_any z x _)) | (go_at_call 129; with_reducible exact Calls.regrown_of (HV.out ▸ over_any z x _)))))
        refine wpQuiet_nil ?_
        intro _ hqw
        obtain ⟨pq,hqw⟩:=hqw
        subst hqw
        clear q_x0 q_x1 q_x2 q_x3 q_x4 q_z0 q_z1 q_z2 q_z3 q_z4
        have hbel:=below_regrown wx pq.d pq.os
        replace hB:=hB.trans (hbel.mono hsx)
        clear hbel x0 x1 x2 x3 x4 z0 z1 z2 z3 z4
        generalize grow (redrawn wx pq.d) pq.os = wq at *
        go_wp2
        go_ret
        exact ⟨by rw [HF.out]; rfl,hB⟩
      ·have hdy:decide (0 ≤ y) = true:=by simp; omega
       have hf:rightB d = false:=rightB_false (i:=p + 1) (by have:=HD.out; omega) (by rw [HST.out]; simp; omega)
       have HF:=Lib.hid hf
       clear hf
       go_wp2_with fail
       have q_x0:=fun d os => cell_regrown x0 d os
       have q_x1:=fun d os => cell_regrown x1 d os
       have q_x2:=fun d os => cell_regrown x2 d os
       have q_x3:=fun d os => cell_regrown x3 d os
       have q_x4:=fun d os => cell_regrown x4 d os
       have q_z0:=fun d os => cell_regrown z0 d os
       have q_z1:=fun d os => cell_regrown z1 d os
       have q_z2:=fun d os => cell_regrown z2 d os
       have q_z3:=fun d os => cell_regrown z3 d os
       have q_z4:=fun d os => cell_regrown z4 d os
       try simp only [List.append]
       first | refine wp_region_text_below ?_ | refine wp_region_quiet_below (by kernel_rfl) (by kernel_rfl) ?_
       repeat (go_big_quiet_step ((first | (go_at_call 127; with_reducible exact Calls.regrown_of (okR_call x _ _ HO.out)) | (go_at_call 128; with_reducible exact Calls.regrown_of (HY.out ▸ cmpR_any z x _)) | (go_at_call 129; with_reducible exact Calls.regrown_of (HV.out ▸ over_any z x _)))))
       refine wpQuiet_nil ?_
       intro _ hqw
       obtain ⟨pq,hqw⟩:=hqw
       subst hqw
       clear q_x0 q_x1 q_x2 q_x3 q_x4 q_z0 q_z1 q_z2 q_z3 q_z4
       have hbel:=below_regrown wx pq.d pq.os
       replace hB:=hB.trans (hbel.mono hsx)
       clear hbel x0 x1 x2 x3 x4 z0 z1 z2 z3 z4
       generalize grow (redrawn wx pq.d) pq.os = wq at *
       go_wp2
       go_ret
       exact ⟨by rw [HF.out]; rfl,hB⟩
   ·obtain rfl:k = n:=by omega
    have hf:rightB d = true:=rightB_true.2 ⟨by have:=HD.out; omega,fun i hi => HQ.out i (by have:=HD.out; omega)⟩
    have HF:=Lib.hid hf
    clear hf
    go_wp2
    go_ret
    exact ⟨by rw [HF.out]; rfl,hB⟩
theorem own_below {w w':World} {base:Nat} {e:TypeId} {size n:Nat} {v:Value} {xs:List Value} (h:w.ownsRow base e size v n xs) (hb:Below w.heap.size w w'):w'.ownsRow base e size v n xs:=
 h.kept (grown_of_below (row:=some w.heap.size) hb) (.inr (fun e => by have:=(h.lt _ e).2; omega))
end Go.Proofs.YtjldgcebadojiaaGreatDoor.Kr
namespace Go.Proofs.YtjldgcebadojiaaGreatDoor
open Go.ChangeShapes Go.WideShapes Go.ChangeAt Go.RowKit Go.Sort
set_option linter.unusedSimpArgs false
set_option linter.unusedVariables false
variable {H:Type} {enc:TypeId × Value → H} {P:Program}
end Go.Proofs.YtjldgcebadojiaaGreatDoor
namespace Go.Proofs.YtjldgcebadojiaaGreatDoor.Kr
open Go.ChangeShapes Go.WideShapes Go.ChangeAt Go.RowKit Go.Sort
set_option linter.unusedSimpArgs false
set_option linter.unusedVariables false
def insR (d:List Rg) (i:Nat) (r:Rg):List Rg:=d.take i ++ [r] ++ d.drop i
theorem insR_length {d:List Rg} {i:Nat} (r:Rg) (hi:i ≤ d.length):(insR d i r).length = d.length + 1:=by
 unfold insR
 simp only [List.length_append,List.length_take,List.length_drop,List.length_cons,List.length_nil]
 omega
theorem okR_span {r:Rg} (h:okR r = true):r.st < r.en ∧ 0 ≤ r.ow ∧ r.ow ≤ 2147483647:=by
 unfold okR rangeB spanB inB at h
 simp at h
 omega
theorem mem_gRg {d:List Rg} {y:Rg} (h:y ∈ d):∃ j,j < d.length ∧ gRg d j = y:=by
 obtain ⟨j,hj,e⟩:=List.mem_iff_getElem.1 h
 exact ⟨j,hj,by unfold gRg; rw [List.getD_eq_getElem?_getD,List.getElem?_eq_getElem hj,e]; rfl⟩
theorem fresh_of {d:List Rg} {r:Rg} (hr:rightB d = true) (hm:mayF d r = 0):okR r = true ∧ ∀ y ∈ d,sameR y r = false:=by
 have hok:okR r = true:=by
  unfold mayF at hm
  cases h:okR r
  ·rw [h] at hm; simp at hm
  ·rfl
 refine ⟨hok,fun y hy => ?_⟩
 have hy2:overR y r = false:=by
  unfold mayF at hm
  rw [if_neg (by rw [hok]; decide)] at hm
  split at hm
  ·cases hm
  ·by_cases h:d.any (fun o => overR o r) = true
   ·rw [if_pos h] at hm; cases hm
   ·rw [List.any_eq_true] at h
    cases e:overR y r
    ·rfl
    ·exact absurd ⟨y,hy,e⟩ h
 obtain ⟨j,hj,rfl⟩:=mem_gRg hy
 have hok2:okR (gRg d j) = true:=by
  have:=(rightB_true.1 hr).2 j hj
  unfold stepB at this
  simp at this
  exact this.1
 have h1:=okR_span hok
 have h2:=okR_span hok2
 unfold overR at hy2
 unfold sameR
 simp at hy2 ⊢
 intro e1 e2 e3
 have:=hy2 e1 e2
 omega
end Go.Proofs.YtjldgcebadojiaaGreatDoor.Kr
