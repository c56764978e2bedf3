/- The document's own sameness of rows of ints. No condition. -/
import Derived.Test.YtolaabllhibkdaaGreatGA
import Derived.Test.YtolaabllhibkdaaGreatChecked
namespace Go.Proofs.YtolaabllhibkdaaGreat
open Go.ChangeShapes Go.WideShapes Go.ChangeAt Go.RowKit Go.Sort
set_option linter.unusedSimpArgs false
set_option linter.unusedVariables false
theorem intAt {l:List Int} {k:Nat} (h:k < l.length):(l.map (Value.int .i64))[k]? = some (.int .i64 (l.getD k 0)):=by
 rw [List.getElem?_map,List.getElem?_eq_getElem h,List.getD_eq_getElem?_getD,List.getElem?_eq_getElem h]; rfl
theorem Lst.atI {w:World} {B:Nat} {A:Option Addr} {n:Nat} {l:List Int} (h:Lst w B 1 A n (l.map (Value.int .i64))) (hl:l.length = n) {k:Nat} (hk:k < n):∃ ad,A = some ad ∧ ad.block < B ∧ w.cell? (ad.add k) = some (.int .i64 (l.getD k 0)):=by
 obtain ⟨ad,e,hb,hc⟩:=h.at_ (by omega)
 exact ⟨ad,e,hb,hc _ _ (intAt (by omega))⟩
theorem extI {a b:List Int} (hl:a.length = b.length) (h:∀ i,i < a.length → a.getD i 0 = b.getD i 0):a = b:=by
 refine List.ext_getElem hl fun i h1 h2 => ?_
 have:=h i h1
 rw [List.getD_eq_getElem?_getD,List.getElem?_eq_getElem h1,List.getD_eq_getElem?_getD,List.getElem?_eq_getElem h2] at this
 exact this
set_option maxHeartbeats 1000000 in
set_option maxRecDepth 100000 in
theorem ints_any (A A':Option Addr) (n c n' c':Nat) (d d':List Int) (w:World) (hd:d.length = n) (hd':d'.length = n') (hn:n ≤ 1000000) (hn':n' ≤ 1000000) (h:Sl w w.heap.size 1 A n c (d.map (Value.int .i64))) (h':Sl w w.heap.size 1 A' n' c' (d'.map (Value.int .i64))) :
  Calls Tryz.prog 27 #[.slice A n c,.slice A' n' c'] w fun e w' => e = .returned (.bool (decide (d = d'))) ∧ Below w.heap.size w w':=by
 by_cases hne:n = n'
 ·subst hne
  have hz:((n:Int) != (n:Int)) = false:=by simp
  go_enter Tryz.func27,Tryz.ntmps27
  go_wp2
  go_loopw [5] (fun i wr => ∃ k:Nat,k ≤ n ∧ i = .int .i64 k ∧ Hid (∀ j,j < k → d.getD j 0 = d'.getD j 0) ∧ Below w.heap.size w wr) (fun i _ => n - (intOf i).toNat)
  case atStart => exact ⟨0,by omega,rfl,(fun j hj => by omega),Below.refl _ _⟩
  case round =>
   obtain ⟨k,hk,rfl,HQ,hB⟩:=hrel
   by_cases hkn:k < n
   ·obtain ⟨ad,rfl,hab,c0⟩:=(h.below hB).lst.atI hd hkn
    obtain ⟨ad',rfl,hab',e0⟩:=(h'.below hB).lst.atI hd' hkn
    generalize hx:d.getD k 0 = x at *
    generalize hy:d'.getD k 0 = y at *
    have HX:=Lib.hid hx
    have HY:=Lib.hid hy
    clear hx hy
    go_wp2_with fail
    have q_c0:=fun d os => cell_regrown c0 d os
    have q_e0:=fun d os => cell_regrown e0 d os
    by_cases hxy:x = y
    ·have HE:=Lib.hid hxy
     have hb:(x != y) = false:=by simp [hxy]
     clear hxy
     try simp only [List.append]
     first | refine wp_region_text_below ?_ | refine wp_region_quiet_below (by kernel_rfl) (by kernel_rfl) ?_
     repeat (go_big_quiet_step ((fail)))
     refine wpQuiet_nil ?_
     intro _ hqw
     obtain ⟨pq,hqw⟩:=hqw
     subst hqw
     clear q_c0 q_e0
     have hbel:=below_regrown wr pq.d pq.os
     have hB2:=hB.trans (hbel.mono hB.size)
     clear hbel c0 e0 hB
     generalize grow (redrawn wr pq.d) pq.os = wq at *
     go_wp2
     go_roundw
     case rel => exact ⟨k + 1,by omega,by go_num,(fun j hj => by
      by_cases e:j = k
      ·rw [e,HX.out,HY.out]; exact HE.out
      ·exact HQ.out j (by omega)),hB2⟩
     case measure => simp [intOf]; omega
    ·have hb:(x != y) = true:=by simpa using hxy
     have hfin:decide (d = d') = false:=by
      rw [decide_eq_false_iff_not]
      intro e
      have e1:=HX.out
      rw [e,HY.out] at e1
      exact hxy e1.symm
     have HF:=Lib.hid hfin
     clear hxy hfin
     try simp only [List.append]
     first | refine wp_region_text_below ?_ | refine wp_region_quiet_below (by kernel_rfl) (by kernel_rfl) ?_
     repeat (go_big_quiet_step ((fail)))
     refine wpQuiet_nil ?_
     intro _ hqw
     obtain ⟨pq,hqw⟩:=hqw
     subst hqw
     clear q_c0 q_e0
     have hbel:=below_regrown wr pq.d pq.os
     have hB2:=hB.trans (hbel.mono hB.size)
     clear hbel c0 e0 hB
     generalize grow (redrawn wr pq.d) pq.os = wq at *
     go_wp2
     go_ret
     exact ⟨by rw [HF.out]; rfl,hB2⟩
   ·obtain rfl:k = n:=by omega
    have hfin:decide (d = d') = true:=by
     rw [decide_eq_true_eq]
     exact extI (by omega) (fun j hj => HQ.out j (by omega))
    have HF:=Lib.hid hfin
    clear hfin
    go_wp2
    go_ret
    exact ⟨by rw [HF.out]; rfl,hB⟩
 ·have hz:((n:Int) != (n':Int)) = true:=by
   rw [bne_iff_ne]; omega
  have hfin:decide (d = d') = false:=by
   rw [decide_eq_false_iff_not]
   intro e
   apply hne
   rw [← hd,← hd',e]
  have HF:=Lib.hid hfin
  clear hfin
  go_enter Tryz.func27,Tryz.ntmps27
  go_wp2
  go_ret
  exact ⟨by rw [HF.out]; rfl,Below.refl _ _⟩
end Go.Proofs.YtolaabllhibkdaaGreat
