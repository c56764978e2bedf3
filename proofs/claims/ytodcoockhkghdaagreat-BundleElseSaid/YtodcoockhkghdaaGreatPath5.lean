/- Contracts of package path: Walk, Ends, Route, IDs, Same; of view.Find. They make new memory alone. -/
import Derived.Test.YtodcoockhkghdaaGreatPath4
import Derived.Test.YtodcoockhkghdaaGreatGQ20
namespace Go.Proofs.YtodcoockhkghdaaGreat
open Go.ChangeShapes Go.WideShapes Go.ChangeAt Go.RowKit Go.Sort
set_option linter.unusedSimpArgs false
set_option linter.unusedVariables false
theorem nodes_wf {q:Int} {d:List Ed} (hq:1 ≤ q) (hq2:q ≤ 255) (hd:∀ e ∈ d,e.ok = true):∀ k,k < d.length + 1 → (Lit.int .i64 ((nodesE q d).getD k 0)).wf = true:=by
 intro k hk
 have hm:(nodesE q d).getD k 0 ∈ nodesE q d:=by
  rw [List.getD_eq_getElem?_getD,List.getElem?_eq_getElem (by rw [nodesE_len]; exact hk)]
  exact List.getElem_mem _
 generalize (nodesE q d).getD k 0 = z at *
 unfold nodesE at hm
 rcases List.mem_cons.1 hm with rfl | hm
 ·exact wfI (by omega)
 ·obtain ⟨e,he,rfl⟩:=List.mem_map.1 hm
  have:=Ed.ok_spec.1 (hd e he)
  exact wfI (by omega)
set_option maxHeartbeats 4000000 in
set_option maxRecDepth 100000 in
theorem pwalk_any (A:Option Addr) (n c:Nat) (d:List Ed) (A':Option Addr) (m c':Nat) (ids:List Int) (q now size:Int) (w:World) (hd:d.length = n) (hn:n ≤ 1000000) (hi:ids.length = m) (hm:m ≤ 1000000) (hwf:∀ q,q < m → (Lit.int .i64 (ids.getD q 0)).wf = true) (h:Sl w w.heap.size 8 A n c (flatEd d)) (h':Sl w w.heap.size 1 A' m c' (ids.map (Value.int .i64))) (o:Option (List Hp)) (ho:walkE d ids q now size = o) :
  Calls Tryz.prog 105 #[.slice A n c,.slice A' m c',.int .i64 q,.int .i64 now,.int .i64 size] w fun e w' => ∃ v,e = .returned (.tuple #[v,.bool o.isSome]) ∧ w'.ownsRow w.heap.size 67 3 v (o.getD []).length (flatHp (o.getD [])) ∧ Below w.heap.size w w':=by
 obtain ⟨ak,hak⟩:∃ b,askE d q now size = b:=⟨_,rfl⟩
 have HAK:=Lib.hid hak
 have HD:=Lib.hid hd
 have HI:=Lib.hid hi
 have HWF:=Lib.hid hwf
 have HO:=Lib.hid ho
 clear hak hd hi hwf ho
 go_enter Tryz.func105,Tryz.ntmps105
 go_wp2_with fail
 refine (pasked_any A n c d q now size w HD.out hn h ak HAK.out).mono ?_
 rintro e w1 ⟨rfl,hb1⟩
 have hl:=h.up hb1
 have hl':=h'.up hb1
 cases ak
 ·have hov:o = none:=by rw [← HO.out]; unfold walkE; rw [if_neg (by rw [HAK.out]; decide)]
  have HOV:=Lib.hid hov
  clear hov
  go_wp2_with fail
  go_ret2
  rw [HOV.out]
  exact ⟨_,rfl,World.ownsRow_nil _ _ _ _,hb1⟩
 ·have ha:=askE_spec.1 HAK.out
  obtain ⟨of,hof⟩:∃ x,followE d ids q = x:=⟨_,rfl⟩
  have HOF:=Lib.hid hof
  have HFO:=Lib.hid (pfollow_any A n c d A' m c' ids q w1 HD.out hn HI.out hm HWF.out hl hl' ha.2.2.2 ha.1.1 of hof)
  clear hof ha hl hl' h h'
  go_wp2_with fail
  refine HFO.out.mono ?_
  rintro e w2 ⟨v,rfl,hv,hb2⟩
  have hB:=hb1.trans (hb2.mono hb1.size)
  have hs:=hB.size
  clear hb1 hb2 HFO
  cases of with
  | none =>
   have hov:o = none:=by rw [← HO.out]; unfold walkE; rw [if_pos HAK.out,HOF.out]; rfl
   have HOV:=Lib.hid hov
   clear hov
   go_wp2_with fail
   go_ret2
   rw [HOV.out]
   exact ⟨_,rfl,World.ownsRow_nil _ _ _ _,hB⟩
  | some es =>
   have hle:es.length = m:=by rw [followE_len HOF.out]; exact HI.out
   have hp:passE size es now = o:=by rw [← HO.out,walkE_of HAK.out HOF.out]
   change w2.ownsRow _ _ _ v es.length (flatEd es) at hv
   rw [hle] at hv
   obtain ⟨Av,cv,rfl⟩:=slice_of_own hv
   have HP:=Lib.hid (ppass_any Av m cv es now size w2 hle hm (Sl.of_own hv) o hp)
   clear hv hle hp
   go_wp2_with fail
   refine HP.out.mono ?_
   rintro e w3 ⟨v3,rfl,hv3,hb3⟩
   go_wp2_with fail
   go_ret2
   exact ⟨_,rfl,own_down hv3 hs,hB.trans (hb3.mono hs)⟩
set_option maxHeartbeats 4000000 in
set_option maxRecDepth 100000 in
theorem pEnds_any (A:Option Addr) (n c:Nat) (d:List Ed) (A':Option Addr) (m c':Nat) (ids:List Int) (q:Int) (w:World) (hd:d.length = n) (hn:n ≤ 1000000) (hi:ids.length = m) (hm:m ≤ 1000000) (hwf:∀ q,q < m → (Lit.int .i64 (ids.getD q 0)).wf = true) (h:Sl w w.heap.size 8 A n c (flatEd d)) (h':Sl w w.heap.size 1 A' m c' (ids.map (Value.int .i64))) (o:Option (List Int)) (ho:endsE d ids q = o) :
  Calls Tryz.prog 119 #[.slice A n c,.slice A' m c',.int .i64 q] w fun e w' => ∃ v,e = .returned (.tuple #[v,.bool o.isSome]) ∧ w'.ownsRow w.heap.size 3 1 v (o.getD []).length ((o.getD []).map (Value.int .i64)) ∧ Below w.heap.size w w':=by
 obtain ⟨ak,hak⟩:∃ b,askE d q 0 0 = b:=⟨_,rfl⟩
 have HAK:=Lib.hid hak
 have HD:=Lib.hid hd
 have HI:=Lib.hid hi
 have HWF:=Lib.hid hwf
 have HO:=Lib.hid ho
 clear hak hd hi hwf ho
 go_enter Tryz.func119,Tryz.ntmps119
 go_wp2_with fail
 refine (pasked_any A n c d q 0 0 w HD.out hn h ak HAK.out).mono ?_
 rintro e w1 ⟨rfl,hb1⟩
 have hl:=h.up hb1
 have hl':=h'.up hb1
 cases ak
 ·have hov:o = none:=by rw [← HO.out]; unfold endsE; rw [if_neg (by rw [HAK.out]; decide)]
  have HOV:=Lib.hid hov
  clear hov
  go_wp2_with fail
  go_ret2
  rw [HOV.out]
  exact ⟨_,rfl,World.ownsRow_nil _ _ _ _,hb1⟩
 ·have ha:=askE_spec.1 HAK.out
  obtain ⟨of,hof⟩:∃ x,followE d ids q = x:=⟨_,rfl⟩
  have HOF:=Lib.hid hof
  have HFO:=Lib.hid (pfollow_any A n c d A' m c' ids q w1 HD.out hn HI.out hm HWF.out hl hl' ha.2.2.2 ha.1.1 of hof)
  clear hof ha hl hl' h h'
  go_wp2_with fail
  refine HFO.out.mono ?_
  rintro e w2 ⟨v,rfl,hv,hb2⟩
  have hB:=hb1.trans (hb2.mono hb1.size)
  have hs:=hB.size
  clear hb1 hb2 HFO
  cases of with
  | none =>
   have hov:o = none:=by rw [← HO.out]; unfold endsE; rw [if_pos HAK.out,HOF.out]; rfl
   have HOV:=Lib.hid hov
   clear hov
   go_wp2_with fail
   go_ret2
   rw [HOV.out]
   exact ⟨_,rfl,World.ownsRow_nil _ _ _ _,hB⟩
  | some es =>
   have hle:es.length = m:=by rw [followE_len HOF.out]; exact HI.out
   have hov:o = some (nodesE q es):=by rw [← HO.out,endsE_of HAK.out HOF.out]
   have HOV:=Lib.hid hov
   change w2.ownsRow _ _ _ v es.length (flatEd es) at hv
   rw [hle] at hv
   obtain ⟨Av,cv,rfl⟩:=slice_of_own hv
   have HP:=Lib.hid (pends_any Av m cv es q w2 hle hm (Sl.of_own hv))
   have HLE:=Lib.hid hle
   clear hv hle hov
   go_wp2_with fail
   refine HP.out.mono ?_
   rintro e w3 ⟨v3,rfl,hv3,hb3⟩
   go_wp2_with fail
   go_ret2
   rw [HOV.out]
   refine ⟨_,rfl,?_,hB.trans (hb3.mono hs)⟩
   change w3.ownsRow _ _ _ v3 (nodesE q es).length ((nodesE q es).map _)
   rw [nodesE_len,HLE.out]
   exact own_down hv3 hs
def hopsO (o:Option (List Hp × Int)):List Hp:=(o.map Prod.fst).getD []
def arrO (o:Option (List Hp × Int)):Int:=(o.map Prod.snd).getD 0
set_option maxHeartbeats 8000000 in
set_option maxRecDepth 100000 in
theorem proute_any (A:Option Addr) (n c:Nat) (d:List Ed) (A':Option Addr) (m c':Nat) (ids:List Int) (q tt now size:Int) (w:World) (hd:d.length = n) (hn:n ≤ 1000000) (hi:ids.length = m) (hm:m ≤ 1000000 - 1) (hwf:∀ q,q < m → (Lit.int .i64 (ids.getD q 0)).wf = true) (h:Sl w w.heap.size 8 A n c (flatEd d)) (h':Sl w w.heap.size 1 A' m c' (ids.map (Value.int .i64))) (o:Option (List Hp × Int)) (ho:routeE d ids q tt now size = o) (hs:List Hp) (hhs:hopsO o = hs) (ar:Int) (har:arrO o = ar) :
  Calls Tryz.prog 19 #[.slice A n c,.slice A' m c',.int .i64 q,.int .i64 tt,.int .i64 now,.int .i64 size] w fun e w' => ∃ v,e = .returned (.tuple #[.agg #[v,.int .i64 ar],.bool o.isSome]) ∧ w'.ownsRow w.heap.size 67 3 v hs.length (flatHp hs) ∧ Below w.heap.size w w':=by
 subst hhs
 subst har
 have hX:=Blok.new w 31 #[.slice none 0 0,.int .i64 0]
 have hBa:Below w.heap.size w (w.alloc (.cells #[.slice none 0 0,.int .i64 0] 31)):=by (repeat (first | exact Below.refl _ _ | refine Below.alloc ?_ (by first | omega | (simp; done) | (simp; omega)) _ | refine Below.setCell ?_ (by first | omega | (simp; done) | (simp; omega)) _ | refine Below.drew ?_))
 have hl:=h.up hBa
 have hl':=h'.up hBa
 obtain ⟨ak,hak⟩:∃ b,askE d q now size = b:=⟨_,rfl⟩
 obtain ⟨nb,hnb⟩:∃ b,nodeB tt = b:=⟨_,rfl⟩
 have HAK:=Lib.hid hak
 have HNB:=Lib.hid hnb
 have HD:=Lib.hid hd
 have HI:=Lib.hid hi
 have HWF:=Lib.hid hwf
 have HO:=Lib.hid ho
 clear hak hnb hd hi hwf ho h h'
 go_enter Tryz.func19,Tryz.ntmps19
 go_wp2_with fail
 generalize w.alloc (.cells #[.slice none 0 0,.int .i64 0] 31) = w0 at *
 refine (pasked_any A n c d q now size w0 HD.out hn hl ak HAK.out).mono ?_
 rintro e w1 ⟨rfl,hb1⟩
 replace hl:=hl.up hb1
 replace hl':=hl'.up hb1
 replace hX:=hX.below hb1 hX.lt
 have hB:=hBa.trans (hb1.mono hBa.size)
 have hs:=hB.size
 clear hb1 hBa
 by_cases hall:ak = true ∧ nb = true
 ·obtain ⟨rfl,rfl⟩:=hall
  have ha:=askE_spec.1 HAK.out
  obtain ⟨of,hof⟩:∃ x,followE d ids q = x:=⟨_,rfl⟩
  have HOF:=Lib.hid hof
  have HFO:=Lib.hid (pfollow_any A n c d A' m c' ids q w1 HD.out hn HI.out (by omega) HWF.out hl hl' ha.2.2.2 ha.1.1 of hof)
  have HA:=Lib.hid ha
  clear hof ha hl hl'
  go_wp2_with (go_at_call 37; refine (node_is true HNB.out _).mono ?_; rintro e w' ⟨rfl,rfl⟩)
  refine HFO.out.mono ?_
  rintro e w2 ⟨v,rfl,hv,hb2⟩
  replace hX:=hX.below hb2 hX.lt
  replace hB:=hB.trans (hb2.mono hs)
  replace hs:=hB.size
  clear hb2 HFO
  cases of with
  | none =>
   have hov:o = none:=by rw [← HO.out]; unfold routeE; rw [if_pos ⟨HAK.out,HNB.out⟩,HOF.out]; rfl
   have HOV:=Lib.hid hov
   have r0:w2.cell? ⟨w.heap.size,0,none⟩ = some (.slice none 0 0):=hX.cell 0
   have f_0:=hX.free 0
   have r1:w2.cell? ⟨w.heap.size,1,none⟩ = some (.int .i64 0):=hX.cell 1
   have f_1:=hX.free 1
   have lt_x:=hX.lt
   have HX:=Lib.hid hX
   clear hov hX
   go_wp2_with fail
   have hX:=HX.out
   clear r0 r1
   have hF:Blok ((w2.setCell ⟨w.heap.size,0,none⟩ (.slice none 0 0)).setCell ⟨w.heap.size,1,none⟩ (.int .i64 0)) w.heap.size 31 #[.slice none 0 0,.int .i64 0]:=by have h:=((hX.set_ 0 (.slice none 0 0)).set_ 1 (.int .i64 0)); simpa using h
   have hle0:w.heap.size ≤ w.heap.size:=by first | exact Nat.le_refl _ | omega
   have hWf:Below w.heap.size w ((w2.setCell ⟨w.heap.size,0,none⟩ (.slice none 0 0)).setCell ⟨w.heap.size,1,none⟩ (.int .i64 0)):=((hB.setCell (p:=⟨w.heap.size,0,none⟩) hle0 (.slice none 0 0)).setCell (p:=⟨w.heap.size,1,none⟩) hle0 (.int .i64 0))
   have hlF:=hF.lt
   have hgw:w2.grownBy ((w2.setCell ⟨w.heap.size,0,none⟩ (.slice none 0 0)).setCell ⟨w.heap.size,1,none⟩ (.int .i64 0)) (some w.heap.size):=grown_trans (grown_set _ _ _) (grown_set _ _ _)
   generalize ((w2.setCell ⟨w.heap.size,0,none⟩ (.slice none 0 0)).setCell ⟨w.heap.size,1,none⟩ (.int .i64 0)) = wf at *
   have r0:wf.cell? ⟨w.heap.size,0,none⟩ = some (.slice none 0 0):=hF.cell 0
   have r1:wf.cell? ⟨w.heap.size,1,none⟩ = some (.int .i64 0):=hF.cell 1
   refine bodyPost_ret (v:=.tuple #[.agg #[.slice none 0 0,.int .i64 0],.bool false]) (by simp [results,Tryz.results19,go_sem,r0,r1,hlF]) rfl ?_
   rw [HOV.out]
   exact ⟨_,rfl,World.ownsRow_nil _ _ _ _,hWf⟩
  | some es =>
   have hle:es.length = m:=by rw [followE_len HOF.out]; exact HI.out
   change w2.ownsRow _ _ _ v es.length (flatEd es) at hv
   rw [hle] at hv
   obtain ⟨Av,cv,rfl⟩:=slice_of_own hv
   have HE:=Lib.hid (pends_any Av m cv es q w2 hle (by omega) (Sl.of_own hv))
   have HLE:=Lib.hid hle
   have HNW:=Lib.hid (nodes_wf (q:=q) (d:=es) HA.out.1.1 HA.out.1.2 (fun e he => rightE_ok HA.out.2.2.2 (followE_mem HOF.out e he)))
   have HV:=Lib.hid hv
   clear hle hv
   go_wp2_with fail
   refine HE.out.mono ?_
   rintro e w3 ⟨v3,rfl,hv3,hb3⟩
   have HV3:=Lib.hid (own_below HV.out hb3)
   replace hX:=hX.below hb3 hX.lt
   replace hB:=hB.trans (hb3.mono hs)
   replace hs:=hB.size
   clear hb3 HE HV
   obtain ⟨An,cn,rfl⟩:=slice_of_own hv3
   obtain ⟨ld,hld⟩:∃ b,leadE (nodesE q es) tt = b:=⟨_,rfl⟩
   have HLD:=Lib.hid hld
   have HLL:=Lib.hid (pleads_any An (m + 1) cn (nodesE q es) tt w3 (by rw [nodesE_len,HLE.out]) (by omega) (by omega) (fun k hk => HNW.out k (by rw [HLE.out]; exact hk)) (Sl.of_own hv3) ld hld)
   clear hld hv3
   go_wp2_with fail
   refine HLL.out.mono ?_
   rintro e w4 ⟨rfl,hb4⟩
   have HV4:=Lib.hid (own_below HV3.out hb4)
   replace hX:=hX.below hb4 hX.lt
   replace hB:=hB.trans (hb4.mono hs)
   replace hs:=hB.size
   clear hb4 HLL HV3
   cases ld
   ·have hov:o = none:=by rw [← HO.out]; unfold routeE; rw [if_pos ⟨HAK.out,HNB.out⟩,HOF.out]; simp [HLD.out]
    have HOV:=Lib.hid hov
    have r0:w4.cell? ⟨w.heap.size,0,none⟩ = some (.slice none 0 0):=hX.cell 0
    have f_0:=hX.free 0
    have r1:w4.cell? ⟨w.heap.size,1,none⟩ = some (.int .i64 0):=hX.cell 1
    have f_1:=hX.free 1
    have lt_x:=hX.lt
    have HX:=Lib.hid hX
    clear hov hX
    go_wp2_with fail
    have hX:=HX.out
    clear r0 r1
    have hF:Blok ((w4.setCell ⟨w.heap.size,0,none⟩ (.slice none 0 0)).setCell ⟨w.heap.size,1,none⟩ (.int .i64 0)) w.heap.size 31 #[.slice none 0 0,.int .i64 0]:=by have h:=((hX.set_ 0 (.slice none 0 0)).set_ 1 (.int .i64 0)); simpa using h
    have hle0:w.heap.size ≤ w.heap.size:=by first | exact Nat.le_refl _ | omega
    have hWf:Below w.heap.size w ((w4.setCell ⟨w.heap.size,0,none⟩ (.slice none 0 0)).setCell ⟨w.heap.size,1,none⟩ (.int .i64 0)):=((hB.setCell (p:=⟨w.heap.size,0,none⟩) hle0 (.slice none 0 0)).setCell (p:=⟨w.heap.size,1,none⟩) hle0 (.int .i64 0))
    have hlF:=hF.lt
    have hgw:w4.grownBy ((w4.setCell ⟨w.heap.size,0,none⟩ (.slice none 0 0)).setCell ⟨w.heap.size,1,none⟩ (.int .i64 0)) (some w.heap.size):=grown_trans (grown_set _ _ _) (grown_set _ _ _)
    generalize ((w4.setCell ⟨w.heap.size,0,none⟩ (.slice none 0 0)).setCell ⟨w.heap.size,1,none⟩ (.int .i64 0)) = wf at *
    have r0:wf.cell? ⟨w.heap.size,0,none⟩ = some (.slice none 0 0):=hF.cell 0
    have r1:wf.cell? ⟨w.heap.size,1,none⟩ = some (.int .i64 0):=hF.cell 1
    refine bodyPost_ret (v:=.tuple #[.agg #[.slice none 0 0,.int .i64 0],.bool false]) (by simp [results,Tryz.results19,go_sem,r0,r1,hlF]) rfl ?_
    rw [HOV.out]
    exact ⟨_,rfl,World.ownsRow_nil _ _ _ _,hWf⟩
   ·obtain ⟨op,hop⟩:∃ x,passE size es now = x:=⟨_,rfl⟩
    have HOP:=Lib.hid hop
    have HPP:=Lib.hid (ppass_any Av m cv es now size w4 HLE.out (by omega) (Sl.of_own HV4.out) op hop)
    clear hop
    go_wp2_with fail
    refine HPP.out.mono ?_
    rintro e w5 ⟨v5,rfl,hv5,hb5⟩
    have hlt4:=hX.lt
    replace hX:=hX.below hb5 hX.lt
    replace hB:=hB.trans (hb5.mono hs)
    have hv5':=own_down hv5 hs
    replace hs:=hB.size
    clear hb5 HPP HV4
    cases op with
    | none =>
     have hov:o = none:=by rw [← HO.out]; unfold routeE; rw [if_pos ⟨HAK.out,HNB.out⟩,HOF.out]; simp [HOP.out]
     have HOV:=Lib.hid hov
     have r0:w5.cell? ⟨w.heap.size,0,none⟩ = some (.slice none 0 0):=hX.cell 0
     have f_0:=hX.free 0
     have r1:w5.cell? ⟨w.heap.size,1,none⟩ = some (.int .i64 0):=hX.cell 1
     have f_1:=hX.free 1
     have lt_x:=hX.lt
     have HX:=Lib.hid hX
     clear hov hX hv5 hv5'
     go_wp2_with fail
     have hX:=HX.out
     clear r0 r1
     have hF:Blok ((w5.setCell ⟨w.heap.size,0,none⟩ (.slice none 0 0)).setCell ⟨w.heap.size,1,none⟩ (.int .i64 0)) w.heap.size 31 #[.slice none 0 0,.int .i64 0]:=by have h:=((hX.set_ 0 (.slice none 0 0)).set_ 1 (.int .i64 0)); simpa using h
     have hle0:w.heap.size ≤ w.heap.size:=by first | exact Nat.le_refl _ | omega
     have hWf:Below w.heap.size w ((w5.setCell ⟨w.heap.size,0,none⟩ (.slice none 0 0)).setCell ⟨w.heap.size,1,none⟩ (.int .i64 0)):=((hB.setCell (p:=⟨w.heap.size,0,none⟩) hle0 (.slice none 0 0)).setCell (p:=⟨w.heap.size,1,none⟩) hle0 (.int .i64 0))
     have hlF:=hF.lt
     have hgw:w5.grownBy ((w5.setCell ⟨w.heap.size,0,none⟩ (.slice none 0 0)).setCell ⟨w.heap.size,1,none⟩ (.int .i64 0)) (some w.heap.size):=grown_trans (grown_set _ _ _) (grown_set _ _ _)
     generalize ((w5.setCell ⟨w.heap.size,0,none⟩ (.slice none 0 0)).setCell ⟨w.heap.size,1,none⟩ (.int .i64 0)) = wf at *
     have r0:wf.cell? ⟨w.heap.size,0,none⟩ = some (.slice none 0 0):=hF.cell 0
     have r1:wf.cell? ⟨w.heap.size,1,none⟩ = some (.int .i64 0):=hF.cell 1
     refine bodyPost_ret (v:=.tuple #[.agg #[.slice none 0 0,.int .i64 0],.bool false]) (by simp [results,Tryz.results19,go_sem,r0,r1,hlF]) rfl ?_
     rw [HOV.out]
     exact ⟨_,rfl,World.ownsRow_nil _ _ _ _,hWf⟩
    | some hs5 =>
     have hov:o = some (hs5,arrE now hs5):=by rw [← HO.out]; exact routeE_of HAK.out HNB.out HOF.out HLD.out HOP.out
     have HOV:=Lib.hid hov
     have hl5:hs5.length = m:=by rw [passE_len HOP.out]; exact HLE.out
     change w5.ownsRow _ _ _ v5 hs5.length (flatHp hs5) at hv5
     change w5.ownsRow _ _ _ v5 hs5.length (flatHp hs5) at hv5'
     rw [hl5] at hv5 hv5'
     obtain ⟨A5,c5,rfl⟩:=slice_of_own hv5
     obtain ⟨ar,har⟩:∃ x,arrE now hs5 = x:=⟨_,rfl⟩
     have HAR:=Lib.hid har
     have HH:=Lib.hid (parrive_any A5 m c5 hs5 now w5 hl5 (by omega) (Sl.of_own hv5) ar har)
     have HL5:=Lib.hid hl5
     have HV5:=Lib.hid hv5'
     have HLT5:=Lib.hid (show ∀ q,(Value.slice A5 m c5).ownBlock = some q → q ≠ w.heap.size from fun q hq => by
      have h1:=(hv5.lt q hq).1
      omega)
     clear hov hl5 har hv5 hv5'
     go_wp2_with fail
     refine HH.out.mono ?_
     rintro e w6 ⟨rfl,hb6⟩
     have HV6:=Lib.hid (own_below HV5.out hb6)
     replace hX:=hX.below hb6 hX.lt
     replace hB:=hB.trans (hb6.mono hs)
     have r0:w6.cell? ⟨w.heap.size,0,none⟩ = some (.slice none 0 0):=hX.cell 0
     have f_0:=hX.free 0
     have r1:w6.cell? ⟨w.heap.size,1,none⟩ = some (.int .i64 0):=hX.cell 1
     have f_1:=hX.free 1
     have lt_x:=hX.lt
     have HX:=Lib.hid hX
     clear hX hb6 HV5 HH
     go_wp2_with fail
     have hX:=HX.out
     clear r0 r1
     have hF:Blok ((w6.setCell ⟨w.heap.size,0,none⟩ (.slice A5 m c5)).setCell ⟨w.heap.size,1,none⟩ (.int .i64 ar)) w.heap.size 31 #[.slice A5 m c5,.int .i64 ar]:=by have h:=((hX.set_ 0 (.slice A5 m c5)).set_ 1 (.int .i64 ar)); simpa using h
     have hle0:w.heap.size ≤ w.heap.size:=by first | exact Nat.le_refl _ | omega
     have hWf:Below w.heap.size w ((w6.setCell ⟨w.heap.size,0,none⟩ (.slice A5 m c5)).setCell ⟨w.heap.size,1,none⟩ (.int .i64 ar)):=((hB.setCell (p:=⟨w.heap.size,0,none⟩) hle0 (.slice A5 m c5)).setCell (p:=⟨w.heap.size,1,none⟩) hle0 (.int .i64 ar))
     have hlF:=hF.lt
     have hgw:w6.grownBy ((w6.setCell ⟨w.heap.size,0,none⟩ (.slice A5 m c5)).setCell ⟨w.heap.size,1,none⟩ (.int .i64 ar)) (some w.heap.size):=grown_trans (grown_set _ _ _) (grown_set _ _ _)
     generalize ((w6.setCell ⟨w.heap.size,0,none⟩ (.slice A5 m c5)).setCell ⟨w.heap.size,1,none⟩ (.int .i64 ar)) = wf at *
     have r0:wf.cell? ⟨w.heap.size,0,none⟩ = some (.slice A5 m c5):=hF.cell 0
     have r1:wf.cell? ⟨w.heap.size,1,none⟩ = some (.int .i64 ar):=hF.cell 1
     refine bodyPost_ret (v:=.tuple #[.agg #[.slice A5 m c5,.int .i64 ar],.bool true]) (by simp [results,Tryz.results19,go_sem,r0,r1,hlF]) rfl ?_
     rw [HOV.out]
     refine ⟨_,by rw [show arrO (some (hs5,arrE now hs5)) = ar from HAR.out]; rfl,?_,hWf⟩
     change wf.ownsRow _ _ 3 _ hs5.length (flatHp hs5)
     rw [HL5.out]
     exact HV6.out.kept hgw (.inr (fun e => HLT5.out _ e rfl))
 ·have hov:o = none:=by rw [← HO.out]; unfold routeE; rw [if_neg (by rw [HAK.out,HNB.out]; exact hall)]
  have HOV:=Lib.hid hov
  have r0:w1.cell? ⟨w.heap.size,0,none⟩ = some (.slice none 0 0):=hX.cell 0
  have f_0:=hX.free 0
  have r1:w1.cell? ⟨w.heap.size,1,none⟩ = some (.int .i64 0):=hX.cell 1
  have f_1:=hX.free 1
  have lt_x:=hX.lt
  have HX:=Lib.hid hX
  clear hov hX hl hl'
  cases ak
  ·clear hall
   go_wp2_with fail
   have hX:=HX.out
   clear r0 r1
   have hF:Blok ((w1.setCell ⟨w.heap.size,0,none⟩ (.slice none 0 0)).setCell ⟨w.heap.size,1,none⟩ (.int .i64 0)) w.heap.size 31 #[.slice none 0 0,.int .i64 0]:=by have h:=((hX.set_ 0 (.slice none 0 0)).set_ 1 (.int .i64 0)); simpa using h
   have hle0:w.heap.size ≤ w.heap.size:=by first | exact Nat.le_refl _ | omega
   have hWf:Below w.heap.size w ((w1.setCell ⟨w.heap.size,0,none⟩ (.slice none 0 0)).setCell ⟨w.heap.size,1,none⟩ (.int .i64 0)):=((hB.setCell (p:=⟨w.heap.size,0,none⟩) hle0 (.slice none 0 0)).setCell (p:=⟨w.heap.size,1,none⟩) hle0 (.int .i64 0))
   have hlF:=hF.lt
   have hgw:w1.grownBy ((w1.setCell ⟨w.heap.size,0,none⟩ (.slice none 0 0)).setCell ⟨w.heap.size,1,none⟩ (.int .i64 0)) (some w.heap.size):=grown_trans (grown_set _ _ _) (grown_set _ _ _)
   generalize ((w1.setCell ⟨w.heap.size,0,none⟩ (.slice none 0 0)).setCell ⟨w.heap.size,1,none⟩ (.int .i64 0)) = wf at *
   have r0:wf.cell? ⟨w.heap.size,0,none⟩ = some (.slice none 0 0):=hF.cell 0
   have r1:wf.cell? ⟨w.heap.size,1,none⟩ = some (.int .i64 0):=hF.cell 1
   refine bodyPost_ret (v:=.tuple #[.agg #[.slice none 0 0,.int .i64 0],.bool false]) (by simp [results,Tryz.results19,go_sem,r0,r1,hlF]) rfl ?_
   rw [HOV.out]
   exact ⟨_,rfl,World.ownsRow_nil _ _ _ _,hWf⟩
  ·cases nb
   ·clear hall
    go_wp2_with (go_at_call 37; refine (node_is false HNB.out _).mono ?_; rintro e w' ⟨rfl,rfl⟩)
    have hX:=HX.out
    clear r0 r1
    have hF:Blok ((w1.setCell ⟨w.heap.size,0,none⟩ (.slice none 0 0)).setCell ⟨w.heap.size,1,none⟩ (.int .i64 0)) w.heap.size 31 #[.slice none 0 0,.int .i64 0]:=by have h:=((hX.set_ 0 (.slice none 0 0)).set_ 1 (.int .i64 0)); simpa using h
    have hle0:w.heap.size ≤ w.heap.size:=by first | exact Nat.le_refl _ | omega
    have hWf:Below w.heap.size w ((w1.setCell ⟨w.heap.size,0,none⟩ (.slice none 0 0)).setCell ⟨w.heap.size,1,none⟩ (.int .i64 0)):=((hB.setCell (p:=⟨w.heap.size,0,none⟩) hle0 (.slice none 0 0)).setCell (p:=⟨w.heap.size,1,none⟩) hle0 (.int .i64 0))
    have hlF:=hF.lt
    have hgw:w1.grownBy ((w1.setCell ⟨w.heap.size,0,none⟩ (.slice none 0 0)).setCell ⟨w.heap.size,1,none⟩ (.int .i64 0)) (some w.heap.size):=grown_trans (grown_set _ _ _) (grown_set _ _ _)
    generalize ((w1.setCell ⟨w.heap.size,0,none⟩ (.slice none 0 0)).setCell ⟨w.heap.size,1,none⟩ (.int .i64 0)) = wf at *
    have r0:wf.cell? ⟨w.heap.size,0,none⟩ = some (.slice none 0 0):=hF.cell 0
    have r1:wf.cell? ⟨w.heap.size,1,none⟩ = some (.int .i64 0):=hF.cell 1
    refine bodyPost_ret (v:=.tuple #[.agg #[.slice none 0 0,.int .i64 0],.bool false]) (by simp [results,Tryz.results19,go_sem,r0,r1,hlF]) rfl ?_
    rw [HOV.out]
    exact ⟨_,rfl,World.ownsRow_nil _ _ _ _,hWf⟩
   ·exact absurd ⟨rfl,rfl⟩ hall
theorem pids_any (A:Option Addr) (n c:Nat) (d:List Hp) (t:Int) (w:World) (hd:d.length = n) (hn:n ≤ 1000000) (h:Sl w w.heap.size 3 A n c (flatHp d)) :
  Calls Tryz.prog 27 #[.agg #[.slice A n c,.int .i64 t]] w fun e w' => ∃ v,e = .returned v ∧ w'.ownsRow w.heap.size 3 1 v n ((d.map Hp.id).map (Value.int .i64)) ∧ Below w.heap.size w w':=by
 obtain ⟨i0,hi0,hz0,hz1,hz2⟩:=info_parts infoI12
 have hB0:Below w.heap.size w (w.alloc (.cells #[.slice A n c,.int .i64 t] 31)):=by (repeat (first | exact Below.refl _ _ | refine Below.alloc ?_ (by first | omega | (simp; done) | (simp; omega)) _ | refine Below.setCell ?_ (by first | omega | (simp; done) | (simp; omega)) _ | refine Below.drew ?_))
 have hl:=h.below hB0
 have HD:=Lib.hid hd
 clear hd h
 go_enter Tryz.func27,Tryz.ntmps27
 go_wp2
 generalize w.alloc (.cells #[.slice A n c,.int .i64 t] 31) = w0 at *
 have HL:=Lib.hid hl
 have HB0:=Lib.hid hB0
 clear hl hB0
 go_loopw [3,9] (fun ev iv wr => ∃ (i:Nat),iv = .int .i64 i ∧ i ≤ n ∧ wr.ownsRow w.heap.size 3 1 ev i (((d.take i).map Hp.id).map (Value.int .i64)) ∧ Below w.heap.size w wr ∧ Hid (Sl wr w.heap.size 3 A n c (flatHp d))) (fun _ iv _ => n - (intOf iv).toNat)
 case atStart => exact ⟨0,rfl,by omega,World.ownsRow_nil _ _ _ _,HB0.out,HL.out⟩
 case round =>
  clear HB0 HL
  obtain ⟨i,rfl,hi,hown,hB,HL⟩:=hrel
  have hsz:=hB.size
  obtain ⟨Ae,ce,rfl⟩:=slice_of_own hown
  by_cases hin:i < n
  ·obtain ⟨ad,rfl,hab,c0,c1,c2⟩:=HL.out.lst.atHp HD.out hin
   have hnx:((d.take (i + 1)).map Hp.id).map (Value.int .i64) = ((d.take i).map Hp.id).map (Value.int .i64) ++ [.int .i64 (gHp d i).id]:=by
    rw [take_nextHp (by rw [HD.out]; exact hin)]; simp
   obtain ⟨x,hx⟩:∃ x,gHp d i = x:=⟨_,rfl⟩
   rw [hx] at c0 c1 c2 hnx
   have HNX:=Lib.hid hnx
   have hX:=Blok.new wr 67 #[.int .i64 x.id,.int .i64 x.se,.int .i64 x.ar]
   have hBa:Below wr.heap.size wr (wr.alloc (.cells #[.int .i64 x.id,.int .i64 x.se,.int .i64 x.ar] 67)):=by (repeat (first | exact Below.refl _ _ | refine Below.alloc ?_ (by first | omega | (simp; done) | (simp; omega)) _ | refine Below.setCell ?_ (by first | omega | (simp; done) | (simp; omega)) _ | refine Below.drew ?_))
   have hB2:=hB.trans (hBa.mono hsz)
   have hown2:=own_below hown hBa
   have hL2:=HL.out.below (hBa.mono hsz)
   clear hx hnx
   go_upto_region 5 with fail
   clear c0 c1 c2 hBa hB hown HL
   generalize wr.alloc (.cells #[.int .i64 x.id,.int .i64 x.se,.int .i64 x.ar] 67) = wx at *
   generalize wr.heap.size = bb at *
   have x0:wx.cell? ⟨bb,0,none⟩ = some (.int .i64 x.id):=hX.cell 0
   have x1:wx.cell? ⟨bb,1,none⟩ = some (.int .i64 x.se):=hX.cell 1
   have x2:wx.cell? ⟨bb,2,none⟩ = some (.int .i64 x.ar):=hX.cell 2
   have lt_x:=hX.lt
   have hsx:=hB2.size
   go_wp2_with (first | (at_builtin; refine wpList_append_own _ rfl _ _ 44 rfl w.heap.size 3 i0 _ 1 8 Tryz.underlying44 hi0 hz0 hz1 hz2 rfl (by decide) _ _ _ rfl (hown2.alloc _) ⟨wx.heap.size,0,none⟩ 1 1 [.int .i64 x.id] rfl rfl (by exact lit_cells wx #[.int .i64 x.id] _ _ rfl) (by simp [Value.oneCell']) (by unfold maxLen; omega) (by omega) (by simp; omega) ?_; intro v' w3 hown' hgrow3 hnil3))
   have hbN:Below w.heap.size w w3:=(hB2.alloc hsx _).grown hgrow3 (by simp; omega) (fun q hq => (hown2.lt q hq).1)
   have hLN:=Lib.hid (hL2.below (((Below.refl _ _).alloc hsx (.cells #[.int .i64 x.id] 3)).grown hgrow3 (by simp; omega) (fun q hq => (hown2.lt q hq).1)))
   clear hgrow3 hnil3
   go_wp2_with fail
   go_roundw
   case rel => exact ⟨i + 1,by go_num,by omega,(by rw [HNX.out]; exact hown'),hbN,hLN⟩
   case measure => simp [intOf]; omega
  ·obtain rfl:i = n:=by omega
   rw [List.take_of_length_le (by rw [HD.out]; omega)] at hown
   have HOWN:=Lib.hid hown
   clear hown
   go_wp2_with fail
   go_ret
   exact ⟨_,rfl,HOWN.out,hB⟩
set_option maxHeartbeats 2000000 in
theorem psame_any (A A':Option Addr) (n c n' c':Nat) (d d':List Hp) (t t':Int) (w:World) (hd:d.length = n) (hd':d'.length = n') (hn:n ≤ 1000000) (hn':n' ≤ 1000000) (h:Sl w w.heap.size 3 A n c (flatHp d)) (h':Sl w w.heap.size 3 A' n' c' (flatHp d')) (b:Bool) (hb:(decide (t = t') && decide (d = d')) = b) :
  Calls Tryz.prog 23 #[.agg #[.slice A n c,.int .i64 t],.agg #[.slice A' n' c',.int .i64 t']] w fun e w' => e = .returned (.bool b) ∧ Below w.heap.size w w':=by
 subst hb
 have hB:Below w.heap.size w ((w.alloc (.cells #[.slice A n c,.int .i64 t] 31)).alloc (.cells #[.slice A' n' c',.int .i64 t'] 31)):=by (repeat (first | exact Below.refl _ _ | refine Below.alloc ?_ (by first | omega | (simp; done) | (simp; omega)) _ | refine Below.setCell ?_ (by first | omega | (simp; done) | (simp; omega)) _ | refine Below.drew ?_))
 have HE:=fun w2 (hB:Below w.heap.size w w2) => equalHp A A' n c n' c' d d' w2 hd hd' hn hn' (h.up hB) (h'.up hB)
 have HEE:=Lib.hid HE
 clear hd hd' h h' HE
 by_cases ht:t = t'
 ·have g1:(t == t') = true:=by simp [ht]
  have HT:=Lib.hid ht
  clear ht
  go_enter Tryz.func23,Tryz.ntmps23
  go_wp2_with fail
  refine (HEE.out _ hB).mono ?_
  rintro e w3 ⟨rfl,hb⟩
  go_wp2_with fail
  go_ret
  exact ⟨by rw [decide_eq_true HT.out]; rfl,hB.trans (hb.mono hB.size)⟩
 ·have g1:(t == t') = false:=by simp [ht]
  have HT:=Lib.hid ht
  clear ht
  go_enter Tryz.func23,Tryz.ntmps23
  go_wp2_with fail
  go_ret
  exact ⟨by rw [decide_eq_false HT.out]; rfl,hB⟩
end Go.Proofs.YtodcoockhkghdaaGreat
