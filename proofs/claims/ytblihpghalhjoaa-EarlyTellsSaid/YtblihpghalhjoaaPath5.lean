/- Contracts of package path: Walk, Ends, Route, IDs, Same; of view.Find. They make new memory alone. -/
import Derived.Test.YtblihpghalhjoaaPath4
import Derived.Test.YtblihpghalhjoaaSlHp
namespace Go.Proofs.Ytblihpghalhjoaa
open Go.ChangeShapes Go.WideShapes Go.ChangeAt Go.RowKit Go.Sort
set_option linter.unusedSimpArgs false
set_option linter.unusedVariables false
theorem nodes_wf {q : Int} {d : List Ed} (hq : 1 ≤ q) (hq2 : q ≤ 255) (hd : ∀ e ∈ d, e.ok = true) : ∀ k, k < d.length + 1 → (Lit.int .i64 ((nodesE q d).getD k 0)).wf = true := by
  intro k hk
  have hm : (nodesE q d).getD k 0 ∈ nodesE q d := by
    rw [List.getD_eq_getElem?_getD, List.getElem?_eq_getElem (by rw [nodesE_len]; exact hk)]
    exact List.getElem_mem _
  generalize (nodesE q d).getD k 0 = z at *
  unfold nodesE at hm
  rcases List.mem_cons.1 hm with rfl | hm
  · exact wfI (by omega)
  · obtain ⟨e, he, rfl⟩ := List.mem_map.1 hm
    have := Ed.ok_spec.1 (hd e he)
    exact wfI (by omega)
set_option maxHeartbeats 4000000 in
set_option maxRecDepth 100000 in
theorem pwalk_any (A : Option Addr) (n c : Nat) (d : List Ed) (A' : Option Addr) (m c' : Nat) (ids : List Int) (q now size : Int) (w : World) (hd : d.length = n) (hn : n ≤ 1000000) (hi : ids.length = m) (hm : m ≤ 1000000) (hwf : ∀ q, q < m → (Lit.int .i64 (ids.getD q 0)).wf = true) (h : Sl w w.heap.size 8 A n c (flatEd d)) (h' : Sl w w.heap.size 1 A' m c' (ids.map (Value.int .i64))) (o : Option (List Hp)) (ho : walkE d ids q now size = o) :
    Calls Try.prog 16 #[.slice A n c, .slice A' m c', .int .i64 q, .int .i64 now, .int .i64 size] w fun e w' => ∃ v, e = .returned (.tuple #[v, .bool o.isSome]) ∧ w'.ownsRow w.heap.size 39 3 v (o.getD []).length (flatHp (o.getD [])) ∧ Below w.heap.size w w' := by
  obtain ⟨ak, hak⟩ : ∃ b, askE d q now size = b := ⟨_, rfl⟩
  have HAK := Lib.hid hak
  have HD := Lib.hid hd
  have HI := Lib.hid hi
  have HWF := Lib.hid hwf
  have HO := Lib.hid ho
  clear hak hd hi hwf ho
  go_enter Try.func16, Try.ntmps16
  go_wp2_with fail
  refine (pasked_any A n c d q now size w HD.out hn h ak HAK.out).mono ?_
  rintro e w1 ⟨rfl, hb1⟩
  have hl := h.up hb1
  have hl' := h'.up hb1
  cases ak
  · have hov : o = none := by rw [← HO.out]; unfold walkE; rw [if_neg (by rw [HAK.out]; decide)]
    have HOV := Lib.hid hov
    clear hov
    go_wp2_with fail
    go_ret2
    rw [HOV.out]
    exact ⟨_, rfl, World.ownsRow_nil _ _ _ _, hb1⟩
  · have ha := askE_spec.1 HAK.out
    obtain ⟨of, hof⟩ : ∃ x, followE d ids q = x := ⟨_, rfl⟩
    have HOF := Lib.hid hof
    have HFO := Lib.hid (pfollow_any A n c d A' m c' ids q w1 HD.out hn HI.out hm HWF.out hl hl' ha.2.2.2 ha.1.1 of hof)
    clear hof ha hl hl' h h'
    go_wp2_with fail
    refine HFO.out.mono ?_
    rintro e w2 ⟨v, rfl, hv, hb2⟩
    have hB := hb1.trans (hb2.mono hb1.size)
    have hs := hB.size
    clear hb1 hb2 HFO
    cases of with
    | none =>
      have hov : o = none := by rw [← HO.out]; unfold walkE; rw [if_pos HAK.out, HOF.out]; rfl
      have HOV := Lib.hid hov
      clear hov
      go_wp2_with fail
      go_ret2
      rw [HOV.out]
      exact ⟨_, rfl, World.ownsRow_nil _ _ _ _, hB⟩
    | some es =>
      have hle : es.length = m := by rw [followE_len HOF.out]; exact HI.out
      have hp : passE size es now = o := by rw [← HO.out, walkE_of HAK.out HOF.out]
      change w2.ownsRow _ _ _ v es.length (flatEd es) at hv
      rw [hle] at hv
      obtain ⟨Av, cv, rfl⟩ := slice_of_own hv
      have HP := Lib.hid (ppass_any Av m cv es now size w2 hle hm (Sl.of_own hv) o hp)
      clear hv hle hp
      go_wp2_with fail
      refine HP.out.mono ?_
      rintro e w3 ⟨v3, rfl, hv3, hb3⟩
      go_wp2_with fail
      go_ret2
      exact ⟨_, rfl, own_down hv3 hs, hB.trans (hb3.mono hs)⟩
set_option maxHeartbeats 4000000 in
set_option maxRecDepth 100000 in
theorem pEnds_any (A : Option Addr) (n c : Nat) (d : List Ed) (A' : Option Addr) (m c' : Nat) (ids : List Int) (q : Int) (w : World) (hd : d.length = n) (hn : n ≤ 1000000) (hi : ids.length = m) (hm : m ≤ 1000000) (hwf : ∀ q, q < m → (Lit.int .i64 (ids.getD q 0)).wf = true) (h : Sl w w.heap.size 8 A n c (flatEd d)) (h' : Sl w w.heap.size 1 A' m c' (ids.map (Value.int .i64))) (o : Option (List Int)) (ho : endsE d ids q = o) :
    Calls Try.prog 17 #[.slice A n c, .slice A' m c', .int .i64 q] w fun e w' => ∃ v, e = .returned (.tuple #[v, .bool o.isSome]) ∧ w'.ownsRow w.heap.size 3 1 v (o.getD []).length ((o.getD []).map (Value.int .i64)) ∧ Below w.heap.size w w' := by
  obtain ⟨ak, hak⟩ : ∃ b, askE d q 0 0 = b := ⟨_, rfl⟩
  have HAK := Lib.hid hak
  have HD := Lib.hid hd
  have HI := Lib.hid hi
  have HWF := Lib.hid hwf
  have HO := Lib.hid ho
  clear hak hd hi hwf ho
  go_enter Try.func17, Try.ntmps17
  go_wp2_with fail
  refine (pasked_any A n c d q 0 0 w HD.out hn h ak HAK.out).mono ?_
  rintro e w1 ⟨rfl, hb1⟩
  have hl := h.up hb1
  have hl' := h'.up hb1
  cases ak
  · have hov : o = none := by rw [← HO.out]; unfold endsE; rw [if_neg (by rw [HAK.out]; decide)]
    have HOV := Lib.hid hov
    clear hov
    go_wp2_with fail
    go_ret2
    rw [HOV.out]
    exact ⟨_, rfl, World.ownsRow_nil _ _ _ _, hb1⟩
  · have ha := askE_spec.1 HAK.out
    obtain ⟨of, hof⟩ : ∃ x, followE d ids q = x := ⟨_, rfl⟩
    have HOF := Lib.hid hof
    have HFO := Lib.hid (pfollow_any A n c d A' m c' ids q w1 HD.out hn HI.out hm HWF.out hl hl' ha.2.2.2 ha.1.1 of hof)
    clear hof ha hl hl' h h'
    go_wp2_with fail
    refine HFO.out.mono ?_
    rintro e w2 ⟨v, rfl, hv, hb2⟩
    have hB := hb1.trans (hb2.mono hb1.size)
    have hs := hB.size
    clear hb1 hb2 HFO
    cases of with
    | none =>
      have hov : o = none := by rw [← HO.out]; unfold endsE; rw [if_pos HAK.out, HOF.out]; rfl
      have HOV := Lib.hid hov
      clear hov
      go_wp2_with fail
      go_ret2
      rw [HOV.out]
      exact ⟨_, rfl, World.ownsRow_nil _ _ _ _, hB⟩
    | some es =>
      have hle : es.length = m := by rw [followE_len HOF.out]; exact HI.out
      have hov : o = some (nodesE q es) := by rw [← HO.out, endsE_of HAK.out HOF.out]
      have HOV := Lib.hid hov
      change w2.ownsRow _ _ _ v es.length (flatEd es) at hv
      rw [hle] at hv
      obtain ⟨Av, cv, rfl⟩ := slice_of_own hv
      have HP := Lib.hid (pends_any Av m cv es q w2 hle hm (Sl.of_own hv))
      have HLE := Lib.hid hle
      clear hv hle hov
      go_wp2_with fail
      refine HP.out.mono ?_
      rintro e w3 ⟨v3, rfl, hv3, hb3⟩
      go_wp2_with fail
      go_ret2
      rw [HOV.out]
      refine ⟨_, rfl, ?_, hB.trans (hb3.mono hs)⟩
      change w3.ownsRow _ _ _ v3 (nodesE q es).length ((nodesE q es).map _)
      rw [nodesE_len, HLE.out]
      exact own_down hv3 hs
def hopsO (o : Option (List Hp × Int)) : List Hp := (o.map Prod.fst).getD []
def arrO (o : Option (List Hp × Int)) : Int := (o.map Prod.snd).getD 0
end Go.Proofs.Ytblihpghalhjoaa
