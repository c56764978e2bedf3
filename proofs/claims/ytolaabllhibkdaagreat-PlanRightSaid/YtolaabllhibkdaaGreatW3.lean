/- Contracts and plain facts, several texts of mine in one: Contacts3, Contacts4, Contacts5, Contacts6, Small06, ContactsMath, ContactsAct, Ranges, Ranges2, Ranges3, Ranges4, Ranges5, Ranges6, Ranges7. No condition. -/
import Derived.Test.YtolaabllhibkdaaGreatW2
import Derived.StillTailTactics
import Derived.Deep.RegionHeld3

/- Package contacts: Add, Change. No condition. -/
namespace Go.Proofs.YtolaabllhibkdaaGreat.Kc
open Go.ChangeShapes Go.WideShapes Go.ChangeAt Go.RowKit Go.Sort
set_option linter.unusedSimpArgs false
set_option linter.unusedVariables false
set_option maxHeartbeats 1000000 in
set_option maxRecDepth 100000 in
theorem add_no (A : Option Addr) (n c : Nat) (d : List Co) (r : Co) (w : World) (q : Int) (hd : d.length = n) (hn : n ≤ 1000000) (h : Sl w w.heap.size 6 A n c (flatCo d)) (hq : mayC d r = q) (hq0 : q ≠ 0) :
    Calls Tryz.prog 102 #[.slice A n c, .agg #[.int .i64 r.id, .int .i64 r.fr, .int .i64 r.tn, .int .i64 r.st, .int .i64 r.en, .int .i64 r.rt]] w fun e w' => ∃ v, e = .returned (.tuple #[v, .int .i64 q]) ∧ w'.ownsRow w.heap.size 33 6 v n (flatCo d) ∧ Below w.heap.size w w' := by
  have hBa : Below w.heap.size w (w.alloc (.cells #[.int .i64 r.id, .int .i64 r.fr, .int .i64 r.tn, .int .i64 r.st, .int .i64 r.en, .int .i64 r.rt] 33)) := by (repeat (first | exact Below.refl _ _ | refine Below.alloc ?_ (by first | omega | (simp; done) | (simp; omega)) _ | refine Below.setCell ?_ (by first | omega | (simp; done) | (simp; omega)) _ | refine Below.drew ?_))
  have hs := h.up hBa
  have HD := Lib.hid hd
  have HQ := Lib.hid hq
  have hqb : (q != 0) = true := by simpa using hq0
  have hsz : w.heap.size < (w.alloc (.cells #[.int .i64 r.id, .int .i64 r.fr, .int .i64 r.tn, .int .i64 r.st, .int .i64 r.en, .int .i64 r.rt] 33)).heap.size := by simp
  clear h hd hq hq0
  go_enter Tryz.func102, Tryz.ntmps102
  go_wp2_with fail
  generalize w.alloc (.cells #[.int .i64 r.id, .int .i64 r.fr, .int .i64 r.tn, .int .i64 r.st, .int .i64 r.en, .int .i64 r.rt] 33) = w2 at *
  refine (HQ.out ▸ mayAdd_any A n c d r w2 HD.out hn hs).mono ?_
  rintro e w3 ⟨rfl, hb3⟩
  replace hs := hs.up hb3
  replace hBa := hBa.trans (hb3.mono hBa.size)
  clear hb3
  go_wp2_with fail
  refine (cloneCo A n c d w3 HD.out hn hs).mono ?_
  rintro e w4 ⟨v, rfl, hown, hb4⟩
  have hown5 := own_down (base' := w.heap.size) hown hBa.size
  replace hBa := hBa.trans (hb4.mono hBa.size)
  clear hown hb4 hs
  obtain ⟨A5, c5, rfl⟩ := slice_of_own hown5
  go_wp2
  go_ret2
  exact ⟨_, rfl, hown5, hBa⟩
theorem concat3Co (g cO : Nat) (T : TypeId) (A0 A1 A2 : Option Addr) (n0 n1 n2 c0 c1 c2 : Nat) (d0 d1 d2 : List Co) (w : World) (hd0 : d0.length = n0) (hd1 : d1.length = n1) (hd2 : d2.length = n2) (hn : n0 + n1 + n2 ≤ 1000000)
    (hO : Blok w g T #[.slice A0 n0 c0, .slice A1 n1 c1, .slice A2 n2 c2]) (h0 : Sl w w.heap.size 6 A0 n0 c0 (flatCo d0)) (h1 : Sl w w.heap.size 6 A1 n1 c1 (flatCo d1)) (h2 : Sl w w.heap.size 6 A2 n2 c2 (flatCo d2)) :
    Calls Tryz.prog 135 #[.slice (some ⟨g, 0, none⟩) 3 cO] w fun e w' => ∃ v, e = .returned v ∧ w'.ownsRow w.heap.size 33 6 v (n0 + n1 + n2) (flatCo (d0 ++ d1 ++ d2)) ∧ Below w.heap.size w w' := by
  have e3 : catCo (fun k => if k = 0 then d0 else if k = 1 then d1 else d2) 3 = d0 ++ d1 ++ d2 := by simp [catCo]
  have h := concatCo g 3 cO (fun k => if k = 0 then A0 else if k = 1 then A1 else A2) (fun k => if k = 0 then n0 else if k = 1 then n1 else n2) (fun k => if k = 0 then c0 else if k = 1 then c1 else c2) (fun k => if k = 0 then d0 else if k = 1 then d1 else d2) w (by omega)
    (fun k hk => by
      have h3 : k = 0 ∨ k = 1 ∨ k = 2 := by omega
      rcases h3 with rfl | rfl | rfl <;> simpa) (by rw [e3]; simp; omega)
    (fun k hk => by
      have h3 : k = 0 ∨ k = 1 ∨ k = 2 := by omega
      rcases h3 with rfl | rfl | rfl <;> (rw [hO.cell]; simp))
    (fun k hk => by
      have h3 : k = 0 ∨ k = 1 ∨ k = 2 := by omega
      rcases h3 with rfl | rfl | rfl <;> simpa)
  rw [e3] at h
  refine h.mono ?_
  rintro e w' ⟨v, rfl, ho, hb⟩
  have hl : (d0 ++ d1 ++ d2).length = n0 + n1 + n2 := by simp; omega
  rw [hl] at ho
  exact ⟨v, rfl, ho, hb⟩
set_option maxHeartbeats 2000000 in
set_option maxRecDepth 100000 in
theorem add_yes (A : Option Addr) (n c : Nat) (d : List Co) (r : Co) (w : World) (hd : d.length = n) (hn : n ≤ 1000000 - 1) (h : Sl w w.heap.size 6 A n c (flatCo d)) (hq : mayC d r = 0) :
    Calls Tryz.prog 102 #[.slice A n c, .agg #[.int .i64 r.id, .int .i64 r.fr, .int .i64 r.tn, .int .i64 r.st, .int .i64 r.en, .int .i64 r.rt]] w fun e w' => ∃ v i, e = .returned (.tuple #[v, .int .i64 0]) ∧ i ≤ n ∧ (i = 0 ∨ cmpC (gCo d (i - 1)) r < 0) ∧ (i = n ∨ 0 ≤ cmpC (gCo d i) r) ∧ w'.ownsRow w.heap.size 33 6 v (n + 1) (flatCo (d.take i ++ [r] ++ d.drop i)) ∧ Below w.heap.size w w' := by
  have hBa : Below w.heap.size w (w.alloc (.cells #[.int .i64 r.id, .int .i64 r.fr, .int .i64 r.tn, .int .i64 r.st, .int .i64 r.en, .int .i64 r.rt] 33)) := by (repeat (first | exact Below.refl _ _ | refine Below.alloc ?_ (by first | omega | (simp; done) | (simp; omega)) _ | refine Below.setCell ?_ (by first | omega | (simp; done) | (simp; omega)) _ | refine Below.drew ?_))
  have hX := Blok.new w 33 #[.int .i64 r.id, .int .i64 r.fr, .int .i64 r.tn, .int .i64 r.st, .int .i64 r.en, .int .i64 r.rt]
  have hs := h.up hBa
  have HD := Lib.hid hd
  have HQ := Lib.hid hq
  have hcap := h.cap
  have hmax := h.max
  unfold maxLen at hmax
  have hsz : w.heap.size < (w.alloc (.cells #[.int .i64 r.id, .int .i64 r.fr, .int .i64 r.tn, .int .i64 r.st, .int .i64 r.en, .int .i64 r.rt] 33)).heap.size := by simp
  clear h hd hq
  go_enter Tryz.func102, Tryz.ntmps102
  go_wp2_with fail
  generalize w.alloc (.cells #[.int .i64 r.id, .int .i64 r.fr, .int .i64 r.tn, .int .i64 r.st, .int .i64 r.en, .int .i64 r.rt] 33) = w2 at *
  refine (HQ.out ▸ mayAdd_any A n c d r w2 HD.out (by omega) hs).mono ?_
  rintro e w3 ⟨rfl, hb3⟩
  replace hs := hs.up hb3
  replace hX := hX.below hb3 hX.lt
  replace hBa := hBa.trans (hb3.mono hBa.size)
  clear hb3
  have hx0 : w3.cell? ⟨w.heap.size, 0, none⟩ = some (.int .i64 r.id) := hX.cell 0
  have hx1 : w3.cell? ⟨w.heap.size, 1, none⟩ = some (.int .i64 r.fr) := hX.cell 1
  have hx2 : w3.cell? ⟨w.heap.size, 2, none⟩ = some (.int .i64 r.tn) := hX.cell 2
  have hx3 : w3.cell? ⟨w.heap.size, 3, none⟩ = some (.int .i64 r.st) := hX.cell 3
  have hx4 : w3.cell? ⟨w.heap.size, 4, none⟩ = some (.int .i64 r.en) := hX.cell 4
  have hx5 : w3.cell? ⟨w.heap.size, 5, none⟩ = some (.int .i64 r.rt) := hX.cell 5
  go_wp2_with fail
  clear hx0 hx1 hx2 hx3 hx4 hx5
  refine (binaryCo A n c d r _ _ _ w3 HD.out (by omega) hs (cmp_contacts r w3)).mono ?_
  rintro e w4 ⟨i, b, rfl, hi, hl, hu, hbv, hb4⟩
  have HL := Lib.hid hl
  have HU := Lib.hid hu
  replace hs := hs.up hb4
  replace hX := hX.below hb4 hX.lt
  replace hBa := hBa.trans (hb4.mono hBa.size)
  clear hb4 hl hu hbv
  have hx0 : w4.cell? ⟨w.heap.size, 0, none⟩ = some (.int .i64 r.id) := hX.cell 0
  have hx1 : w4.cell? ⟨w.heap.size, 1, none⟩ = some (.int .i64 r.fr) := hX.cell 1
  have hx2 : w4.cell? ⟨w.heap.size, 2, none⟩ = some (.int .i64 r.tn) := hX.cell 2
  have hx3 : w4.cell? ⟨w.heap.size, 3, none⟩ = some (.int .i64 r.st) := hX.cell 3
  have hx4 : w4.cell? ⟨w.heap.size, 4, none⟩ = some (.int .i64 r.en) := hX.cell 4
  have hx5 : w4.cell? ⟨w.heap.size, 5, none⟩ = some (.int .i64 r.rt) := hX.cell 5
  have hiI : (i : Int) ≤ (n : Int) := by omega
  have hic : i ≤ c := by omega
  have hicI : (i : Int) ≤ (c : Int) := by omega
  have hs1 := hs.upto hi
  have hs2 := hs.from_ hi
  rw [flatCo_take] at hs1
  rw [flatCo_drop] at hs2
  go_wp2_with fail
  have hdl : (d.drop i).length = n - i := by rw [List.length_drop, HD.out]
  have hdt : (d.take i).length = i := by rw [List.length_take, HD.out]; omega
  have HDL := Lib.hid hdl
  have HDT := Lib.hid hdt
  clear hdl hdt hX hs
  go_region_law (refine step_call rfl 135 #[.tmp 31] _ rfl #[.slice (some ⟨w4.heap.size + 1, 0, none⟩) 3 3] (by simp [Act.eval, Act.put]) Tryz.func135 rfl rfl ?_; refine Calls.mono (concat3Co (w4.heap.size + 1) 3 22 A (some ⟨w4.heap.size, 0, none⟩) _ i 1 (n - i) c 1 (c - i) (d.take i) [r] (d.drop i) _ HDT.out rfl HDL.out (by omega) (by have h := Blok.new (w4.alloc (.cells #[.int .i64 r.id, .int .i64 r.fr, .int .i64 r.tn, .int .i64 r.st, .int .i64 r.en, .int .i64 r.rt] 33)) 22 #[.slice A i c, .slice (some ⟨w4.heap.size, 0, none⟩) 1 1, .slice (if c = i then A else Option.map (fun x => x.add (i * 6)) A) (n - i) (c - i)]; rw [World.size_alloc] at h; exact h) (hs1.up (by (repeat (first | exact Below.refl _ _ | refine Below.alloc ?_ (by first | omega | (simp; done) | (simp; omega)) _ | refine Below.setCell ?_ (by first | omega | (simp; done) | (simp; omega)) _ | refine Below.drew ?_)))) (by exact Sl.of_own ((own_lit w4 0 33 6 1 #[.int .i64 r.id, .int .i64 r.fr, .int .i64 r.tn, .int .i64 r.st, .int .i64 r.en, .int .i64 r.rt] (by omega) rfl (by simp [maxLen])).alloc _)) (hs2.up (by (repeat (first | exact Below.refl _ _ | refine Below.alloc ?_ (by first | omega | (simp; done) | (simp; omega)) _ | refine Below.setCell ?_ (by first | omega | (simp; done) | (simp; omega)) _ | refine Below.drew ?_))))) ?_; rintro e w5 ⟨v, rfl, hown, hb5⟩; refine ⟨_, rfl, ?_⟩)
  have hfin : Below w.heap.size w w5 := (hBa.trans (Below.mono (by (repeat (first | exact Below.refl _ _ | refine Below.alloc ?_ (by first | omega | (simp; done) | (simp; omega)) _ | refine Below.setCell ?_ (by first | omega | (simp; done) | (simp; omega)) _ | refine Below.drew ?_))) hBa.size)).trans (hb5.mono (by have := hBa.size; simp; omega))
  have hown6 := own_down (base' := w.heap.size) hown (by have := hBa.size; simp; omega)
  rw [show i + 1 + (n - i) = n + 1 from by omega] at hown6
  clear hown hb5 hs1 hs2 hx0 hx1 hx2 hx3 hx4 hx5
  obtain ⟨A6, c6, rfl⟩ := slice_of_own hown6
  generalize (if c = i then A else Option.map (fun x => x.add (i * 6)) A) = A30
  go_wp2
  go_ret2
  exact ⟨_, i, rfl, hi, HL.out, HU.out, hown6, hfin⟩
def withRt (p : Co) (x : Int) : Co := ⟨p.id, p.fr, p.tn, p.st, p.en, x⟩
theorem flatCo_rt : ∀ (d : List Co) (i : Nat) (x : Int), i < d.length → (flatCo d).set (i * 6 + 5) (.int .i64 x) = flatCo (d.set i (withRt (gCo d i) x))
  | p :: d, 0, x, _ => rfl
  | p :: d, i + 1, x, h => by
    rw [flatCo_cons, show (i + 1) * 6 + 5 = i * 6 + 5 + 1 + 1 + 1 + 1 + 1 + 1 from by omega]
    simp only [List.set_cons_succ]
    rw [flatCo_rt d i x (by simpa using h)]
    rfl
set_option maxHeartbeats 2000000 in
set_option maxRecDepth 100000 in
theorem change_arg (A : Option Addr) (n c : Nat) (d : List Co) (id rt : Int) (w : World) (hd : d.length = n) (hn : n ≤ 1000000) (h : Sl w w.heap.size 6 A n c (flatCo d)) (ho : inB rt 1 2147483647 = false) :
    Calls Tryz.prog 104 #[.slice A n c, .int .i64 id, .int .i64 rt] w fun e w' => ∃ v, e = .returned (.tuple #[v, .int .i64 1]) ∧ w'.ownsRow w.heap.size 33 6 v n (flatCo d) ∧ Below w.heap.size w w' := by
  have HD := Lib.hid hd
  have HO := Lib.hid ho
  clear hd ho
  go_enter Tryz.func104, Tryz.ntmps104
  go_wp2_with fail
  refine (cloneCo A n c d w HD.out hn h).mono ?_
  rintro e w3 ⟨v, rfl, hown5, hb3⟩
  clear h
  obtain ⟨A5, c5, rfl⟩ := slice_of_own hown5
  go_wp2_with fail
  refine (in_is false HO.out w3).mono ?_
  rintro e w4 ⟨rfl, rfl⟩
  go_wp2
  go_ret2
  exact ⟨_, rfl, hown5, hb3⟩
set_option maxHeartbeats 2000000 in
set_option maxRecDepth 100000 in
theorem change_none (A : Option Addr) (n c : Nat) (d : List Co) (id rt : Int) (w : World) (hd : d.length = n) (hn : n ≤ 1000000) (h : Sl w w.heap.size 6 A n c (flatCo d)) (ho : inB rt 1 2147483647 = true) (hq : ∀ j, j < n → ((gCo d j).id == id) = false) :
    Calls Tryz.prog 104 #[.slice A n c, .int .i64 id, .int .i64 rt] w fun e w' => ∃ v, e = .returned (.tuple #[v, .int .i64 6]) ∧ w'.ownsRow w.heap.size 33 6 v n (flatCo d) ∧ Below w.heap.size w w' := by
  have HD := Lib.hid hd
  have HO := Lib.hid ho
  have HQ := Lib.hid hq
  clear hd ho hq
  go_enter Tryz.func104, Tryz.ntmps104
  go_wp2_with fail
  refine (cloneCo A n c d w HD.out hn h).mono ?_
  rintro e w3 ⟨v, rfl, hown5, hBa⟩
  clear h
  obtain ⟨A5, c5, rfl⟩ := slice_of_own hown5
  go_wp2_with fail
  refine (in_is true HO.out w3).mono ?_
  rintro e w4 ⟨rfl, rfl⟩
  go_wp2_with fail
  refine (has_any id w3).mono ?_
  rintro e w4 ⟨g, rfl, hG, hg0, hbb⟩
  have hown6 := hown5.kept (grown_of_below (row := some w3.heap.size) hbb) (.inr (fun e => by have := (hown5.lt _ e).2; omega))
  replace hBa := hBa.trans (hbb.mono hBa.size)
  go_wp2_with fail
  refine (indexCo A5 n c5 d _ _ none _ w4 HD.out hn (Sl.of_own hown6) (pred_has id g none w4 hG (by simp)) n (Nat.le_refl _) HQ.out (fun h => by omega)).mono ?_
  rintro e w5 ⟨rfl, hb5⟩
  rw [idxOf_no (by omega : ¬ n < n)]
  have hown7 := hown6.kept (grown_of_below (row := some w4.heap.size) hb5) (.inr (fun e => by have := (hown6.lt _ e).2; omega))
  replace hBa := hBa.trans (hb5.mono hBa.size)
  clear hown5 hown6 hb5 hbb hG
  go_wp2
  go_ret2
  exact ⟨_, rfl, hown7, hBa⟩
set_option maxHeartbeats 2000000 in
set_option maxRecDepth 100000 in
theorem change_yes (A : Option Addr) (n c : Nat) (d : List Co) (id rt : Int) (w : World) (q : Nat) (hd : d.length = n) (hn : n ≤ 1000000) (h : Sl w w.heap.size 6 A n c (flatCo d)) (ho : inB rt 1 2147483647 = true) (hqn : q < n) (hq : ∀ j, j < q → ((gCo d j).id == id) = false) (hh : ((gCo d q).id == id) = true) :
    Calls Tryz.prog 104 #[.slice A n c, .int .i64 id, .int .i64 rt] w fun e w' => ∃ v, e = .returned (.tuple #[v, .int .i64 0]) ∧ w'.ownsRow w.heap.size 33 6 v n (flatCo (d.set q (withRt (gCo d q) rt))) ∧ Below w.heap.size w w' := by
  have HD := Lib.hid hd
  have HO := Lib.hid ho
  have HQ := Lib.hid hq
  have HH := Lib.hid hh
  clear hd ho hq hh
  go_enter Tryz.func104, Tryz.ntmps104
  go_wp2_with fail
  refine (cloneCo A n c d w HD.out hn h).mono ?_
  rintro e w3 ⟨v, rfl, hown5, hBa⟩
  clear h
  obtain ⟨g5, c5, rfl, hnc5, hcm5, hgb5, hgl5⟩ := own_at hown5 (by omega)
  unfold maxLen at hcm5
  go_wp2_with fail
  refine (in_is true HO.out w3).mono ?_
  rintro e w4 ⟨rfl, rfl⟩
  go_wp2_with fail
  refine (has_any id w3).mono ?_
  rintro e w4 ⟨g, rfl, hG, hg0, hbb⟩
  have hown6 := hown5.kept (grown_of_below (row := some w3.heap.size) hbb) (.inr (fun e => by have := (hown5.lt _ e).2; omega))
  replace hBa := hBa.trans (hbb.mono hBa.size)
  go_wp2_with fail
  refine (indexCo _ n c5 d _ _ none _ w4 HD.out hn (Sl.of_own hown6) (pred_has id g none w4 hG (by simp)) q (by omega) HQ.out (fun _ => HH.out)).mono ?_
  rintro e w5 ⟨rfl, hb5⟩
  rw [idxOf_yes hqn]
  have hown7 := hown6.kept (grown_of_below (row := some w4.heap.size) hb5) (.inr (fun e => by have := (hown6.lt _ e).2; omega))
  replace hBa := hBa.trans (hb5.mono hBa.size)
  clear hown5 hown6 hb5 hbb hG
  have hqi : (0 : Int) ≤ (q : Int) := by omega
  have hqnI : (q : Int) < (n : Int) := by omega
  have hc4 := (ownCo_at hown7 HD.out hqn).2.2.2.2.2
  have hf4 := hown7.frozenAt (q * 6 + 5)
  obtain ⟨hst, hgr⟩ := hown7.stored (q * 6 + 5) (.int .i64 rt)
  rw [flatCo_rt d q rt (by have := HD.out; omega)] at hst
  clear hown7
  go_wp2
  go_ret2
  exact ⟨_, rfl, hst, Below.grown hBa hgr hBa.size (fun k hk => by simp at hk; omega)⟩
end Go.Proofs.YtolaabllhibkdaaGreat.Kc

/- Package contacts: Right. No condition. -/
namespace Go.Proofs.YtolaabllhibkdaaGreat.Kc
open Go.ChangeShapes Go.WideShapes Go.ChangeAt Go.RowKit Go.Sort
set_option linter.unusedSimpArgs false
set_option linter.unusedVariables false
theorem run_makeMap_hint {P : Program} (t k e : TypeId) (kd : IntKind) (n : Int) (ht : P.underlying t = some (.map k e)) (w : World) :
    (Instr.makeMap t (some (.int kd n))).run P w = .ok (.map (some w.heap.size)) (w.alloc (.map #[] 0)) := by
  simp [Instr.makeMap, run_underlying ht]; rfl
def idIn (l : List Co) (id : Int) : Bool := l.any (fun o => o.id == id)
def stepC (d : List Co) (i : Nat) : Bool := okC (gCo d i) && !idIn (d.take i) (gCo d i).id && (i == 0 || (decide (cmpC (gCo d (i - 1)) (gCo d i) < 0) && !overC (gCo d (i - 1)) (gCo d i)))
def rightC (d : List Co) : Bool := decide (d.length ≤ 4096) && (List.range d.length).all (stepC d)
theorem rightC_true {d : List Co} : rightC d = true ↔ d.length ≤ 4096 ∧ ∀ i, i < d.length → stepC d i = true := by
  simp [rightC, List.all_eq_true]
theorem rightC_false {d : List Co} {i : Nat} (hi : i < d.length) (h : stepC d i = false) : rightC d = false := by
  rw [Bool.eq_false_iff]
  intro e
  rw [(rightC_true.1 e).2 i hi] at h
  cases h
theorem okC_wf {x : Co} (h : okC x = true) : (Lit.int .i64 x.id).wf = true := by
  unfold okC contactB inB at h
  simp only [Bool.and_eq_true, decide_eq_true_eq] at h
  exact wfI (by omega)
theorem idIn_next {d : List Co} {k : Nat} (h : k < d.length) (j : Int) : idIn (d.take (k + 1)) j = (if j = (gCo d k).id then true else idIn (d.take k) j) := by
  unfold idIn
  rw [take_nextCo h, List.any_append]
  by_cases e : j = (gCo d k).id
  · subst e; simp
  · rw [if_neg e]; simp; intro e2; exact absurd e2.symm e
set_option maxHeartbeats 4000000 in
set_option maxRecDepth 100000 in
theorem right_any (A : Option Addr) (n c : Nat) (d : List Co) (w : World) (hd : d.length = n) (hn : n ≤ 1000000) (h : Sl w w.heap.size 6 A n c (flatCo d)) :
    Calls Tryz.prog 34 #[.slice A n c] w fun e w' => e = .returned (.bool (rightC d)) ∧ Below w.heap.size w w' := by
  have HD := Lib.hid hd
  by_cases hbig : 4096 < n
  · have hf : rightC d = false := by
      rw [Bool.eq_false_iff]; intro e; have := (rightC_true.1 e).1; omega
    have HF := Lib.hid hf
    clear hf hd
    go_enter Tryz.func34, Tryz.ntmps34
    go_wp2
    go_ret
    exact ⟨by rw [HF.out]; rfl, Below.refl _ _⟩
  · clear hd
    have hmk := run_makeMap_hint (P := Tryz.prog) 85 3 4 .i64 (n : Int) Tryz.underlying85 w
    obtain ⟨b0, hb0⟩ : ∃ b0, w.heap.size = b0 := ⟨_, rfl⟩
    rw [hb0] at hmk
    have HB0 := Lib.hid hb0
    have hS0 := SetW.made w
    rw [hb0] at hS0
    have hB0 : Below w.heap.size w (w.alloc (.map #[] 0)) := (Below.refl _ _).alloc (Nat.le_refl _) _
    have h0 := h.below hB0
    clear hb0 h
    go_enter Tryz.func34, Tryz.ntmps34
    go_wp2
    clear hmk
    go_loopw [14] (fun i wr => ∃ k : Nat, k ≤ n ∧ i = .int .i64 k ∧ Hid (∀ j, j < k → stepC d j = true) ∧ Below w.heap.size w wr ∧ SetW wr b0 k (idIn (d.take k)) ∧ Hid (Sl wr w.heap.size 6 A n c (flatCo d))) (fun i _ => n - (intOf i).toNat)
    case atStart => exact ⟨0, by omega, rfl, (fun j hj => by omega), hB0, hS0.congr (fun k _ => by simp [idIn]), h0⟩
    case round =>
      clear hB0 hS0 h0
      obtain ⟨k, hk, rfl, HQ, hB, hS, HL⟩ := hrel
      by_cases hkn : k < n
      · obtain ⟨ad, rfl, hab, c0, c1, c2, c3, c4, c5⟩ := HL.out.lst.atCo HD.out hkn
        have hsw := hB.size
        obtain ⟨x, hx⟩ : ∃ x, gCo d k = x := ⟨_, rfl⟩
        rw [hx] at c0 c1 c2 c3 c4 c5
        have HX := Lib.hid hx
        clear hx
        have hBa : Below wr.heap.size wr (wr.alloc (.cells #[.int .i64 x.id, .int .i64 x.fr, .int .i64 x.tn, .int .i64 x.st, .int .i64 x.en, .int .i64 x.rt] 33)) := by (repeat (first | exact Below.refl _ _ | refine Below.alloc ?_ (by first | omega | (simp; done) | (simp; omega)) _ | refine Below.setCell ?_ (by first | omega | (simp; done) | (simp; omega)) _ | refine Below.drew ?_))
        have hX := Blok.new wr 33 #[.int .i64 x.id, .int .i64 x.fr, .int .i64 x.tn, .int .i64 x.st, .int .i64 x.en, .int .i64 x.rt]
        have hB2 := hB.trans (hBa.mono hB.size)
        have hS2 := hS.below hBa
        have hL2 := HL.out.below (hBa.mono hB.size)
        have hbn : b0 ≠ wr.heap.size := fun e => by have := hS.lt; omega
        go_wp2_with fail
        clear c0 c1 c2 c3 c4 c5 hB hS HL hBa
        generalize wr.alloc (.cells #[.int .i64 x.id, .int .i64 x.fr, .int .i64 x.tn, .int .i64 x.st, .int .i64 x.en, .int .i64 x.rt] 33) = wx at *
        generalize wr.heap.size = bb at *
        cases ho : okC x with
        | false =>
          have HO := Lib.hid ho
          have hf : rightC d = false := rightC_false (i := k) (by have := HD.out; omega) (by unfold stepC; rw [HX.out, ho]; rfl)
          have HF := Lib.hid hf
          clear ho hf hS2 hL2 hX
          refine (okC_call x _ false HO.out).mono ?_
          rintro e w3 ⟨rfl, hb3⟩
          replace hB2 := hB2.trans (hb3.mono hB2.size)
          clear hb3
          go_wp2
          go_ret
          exact ⟨by rw [HF.out]; rfl, hB2⟩
        | true =>
          have HO := Lib.hid ho
          have hwf := okC_wf ho
          obtain ⟨s, hsn⟩ : ∃ s, idIn (d.take k) x.id = s := ⟨_, rfl⟩
          have HSN := Lib.hid hsn
          clear ho hsn
          refine (okC_call x _ true HO.out).mono ?_
          rintro e w3 ⟨rfl, hb3⟩
          have hS3 := hS2.below hb3
          have hX3 := hX.below hb3 hX.lt
          have hL3 := hL2.below (hb3.mono hB2.size)
          have hB3 := hB2.trans (hb3.mono hB2.size)
          have hs3 := hB3.size
          clear hb3 hS2 hX hL2 hB2 hsw
          have hlk := hS3.look hwf
          rw [HSN.out] at hlk
          have x0 : w3.cell? ⟨bb, 0, none⟩ = some (.int .i64 x.id) := hX3.cell 0
          have hbl := hX3.lt
          cases s with
          | true =>
            have hf : rightC d = false := rightC_false (i := k) (by have := HD.out; omega) (by unfold stepC; rw [HX.out, HSN.out]; simp)
            have HF := Lib.hid hf
            clear hf hS3 hL3 hX3
            go_wp2
            go_ret
            exact ⟨by rw [HF.out]; rfl, hB3⟩
          | false =>
            go_wp2_with (at_mapUpdate; refine wpList_put_set rfl _ _ _ rfl b0 k _ x.id true rfl hS3 (by unfold maxLen; omega) rfl hwf rfl ?_; intro w4 hS4 hg4)
            try simp only [Act.put, List.setIfInBounds_toArray, List.set_cons_succ, List.set_cons_zero]
            clear hlk x0
            have hX4 := hX3.grown hg4 (fun e => hbn (by simpa using e.symm))
            have hB4 : Below w.heap.size w w4 := hB3.grown hg4 hs3 (fun j hj => by have := HB0.out; simp at hj; omega)
            have hL4 : Sl w4 w.heap.size 6 (some ad) n c (flatCo d) := hL3.below (Below.grown (Below.refl _ _) hg4 hs3 (fun j hj => by have := HB0.out; simp at hj; omega))
            have hS5 : SetW w4 b0 (k + 1) (idIn (d.take (k + 1))) := hS4.congr (fun j _ => by rw [idIn_next (by have := HD.out; omega), HX.out])
            have hs4 := hB4.size
            have hbl4 := hX4.lt
            have habw : ad.block < w4.heap.size := by omega
            have x0 : w4.cell? ⟨bb, 0, none⟩ = some (.int .i64 x.id) := hX4.cell 0
            have x1 : w4.cell? ⟨bb, 1, none⟩ = some (.int .i64 x.fr) := hX4.cell 1
            have x2 : w4.cell? ⟨bb, 2, none⟩ = some (.int .i64 x.tn) := hX4.cell 2
            have x3 : w4.cell? ⟨bb, 3, none⟩ = some (.int .i64 x.st) := hX4.cell 3
            have x4 : w4.cell? ⟨bb, 4, none⟩ = some (.int .i64 x.en) := hX4.cell 4
            have x5 : w4.cell? ⟨bb, 5, none⟩ = some (.int .i64 x.rt) := hX4.cell 5
            clear hS3 hS4 hg4 hX3 hL3 hB3 hs3 hbl hX4
            have hcase : k = 0 ∨ ∃ p, k = p + 1 := by cases k with | zero => exact .inl rfl | succ p => exact .inr ⟨p, rfl⟩
            rcases hcase with rfl | ⟨p, rfl⟩
            · have hd0 : decide (((0 : Nat) : Int) > 0) = false := by simp
              have hN : ∀ j, j < 0 + 1 → stepC d j = true := fun j hj => by
                obtain rfl : j = 0 := by omega
                unfold stepC
                rw [HX.out, HO.out, HSN.out]; rfl
              have HN := Lib.hid hN
              clear hN
              have HS5 := Lib.hid hS5
              have HL4 := Lib.hid hL4
              clear hS5 hL4
              have q_x0 := fun d os => cell_regrown x0 d os
              have q_x1 := fun d os => cell_regrown x1 d os
              have q_x2 := fun d os => cell_regrown x2 d os
              have q_x3 := fun d os => cell_regrown x3 d os
              have q_x4 := fun d os => cell_regrown x4 d os
              have q_x5 := fun d os => cell_regrown x5 d os
              try simp only [List.append]
              first | refine wp_region_text_below ?_ | refine wp_region_quiet_below (by kernel_rfl) (by kernel_rfl) ?_
              repeat (go_big_quiet_step ((fail)))
              refine wpQuiet_nil ?_
              intro _ hqw
              obtain ⟨pq, hqw⟩ := hqw
              subst hqw
              clear q_x0 q_x1 q_x2 q_x3 q_x4 q_x5
              have hbel := below_regrown w4 pq.d pq.os
              replace hB4 := hB4.trans (hbel.mono hs4)
              have hS6 := HS5.out.below hbel
              have hL6 := HL4.out.below (hbel.mono hs4)
              clear hbel x0 x1 x2 x3 x4 x5 HS5 HL4
              generalize grow (redrawn w4 pq.d) pq.os = wq at *
              go_wp2
              go_roundw
              case rel => exact ⟨0 + 1, by omega, by go_num, HN.out, hB4, hS6, hL6⟩
              case measure => simp [intOf]; omega
            · have hd0 : decide (((p + 1 : Nat) : Int) > 0) = true := decide_eq_true (by omega)
              obtain ⟨ad', hae, hab', z0, z1, z2, z3, z4, z5⟩ := hL4.lst.atCo HD.out (k := p) (by omega)
              injection hae with hae
              subst hae
              obtain ⟨z, hz⟩ : ∃ z, gCo d p = z := ⟨_, rfl⟩
              rw [hz] at z0 z1 z2 z3 z4 z5
              obtain ⟨y, hy⟩ : ∃ y, cmpC z x = y := ⟨_, rfl⟩
              obtain ⟨v, hv⟩ : ∃ v, overC z x = v := ⟨_, rfl⟩
              have hst : stepC d (p + 1) = (decide (y < 0) && !v) := by
                unfold stepC
                rw [Nat.add_sub_cancel, HX.out, hz, hy, hv, HO.out, HSN.out]; simp
              have HY := Lib.hid hy
              have HV := Lib.hid hv
              have HST := Lib.hid hst
              have HS5 := Lib.hid hS5
              have HL4 := Lib.hid hL4
              clear hz hy hv hst hS5 hL4
              by_cases hy0 : y < 0
              · have hdy : decide (0 ≤ y) = false := by simp; omega
                cases v
                · have hN : ∀ j, j < p + 1 + 1 → stepC d j = true := fun j hj => by
                    by_cases e : j = p + 1
                    · rw [e, HST.out]; simp [hy0]
                    · exact HQ.out j (by omega)
                  have HN := Lib.hid hN
                  clear hN
                  have q_x0 := fun d os => cell_regrown x0 d os
                  have q_x1 := fun d os => cell_regrown x1 d os
                  have q_x2 := fun d os => cell_regrown x2 d os
                  have q_x3 := fun d os => cell_regrown x3 d os
                  have q_x4 := fun d os => cell_regrown x4 d os
                  have q_x5 := fun d os => cell_regrown x5 d os
                  have q_z0 := fun d os => cell_regrown z0 d os
                  have q_z1 := fun d os => cell_regrown z1 d os
                  have q_z2 := fun d os => cell_regrown z2 d os
                  have q_z3 := fun d os => cell_regrown z3 d os
                  have q_z4 := fun d os => cell_regrown z4 d os
                  have q_z5 := fun d os => cell_regrown z5 d os
                  try simp only [List.append]
                  first | refine wp_region_text_below ?_ | refine wp_region_quiet_below (by kernel_rfl) (by kernel_rfl) ?_
                  repeat (go_big_quiet_step ((first | (go_at_call 65; with_reducible exact Calls.regrown_of (HY.out ▸ cmpC_any z x _)) | (go_at_call 66; with_reducible exact Calls.regrown_of (HV.out ▸ overC_any z x _)))))
                  refine wpQuiet_nil ?_
                  intro _ hqw
                  obtain ⟨pq, hqw⟩ := hqw
                  subst hqw
                  clear q_x0 q_x1 q_x2 q_x3 q_x4 q_x5 q_z0 q_z1 q_z2 q_z3 q_z4 q_z5
                  have hbel := below_regrown w4 pq.d pq.os
                  replace hB4 := hB4.trans (hbel.mono hs4)
                  have hS6 := HS5.out.below hbel
                  have hL6 := HL4.out.below (hbel.mono hs4)
                  clear hbel x0 x1 x2 x3 x4 x5 z0 z1 z2 z3 z4 z5 HS5 HL4
                  generalize grow (redrawn w4 pq.d) pq.os = wq at *
                  go_wp2
                  go_roundw
                  case rel => exact ⟨(p + 1) + 1, by omega, by go_num, HN.out, hB4, hS6, hL6⟩
                  case measure => simp [intOf]; omega
                · have hf : rightC d = false := rightC_false (i := p + 1) (by have := HD.out; omega) (by rw [HST.out]; simp)
                  have HF := Lib.hid hf
                  clear hf
                  have q_x0 := fun d os => cell_regrown x0 d os
                  have q_x1 := fun d os => cell_regrown x1 d os
                  have q_x2 := fun d os => cell_regrown x2 d os
                  have q_x3 := fun d os => cell_regrown x3 d os
                  have q_x4 := fun d os => cell_regrown x4 d os
                  have q_x5 := fun d os => cell_regrown x5 d os
                  have q_z0 := fun d os => cell_regrown z0 d os
                  have q_z1 := fun d os => cell_regrown z1 d os
                  have q_z2 := fun d os => cell_regrown z2 d os
                  have q_z3 := fun d os => cell_regrown z3 d os
                  have q_z4 := fun d os => cell_regrown z4 d os
                  have q_z5 := fun d os => cell_regrown z5 d os
                  try simp only [List.append]
                  first | refine wp_region_text_below ?_ | refine wp_region_quiet_below (by kernel_rfl) (by kernel_rfl) ?_
                  repeat (go_big_quiet_step ((first | (go_at_call 65; with_reducible exact Calls.regrown_of (HY.out ▸ cmpC_any z x _)) | (go_at_call 66; with_reducible exact Calls.regrown_of (HV.out ▸ overC_any z x _)))))
                  refine wpQuiet_nil ?_
                  intro _ hqw
                  obtain ⟨pq, hqw⟩ := hqw
                  subst hqw
                  clear q_x0 q_x1 q_x2 q_x3 q_x4 q_x5 q_z0 q_z1 q_z2 q_z3 q_z4 q_z5
                  have hbel := below_regrown w4 pq.d pq.os
                  replace hB4 := hB4.trans (hbel.mono hs4)
                  clear hbel x0 x1 x2 x3 x4 x5 z0 z1 z2 z3 z4 z5 HS5 HL4
                  generalize grow (redrawn w4 pq.d) pq.os = wq at *
                  go_wp2
                  go_ret
                  exact ⟨by rw [HF.out]; rfl, hB4⟩
              · have hdy : decide (0 ≤ y) = true := by simp; omega
                have hf : rightC d = false := rightC_false (i := p + 1) (by have := HD.out; omega) (by rw [HST.out]; simp [hy0])
                have HF := Lib.hid hf
                clear hf
                have q_x0 := fun d os => cell_regrown x0 d os
                have q_x1 := fun d os => cell_regrown x1 d os
                have q_x2 := fun d os => cell_regrown x2 d os
                have q_x3 := fun d os => cell_regrown x3 d os
                have q_x4 := fun d os => cell_regrown x4 d os
                have q_x5 := fun d os => cell_regrown x5 d os
                have q_z0 := fun d os => cell_regrown z0 d os
                have q_z1 := fun d os => cell_regrown z1 d os
                have q_z2 := fun d os => cell_regrown z2 d os
                have q_z3 := fun d os => cell_regrown z3 d os
                have q_z4 := fun d os => cell_regrown z4 d os
                have q_z5 := fun d os => cell_regrown z5 d os
                try simp only [List.append]
                first | refine wp_region_text_below ?_ | refine wp_region_quiet_below (by kernel_rfl) (by kernel_rfl) ?_
                repeat (go_big_quiet_step ((first | (go_at_call 65; with_reducible exact Calls.regrown_of (HY.out ▸ cmpC_any z x _)) | (go_at_call 66; with_reducible exact Calls.regrown_of (HV.out ▸ overC_any z x _)))))
                refine wpQuiet_nil ?_
                intro _ hqw
                obtain ⟨pq, hqw⟩ := hqw
                subst hqw
                clear q_x0 q_x1 q_x2 q_x3 q_x4 q_x5 q_z0 q_z1 q_z2 q_z3 q_z4 q_z5
                have hbel := below_regrown w4 pq.d pq.os
                replace hB4 := hB4.trans (hbel.mono hs4)
                clear hbel x0 x1 x2 x3 x4 x5 z0 z1 z2 z3 z4 z5 HS5 HL4
                generalize grow (redrawn w4 pq.d) pq.os = wq at *
                go_wp2
                go_ret
                exact ⟨by rw [HF.out]; rfl, hB4⟩
      · obtain rfl : k = n := by omega
        have hr : rightC d = true := rightC_true.2 ⟨by have := HD.out; omega, fun i hi => HQ.out i (by have := HD.out; omega)⟩
        have HR := Lib.hid hr
        clear hr
        go_wp2
        go_ret
        exact ⟨by rw [HR.out]; rfl, hB⟩
end Go.Proofs.YtolaabllhibkdaaGreat.Kc

/- Package contacts: Expire's closure, which notes who goes. No condition. -/
namespace Go.Proofs.YtolaabllhibkdaaGreat.Kc
open Go.ChangeShapes Go.WideShapes Go.ChangeAt Go.RowKit Go.Sort
set_option linter.unusedSimpArgs false
set_option linter.unusedVariables false
def overE (now : Int) (x : Co) : Bool := decide (x.en ≤ now)
def goneL (d : List Co) (now : Int) : List Int := (d.filter (overE now)).map (fun x => x.id)
theorem goneL_next {d : List Co} {k : Nat} (now : Int) (h : k < d.length) : goneL (d.take (k + 1)) now = goneL (d.take k) now ++ if overE now (gCo d k) = true then [(gCo d k).id] else [] := by
  unfold goneL
  rw [take_nextCo h, List.filter_append, List.map_append]
  congr 1
  cases h2 : overE now (gCo d k) <;> simp [List.filter_cons, h2]
theorem goneL_len (d : List Co) (now : Int) (k : Nat) : (goneL (d.take k) now).length ≤ k := by
  unfold goneL
  rw [List.length_map]
  have := List.length_filter_le (overE now) (d.take k)
  rw [List.length_take] at this
  omega
theorem infoI : (Tryz.prog.info? 3).map (fun i => (i.zero, i.size, i.bytes)) = some (some (.int .i64 0), 1, 8) := by kernel_rfl
/-- Who has gone till now, as the closure keeps it. -/
def GoneS (gN gg g0 : Nat) (now : Int) (l : List Int) (W : World) : Prop :=
  Blok W gN 3 #[.int .i64 now] ∧ ∃ v, Blok W gg 47 #[v] ∧ W.ownsRow (gg + 1) 3 1 v l.length (l.map (Value.int .i64)) ∧ v.ownBlock ≠ some g0
def GoneR (gN gg g0 : Nat) (now : Int) (d : List Co) (k : Nat) (W : World) : Prop := GoneS gN gg g0 now (goneL (d.take k) now) W
def SameFrom (W w w' : World) : Prop := ∀ b, W.heap.size ≤ b → b < w.heap.size → w'.heap[b]? = w.heap[b]?
def SameAt (g0 : Nat) (w w' : World) : Prop := w'.heap[g0]? = w.heap[g0]?
theorem ints_one (l : List Int) : ∀ u ∈ l.map (Value.int .i64), u.oneCell' = true := by
  intro u hu
  obtain ⟨x, _, rfl⟩ := List.mem_map.1 hu
  rfl
set_option maxHeartbeats 2000000 in
set_option maxRecDepth 100000 in
theorem expire1_any (now : Int) (gN gg g0 base : Nat) (d : List Co) (k : Nat) (W w : World) (hk : k < d.length) (hdl : d.length ≤ 1000000) (hR : GoneR gN gg g0 now d k W) (hb : Below W.heap.size W w) (hg0 : g0 < W.heap.size) (hbase : base ≤ gg) (hNg : gN ≠ gg) (h0g : g0 ≠ gg) (h0N : g0 ≠ gN) (hNl : gN ≤ gg) :
    Calls Tryz.prog 89 (#[.agg #[.int .i64 (gCo d k).id, .int .i64 (gCo d k).fr, .int .i64 (gCo d k).tn, .int .i64 (gCo d k).st, .int .i64 (gCo d k).en, .int .i64 (gCo d k).rt]] ++ #[.pointer (some ⟨gN, 0, none⟩), .pointer (some ⟨gg, 0, none⟩)]) w fun e w' => e = .returned (.bool (overE now (gCo d k))) ∧ GoneR gN gg g0 now d (k + 1) w' ∧ Below base w w' ∧ SameAt g0 w w' ∧ SameFrom W w w' := by
  obtain ⟨hN, v, hG, hown, hne⟩ := hR
  have hggW := hG.lt
  have hvW := hown.lt
  have hbs := hb.size
  have hN1 := hN.below hb hN.lt
  have hG1 := hG.below hb hG.lt
  have hown1 := hown.kept (grown_of_below (row := some W.heap.size) hb) (.inr (fun e => by have := (hvW _ e).2; omega))
  obtain ⟨x, hx⟩ : ∃ x, gCo d k = x := ⟨_, rfl⟩
  have hnext := goneL_next now hk
  rw [hx] at hnext ⊢
  have hlen := goneL_len d now k
  have HK := Lib.hid hnext
  clear hnext hx hN hG hown hb
  obtain ⟨l, hl⟩ : ∃ l, goneL (d.take k) now = l := ⟨_, rfl⟩
  obtain ⟨l', hl'⟩ : ∃ l', goneL (d.take (k + 1)) now = l' := ⟨_, rfl⟩
  have HK2 : Hid (l' = l ++ if overE now x = true then [x.id] else []) := by
    have := HK.out
    rw [hl, hl'] at this
    exact this
  rw [hl] at hown1 hlen
  have hR' : GoneR gN gg g0 now d (k + 1) = GoneS gN gg g0 now l' := by funext w'; unfold GoneR; rw [hl']
  rw [hR']
  clear hl hl' HK hR'
  have hBa : Below w.heap.size w (w.alloc (.cells #[.int .i64 x.id, .int .i64 x.fr, .int .i64 x.tn, .int .i64 x.st, .int .i64 x.en, .int .i64 x.rt] 33)) := by (repeat (first | exact Below.refl _ _ | refine Below.alloc ?_ (by first | omega | (simp; done) | (simp; omega)) _ | refine Below.setCell ?_ (by first | omega | (simp; done) | (simp; omega)) _ | refine Below.drew ?_))
  have hN2 := hN1.below hBa hN1.lt
  have hG2 := hG1.below hBa hG1.lt
  have hown2 := hown1.alloc (.cells #[.int .i64 x.id, .int .i64 x.fr, .int .i64 x.tn, .int .i64 x.st, .int .i64 x.en, .int .i64 x.rt] 33)
  have hNlt := hN1.lt
  have hGlt := hG1.lt
  have c0 : w.cell? ⟨gN, 0, none⟩ = some (.int .i64 now) := hN1.cell 0
  have c1 : w.cell? ⟨gg, 0, none⟩ = some v := hG1.cell 0
  have f1 := hG1.free 0
  by_cases ho : x.en ≤ now
  · have ho1 : overE now x = true := by simp [overE, ho]
    have hl' : l' = l ++ [x.id] := by rw [HK2.out, if_pos ho1]
    rw [ho1]
    have hd : decide (x.en ≤ now) = true := by simp [ho]
    clear HK2 ho1 ho
    obtain ⟨i0, hi0, hz0, hz1, hz2⟩ := info_parts infoI
    have HL := Lib.hid hl'
    clear hl' hN1 hG1 hown1
    obtain ⟨A, c, rfl⟩ := slice_of_own hown2
    obtain ⟨ln, hln⟩ : ∃ ln, l.length = ln := ⟨_, rfl⟩
    rw [hln] at hown2 c1 hG2 hlen hne hvW
    have HLN := Lib.hid hln
    clear hln
    have hlit := own_lit (w.alloc (.cells #[.int .i64 x.id, .int .i64 x.fr, .int .i64 x.tn, .int .i64 x.st, .int .i64 x.en, .int .i64 x.rt] 33)) 0 3 1 1 #[.int .i64 x.id] (by omega) rfl (by simp [maxLen])
    rw [World.size_alloc] at hlit
    have hsl := Lst.of_own hlit
    have hown3 := hown2.alloc (.cells #[.int .i64 x.id] 3)
    have hN3 := hN2.alloc (.cells #[.int .i64 x.id] 3)
    have hG3 := hG2.alloc (.cells #[.int .i64 x.id] 3)
    have hB3 : Below w.heap.size w ((w.alloc (.cells #[.int .i64 x.id, .int .i64 x.fr, .int .i64 x.tn, .int .i64 x.st, .int .i64 x.en, .int .i64 x.rt] 33)).alloc (.cells #[.int .i64 x.id] 3)) := hBa.alloc hBa.size _
    have HN3 := Lib.hid hN3
    have HG3 := Lib.hid hG3
    have HO3 := Lib.hid hown3
    have HS3 := Lib.hid hsl
    have HB3 := Lib.hid hB3
    clear hN2 hG2 hown2 hlit hsl hown3 hN3 hG3 hB3 hBa
    go_enter Tryz.func89, Tryz.ntmps89
    go_wp2_with (first
      | (at_builtin
         refine wpList_append_lst _ rfl (.tmp 11) (.tmp 14) 47 rfl (gg + 1) 3 i0 _ 1 8 Tryz.underlying47 hi0 hz0 hz1 hz2 rfl (by decide) (.slice A ln c) ln _ rfl HO3.out _ (some ⟨w.heap.size + 1, 0, none⟩) 1 1 [.int .i64 x.id] rfl HS3.out (ints_one [x.id]) (by unfold maxLen; omega) (by omega) (by simp; omega) ?_
         intro v1 w3 hown4 hg4 hat4
         obtain ⟨A4, c4, rfl⟩ := slice_of_own hown4
         have hG4 := HG3.out.grown hg4 (fun e => by have := (hvW gg e.symm).1; omega)
         have e0 : w3.cell? ⟨gg, 0, none⟩ = some (.slice A ln c) := hG4.cell 0
         have e1 := hG4.free 0
         have HO4 := Lib.hid hown4
         have HG4 := Lib.hid hG4
         have HGR := Lib.hid hg4
         have HAT := Lib.hid hat4
         clear hown4 hG4 hg4 hat4))
    go_ret
    have hown4 := HO4.out
    have hg4 := HGR.out
    have hsz3 : w.heap.size + 2 ≤ w3.heap.size := by have := hg4.size; simp at this; omega
    have hBl := HB3.out
    refine ⟨rfl, ⟨?_, .slice A4 (ln + 1) c4, ?_, ?_, ?_⟩, ?_, ?_, ?_⟩
    · exact (HN3.out.grown hg4 (fun e => by have := (hvW gN e.symm).1; omega)).far (p := ⟨gg, 0, none⟩) hNg _
    · have := HG4.out.set_ 0 (.slice A4 (ln + 1) c4); simpa using this
    · have hne4 : (Value.slice A4 (ln + 1) c4).ownBlock ≠ some gg := fun e => by have := (hown4.lt _ e).1; omega
      have := hown4.kept (grown_set w3 0 (.slice A4 (ln + 1) c4) (g := gg)) (.inr hne4)
      rw [HL.out]
      simpa [HLN.out] using this
    · rcases HAT.out with e | e
      · rw [e]; exact hne
      · rw [e]; simp; omega
    · have h1 : Below base w w3 := Below.grown (hBl.mono (by omega)) hg4 (by simp; omega) (fun j hj => by have := (hvW j hj).1; omega)
      exact h1.setCell (p := ⟨gg, 0, none⟩) hbase _
    · unfold SameAt
      rw [Below.heap_setCell _ _ _ _ (by simpa using h0g), hg4.block g0 (by simp; omega) (fun e => hne e.symm)]
      exact hBl.block g0 (by omega)
    · intro b h1 h2
      rw [Below.heap_setCell _ _ _ _ (by simp; omega), hg4.block b (by simp; omega) (fun e => by have := (hvW b e.symm).2; omega)]
      exact hBl.block b h2
  · have ho1 : overE now x = false := by simp [overE]; omega
    have hl' : l' = l := by rw [HK2.out, if_neg (by rw [ho1]; simp)]; simp
    rw [ho1, hl']
    have hd : decide (x.en ≤ now) = false := by simp; omega
    have HN2 := Lib.hid hN2
    have HG2 := Lib.hid hG2
    have HO2 := Lib.hid hown2
    have HB2 := Lib.hid hBa
    clear HK2 ho1 hl' hN1 hG1 hown1 hN2 hG2 hown2 hBa c1 f1
    go_enter Tryz.func89, Tryz.ntmps89
    go_wp2
    go_ret
    exact ⟨rfl, ⟨HN2.out, v, HG2.out, HO2.out, hne⟩, HB2.out.mono (by omega), HB2.out.block g0 (by omega), fun b _ h2 => HB2.out.block b h2⟩
theorem pred_expire (now : Int) (gN gg g0 base : Nat) (d : List Co) (hdl : d.length ≤ 1000000) (hbase : base ≤ gg) (hNg : gN ≠ gg) (h0g : g0 ≠ gg) (h0N : g0 ≠ gN) (hNl : gN ≤ gg) :
    PredS 89 #[.pointer (some ⟨gN, 0, none⟩), .pointer (some ⟨gg, 0, none⟩)] g0 base d (overE now) (GoneR gN gg g0 now d) :=
  ⟨enter_run Tryz.func89 rfl rfl,
   fun k hk W w' hR hb hg _ => (expire1_any now gN gg g0 base d k W w' hk hdl hR hb hg hbase hNg h0g h0N hNl).mono fun _ _ h => h,
   fun k w w' ⟨hN, v, hG, hown, hne⟩ hgr => ⟨hN.grown hgr (fun e => h0N (by simpa using e.symm)), v, hG.grown hgr (fun e => h0g (by simpa using e.symm)), hown.kept hgr (.inr hne), hne⟩⟩
end Go.Proofs.YtolaabllhibkdaaGreat.Kc

/- Package contacts: Expire. No condition. -/
namespace Go.Proofs.YtolaabllhibkdaaGreat.Kc
open Go.ChangeShapes Go.WideShapes Go.ChangeAt Go.RowKit Go.Sort
set_option linter.unusedSimpArgs false
set_option linter.unusedVariables false
def leftC (d : List Co) (now : Int) : List Co := d.filter (fun x => !overE now x)
/-- What Expire's inner call leaves. -/
def DelPost (base0 gg : Nat) (now : Int) (d : List Co) (w : World) (e : Ending) (w' : World) : Prop :=
  ∃ v u, e = .returned v ∧ w'.ownsRow base0 33 6 v (leftC d now).length (flatCo (leftC d now)) ∧ Blok w' gg 47 #[u] ∧ w'.ownsRow (gg + 1) 3 1 u (goneL d now).length ((goneL d now).map (Value.int .i64)) ∧ Below base0 w w'
theorem del_step (v : Value) (n : Nat) (d : List Co) (now : Int) (gN gg base0 base : Nat) (w : World) (hd : d.length = n) (hn : n ≤ 1000000) (hown : w.ownsRow base 33 6 v n (flatCo d)) (hN : Blok w gN 3 #[.int .i64 now]) (hG : Blok w gg 47 #[.slice none 0 0]) (hNg : gN < gg) (hb0 : base0 ≤ gN) (hgb : gg < base) (hbs : base ≤ w.heap.size) :
    Calls Tryz.prog 88 #[v, .func (.func 89) #[] #[.pointer (some ⟨gN, 0, none⟩), .pointer (some ⟨gg, 0, none⟩)]] w (DelPost base0 gg now d w) := by
  by_cases h0 : n = 0
  · subst h0
    have hd0 : d = [] := List.eq_nil_of_length_eq_zero hd
    subst hd0
    obtain ⟨A, c, rfl⟩ := slice_of_own hown
    refine (delete0 A c _ _ w (enter_run Tryz.func89 rfl rfl)).mono ?_
    rintro e w' ⟨rfl, rfl⟩
    exact ⟨_, _, rfl, own_down hown (by omega), hG, World.ownsRow_nil _ _ _ _, Below.refl _ _⟩
  · obtain ⟨g0, c0, rfl, hnc, hcm, hgb2, hgl⟩ := own_at hown (by omega)
    have hP := pred_expire now gN gg g0 base0 d (by omega) (by omega) (by omega) (by omega) (by omega) (by omega)
    refine (deleteS g0 n c0 d _ _ base0 _ _ w hd hn (own_down hown (by omega)) (by omega) hP ⟨hN, _, hG, by exact World.ownsRow_nil _ _ _ _, by simp [Value.ownBlock]⟩ (by omega)).mono ?_
    rintro e w' ⟨v', rfl, hv, ⟨_, u, hG', hu, _⟩, hb⟩
    rw [← hd, List.take_length] at hu
    exact ⟨v', u, rfl, hv, hG', hu, hb⟩
def ExpPost (d : List Co) (now : Int) (w : World) (e : Ending) (w' : World) : Prop :=
  ∃ v u, e = .returned (.tuple #[v, u]) ∧ w'.ownsRow w.heap.size 33 6 v (leftC d now).length (flatCo (leftC d now)) ∧ w'.ownsRow w.heap.size 3 1 u (goneL d now).length ((sortI (goneL d now)).map (Value.int .i64)) ∧ Below w.heap.size w w'
set_option maxHeartbeats 2000000 in
set_option maxRecDepth 100000 in
theorem expire_any (A : Option Addr) (n c : Nat) (d : List Co) (now : Int) (w : World) (hd : d.length = n) (hn : n ≤ 1000000) (h : Sl w w.heap.size 6 A n c (flatCo d)) :
    Calls Tryz.prog 56 #[.slice A n c, .int .i64 now] w (ExpPost d now w) := by
  have hB1 : Below w.heap.size w (w.alloc (.cells #[.int .i64 now] 3)) := by (repeat (first | exact Below.refl _ _ | refine Below.alloc ?_ (by first | omega | (simp; done) | (simp; omega)) _ | refine Below.setCell ?_ (by first | omega | (simp; done) | (simp; omega)) _ | refine Below.drew ?_))
  have hN1 := Blok.new w 3 #[.int .i64 now]
  have hG2 := Blok.new (w.alloc (.cells #[.int .i64 now] 3)) 47 #[.slice none 0 0]
  have hN2 := hN1.alloc (.cells #[.slice none 0 0] 47)
  have hB2 := hB1.alloc hB1.size (.cells #[.slice none 0 0] 47)
  have hs2 := h.up hB2
  have hlen : (goneL d now).length ≤ n := by
    have := goneL_len d now d.length
    rw [List.take_length] at this
    omega
  simp only [World.size_alloc] at hG2
  have HD := Lib.hid hd
  clear hd h hB1 hN1
  go_enter Tryz.func56, Tryz.ntmps56
  go_wp2_with fail
  generalize (w.alloc (.cells #[.int .i64 now] 3)).alloc (.cells #[.slice none 0 0] 47) = w2 at *
  have hgl := hG2.lt
  refine (cloneCo A n c d w2 HD.out hn hs2).mono ?_
  rintro e w3 ⟨v, rfl, hown, hb3⟩
  have hN3 := hN2.below hb3 hN2.lt
  have hG3 := hG2.below hb3 hG2.lt
  have hB3 := hB2.trans (hb3.mono hB2.size)
  have hsz3 := hb3.size
  clear hN2 hG2 hB2 hs2 hb3
  go_wp2_with fail
  refine (del_step v n d now w.heap.size (w.heap.size + 1) w.heap.size w2.heap.size w3 HD.out hn hown hN3 hG3 (by omega) (Nat.le_refl _) hgl hsz3).mono ?_
  rintro e w4 ⟨v4, u, rfl, hv4, hG4, hu4, hb4⟩
  have hB4 := hB3.trans hb4
  have hne := own_ne hv4 hu4 (by decide)
  have hgu : u.ownBlock ≠ some (w.heap.size + 1) := fun e => by have := (hu4.lt _ e).1; omega
  have c4 : w4.cell? ⟨w.heap.size + 1, 0, none⟩ = some u := hG4.cell 0
  have hsz4 := hB4.size
  have hglt := hG4.lt
  clear hN3 hG3 hown hb4 hB3
  obtain ⟨Au, cu, rfl⟩ := slice_of_own hu4
  obtain ⟨Av, cv, rfl⟩ := slice_of_own hv4
  obtain ⟨l, hl⟩ : ∃ l, goneL d now = l := ⟨_, rfl⟩
  obtain ⟨le, hle⟩ : ∃ le, leftC d now = le := ⟨_, rfl⟩
  have hP : ExpPost d now w = fun e w' => ∃ v u, e = .returned (.tuple #[v, u]) ∧ w'.ownsRow w.heap.size 33 6 v le.length (flatCo le) ∧ w'.ownsRow w.heap.size 3 1 u l.length ((sortI l).map (Value.int .i64)) ∧ Below w.heap.size w w' := by
    funext e w'
    unfold ExpPost
    rw [hl, hle]
  have HP := Lib.hid hP
  rw [hl] at hu4 hne hgu hlen c4 hG4
  rw [hle] at hv4 hne
  rw [hle]
  clear hl hle hP
  obtain ⟨ln, hln⟩ : ∃ ln, l.length = ln := ⟨_, rfl⟩
  rw [hln] at hu4 hne hgu hlen c4 hG4
  have HLN := Lib.hid hln
  obtain ⟨lm, hlm⟩ : ∃ lm, le.length = lm := ⟨_, rfl⟩
  rw [hlm] at hv4 hne ⊢
  have HLM := Lib.hid hlm
  clear hln hlm
  go_wp2_with fail
  refine (sortI_any (.slice Au ln cu) l _ w4 (by have := HLN.out; omega) (by have := HLN.out; rw [this]; exact hu4)).mono ?_
  rintro e w5 ⟨rfl, hu5, hg5⟩
  rw [HLN.out] at hu5
  have hv5 := hv4.kept hg5 hne
  have hG5 := hG4.grown hg5 (fun e => hgu e.symm)
  have hB5 : Below w.heap.size w w5 := hB4.grown hg5 hsz4 (fun k hk => by have := (hu4.lt k hk).1; omega)
  have c5 : w5.cell? ⟨w.heap.size + 1, 0, none⟩ = some (.slice Au ln cu) := hG5.cell 0
  clear hu4 hv4 hG4 hG5 hB4 c4 hg5 hne hgu
  have hs5 := hB5.size
  go_wp2_with fail
  have q_c5 := fun d os => cell_regrown c5 d os
  try simp only [List.append]
  first | refine wp_region_text_below ?_ | refine wp_region_quiet_below (by kernel_rfl) (by kernel_rfl) ?_
  repeat (go_big_quiet_step ((fail)))
  refine wpQuiet_nil ?_
  intro _ hqw
  obtain ⟨pq, hqw⟩ := hqw
  subst hqw
  clear q_c5
  have hbel := below_regrown w5 pq.d pq.os
  have hu6 := hu5.kept (grown_of_below (row := some w5.heap.size) hbel) (.inr (fun e => by have := (hu5.lt _ e).2; omega))
  have hv6 := hv5.kept (grown_of_below (row := some w5.heap.size) hbel) (.inr (fun e => by have := (hv5.lt _ e).2; omega))
  have hB6 := hB5.trans (hbel.mono hs5)
  clear hbel hu5 hv5 hB5 c5
  generalize grow (redrawn w5 pq.d) pq.os = wq at *
  go_wp2
  go_ret2
  rw [HP.out]
  refine ⟨_, _, rfl, ?_, ?_, hB6⟩
  · rw [HLM.out]; exact hv6
  · rw [HLN.out]; exact own_down hu6 (by omega)
end Go.Proofs.YtolaabllhibkdaaGreat.Kc

/- Layer 6's small case comes out right. No condition. -/
namespace Go.Proofs.YtolaabllhibkdaaGreat.Kc
open Go.ChangeShapes Go.WideShapes Go.ChangeAt Go.RowKit Go.Sort
set_option linter.unusedSimpArgs false
set_option linter.unusedVariables false
theorem own_below {w w' : World} {base : Nat} {e : TypeId} {size n : Nat} {v : Value} {xs : List Value} (h : w.ownsRow base e size v n xs) (hb : Below w.heap.size w w') : w'.ownsRow base e size v n xs :=
  h.kept (grown_of_below (row := some w.heap.size) hb) (.inr (fun e => by have := (h.lt _ e).2; omega))
theorem add_first {d : List Co} {r : Co} {n i : Nat} (q : Nat) (hi : i ≤ n) (h1 : i = 0 ∨ cmpC (gCo d (i - 1)) r < 0) (h2 : i = n ∨ 0 ≤ cmpC (gCo d i) r) (hq : ∀ j, j ≤ n → (j = 0 ∨ cmpC (gCo d (j - 1)) r < 0) → (j = n ∨ 0 ≤ cmpC (gCo d j) r) → j = q) : i = q := hq i hi h1 h2
end Go.Proofs.YtolaabllhibkdaaGreat.Kc

/- Right tables of contacts: their order, who is found, one more, one less. No condition. -/
namespace Go.Proofs.YtolaabllhibkdaaGreat.Kc
open Go.ChangeShapes Go.WideShapes Go.ChangeAt Go.RowKit Go.Sort
set_option linter.unusedSimpArgs false
set_option linter.unusedVariables false
theorem gCo_elem {d : List Co} {i : Nat} (h : i < d.length) : gCo d i = d[i] := gCo_eq h
theorem mem_gCo {d : List Co} {y : Co} (h : y ∈ d) : ∃ j, j < d.length ∧ gCo d j = y := by
  obtain ⟨j, hj, e⟩ := List.mem_iff_getElem.1 h
  exact ⟨j, hj, by rw [gCo_eq hj, e]⟩
theorem ltC_trans {a b c : Co} (h1 : ltC a b) (h2 : ltC b c) : ltC a c := by unfold ltC at *; omega
theorem cmpC_lt {a b : Co} : cmpC a b < 0 ↔ ltC a b := by
  rcases cmpC_spec a b with ⟨h, e⟩ | ⟨h1, h2, h3, h4, e⟩ | ⟨h, e⟩
  · rw [e]; exact ⟨fun _ => h, fun _ => by omega⟩
  · rw [e]; unfold ltC; omega
  · rw [e]; unfold ltC at *; omega
theorem right_step {d : List Co} (h : rightC d = true) {i : Nat} (hi : i < d.length) : okC (gCo d i) = true ∧ idIn (d.take i) (gCo d i).id = false ∧ (i ≠ 0 → ltC (gCo d (i - 1)) (gCo d i) ∧ overC (gCo d (i - 1)) (gCo d i) = false) := by
  have := (rightC_true.1 h).2 i hi
  unfold stepC at this
  simp only [Bool.and_eq_true, Bool.or_eq_true, Bool.not_eq_true', beq_iff_eq, decide_eq_true_eq] at this
  refine ⟨this.1.1, this.1.2, fun h0 => ?_⟩
  rcases this.2 with h1 | ⟨h1, h2⟩
  · exact absurd h1 h0
  · exact ⟨cmpC_lt.1 h1, h2⟩
theorem right_ok {d : List Co} (h : rightC d = true) : ∀ x ∈ d, okC x = true := fun x hx => by
  obtain ⟨j, hj, rfl⟩ := mem_gCo hx
  exact (right_step h hj).1
theorem right_lt {d : List Co} (h : rightC d = true) : ∀ (j i : Nat), i < j → j < d.length → ltC (gCo d i) (gCo d j)
  | 0, i, h1, _ => by omega
  | j + 1, i, h1, h2 => by
    have hs := ((right_step h h2).2.2 (by omega)).1
    rw [Nat.add_sub_cancel] at hs
    by_cases e : i = j
    · rw [e]; exact hs
    · exact ltC_trans (right_lt h j i (by omega) (by omega)) hs
theorem right_ids {d : List Co} (h : rightC d = true) {i j : Nat} (hij : i < j) (hj : j < d.length) : (gCo d i).id ≠ (gCo d j).id := by
  have h1 := (right_step h hj).2.1
  unfold idIn at h1
  rw [List.any_eq_false] at h1
  intro e
  exact h1 (gCo d i) (by rw [gCo_eq (by omega : i < d.length)]; exact List.mem_take_iff_getElem.2 ⟨i, by omega, rfl⟩) (by simp [e])
/-- Of two places that fit, none is left of the other. -/
theorem place_le {d : List Co} {r : Co} (h : rightC d = true) {i j : Nat} (hi : i ≤ d.length) (hj : j ≤ d.length) (h1 : i = 0 ∨ cmpC (gCo d (i - 1)) r < 0) (h2 : j = d.length ∨ 0 ≤ cmpC (gCo d j) r) : i ≤ j := by
  by_cases hlt : j < i
  · exfalso
    rcases h1 with h1 | h1
    · omega
    · rcases h2 with h2 | h2
      · omega
      · have l1 := cmpC_lt.1 h1
        by_cases e : j = i - 1
        · rw [← e] at h1; omega
        · have l2 := ltC_trans (right_lt h (i - 1) j (by omega) (by omega)) l1
          have := cmpC_lt.2 l2
          omega
  · omega
def insC (d : List Co) (i : Nat) (r : Co) : List Co := d.take i ++ [r] ++ d.drop i
theorem insC_length {d : List Co} {i : Nat} (r : Co) (hi : i ≤ d.length) : (insC d i r).length = d.length + 1 := by
  unfold insC
  simp only [List.length_append, List.length_take, List.length_drop, List.length_cons, List.length_nil]
  omega
theorem insC_filter {d : List Co} {i : Nat} (x : Co) (p : Co → Bool) (hd : ∀ y ∈ d, p y = true) (hx : p x = false) : (insC d i x).filter p = d := by
  unfold insC
  rw [List.filter_append, List.filter_append, List.filter_eq_self.2 (fun y hy => hd y (List.mem_of_mem_take hy)), List.filter_eq_self.2 (fun y hy => hd y (List.mem_of_mem_drop hy)), List.filter_cons, if_neg (by simp [hx])]
  simp
theorem may_ok {d : List Co} {r : Co} (hm : mayC d r = 0) : okC r = true ∧ d.length < 4096 ∧ (∀ y ∈ d, (y.id == r.id) = false) ∧ ∀ y ∈ d, overC y r = false := by
  unfold mayC at hm
  split at hm
  · cases hm
  · split at hm
    · cases hm
    · split at hm
      · cases hm
      · split at hm
        · cases hm
        · rename_i h1 h2 h3 h4
          refine ⟨by simpa using h1, by omega, fun y hy => ?_, fun y hy => ?_⟩
          · cases e : (y.id == r.id)
            · rfl
            · exact absurd (List.any_eq_true.2 ⟨y, hy, e⟩) h3
          · cases e : overC y r
            · rfl
            · exact absurd (List.any_eq_true.2 ⟨y, hy, e⟩) h4
theorem may_twice {d : List Co} {r : Co} {i : Nat} (hm : mayC d r = 0) (hi : i ≤ d.length) (hl : d.length < 4095) : mayC (insC d i r) r = 4 := by
  obtain ⟨h1, _, _, _⟩ := may_ok hm
  unfold mayC
  rw [if_neg (by rw [h1]; simp), insC_length r hi, if_neg (by omega), if_pos (by unfold insC; simp)]
end Go.Proofs.YtolaabllhibkdaaGreat.Kc

/- What is right stays right; Add, Delete, Change and Find of a right table, in one form. No condition. -/
namespace Go.Proofs.YtolaabllhibkdaaGreat.Kc
open Go.ChangeShapes Go.WideShapes Go.ChangeAt Go.RowKit Go.Sort
set_option linter.unusedSimpArgs false
set_option linter.unusedVariables false
theorem okC_span {x : Co} (h : okC x = true) : x.st < x.en := by
  unfold okC contactB spanB at h
  simp only [Bool.and_eq_true, decide_eq_true_eq] at h
  omega
def befC (a b : Co) : Prop := ltC a b ∧ a.id ≠ b.id ∧ (a.fr = b.fr → a.tn = b.tn → a.en ≤ b.st)
theorem over_bef {a b : Co} (ha : okC a = true) (hb : okC b = true) (hl : ltC a b) (ho : overC a b = false) : a.fr = b.fr → a.tn = b.tn → a.en ≤ b.st := by
  have h1 := okC_span ha
  have h2 := okC_span hb
  unfold overC at ho
  rw [decide_eq_false_iff_not] at ho
  unfold ltC at hl
  intro e1 e2
  by_cases hx : a.en ≤ b.st
  · exact hx
  · exact absurd ⟨e1, e2, by omega, by omega⟩ ho
theorem right_bef {d : List Co} (h : rightC d = true) : ∀ (j i : Nat), i < j → j < d.length → befC (gCo d i) (gCo d j)
  | 0, i, h1, _ => by omega
  | j + 1, i, h1, h2 => by
    have hs := (right_step h h2).2.2 (by omega)
    rw [Nat.add_sub_cancel] at hs
    have hok1 := (right_step h h2).1
    have hok2 := (right_step h (by omega : j < d.length)).1
    have hn := over_bef hok2 hok1 hs.1 hs.2
    have hid := right_ids h h1 h2
    refine ⟨right_lt h _ _ h1 h2, hid, ?_⟩
    by_cases e : i = j
    · rw [e]; exact hn
    · have hp := right_bef h j i (by omega) (by omega)
      intro e1 e2
      have hl1 := hp.1
      have hl2 := hs.1
      have s1 := okC_span hok2
      have f1 : (gCo d i).fr = (gCo d j).fr := by unfold ltC at hl1 hl2; omega
      have f2 : (gCo d i).tn = (gCo d j).tn := by unfold ltC at hl1 hl2; omega
      have g1 := hp.2.2 f1 f2
      have g2 := hn (by omega) (by omega)
      omega
theorem bef_pairwise {d : List Co} (h : rightC d = true) : d.Pairwise befC := by
  rw [List.pairwise_iff_getElem]
  intro i j hi hj hij
  have := right_bef h j i hij hj
  rw [gCo_eq hi, gCo_eq hj] at this
  exact this
theorem right_of {d : List Co} (hn : d.length ≤ 4096) (hok : ∀ x ∈ d, okC x = true) (hs : d.Pairwise befC) : rightC d = true := by
  rw [rightC_true]
  refine ⟨hn, fun i hi => ?_⟩
  have hpw := List.pairwise_iff_getElem.1 hs
  unfold stepC
  rw [hok _ (gCo_mem hi), Bool.true_and]
  have h1 : idIn (d.take i) (gCo d i).id = false := by
    unfold idIn
    rw [List.any_eq_false]
    intro x hx
    obtain ⟨j, hj, rfl⟩ := List.mem_take_iff_getElem.1 hx
    have := (hpw j i (by omega) hi (by omega)).2.1
    rw [gCo_eq hi]
    simpa using this
  rw [h1]
  by_cases h0 : i = 0
  · simp [h0]
  · have hb := hpw (i - 1) i (by omega) hi (by omega)
    rw [← gCo_eq hi, ← gCo_eq (by omega : i - 1 < d.length)] at hb
    have hc := cmpC_lt.2 hb.1
    have ho : overC (gCo d (i - 1)) (gCo d i) = false := by
      unfold overC
      rw [decide_eq_false_iff_not]
      rintro ⟨e1, e2, e3, e4⟩
      have := hb.2.2 e1 e2
      omega
    rw [ho]
    simp [hc]
theorem right_filter {d : List Co} (h : rightC d = true) (p : Co → Bool) : rightC (d.filter p) = true :=
  right_of (Nat.le_trans (List.length_filter_le _ _) (rightC_true.1 h).1) (fun x hx => right_ok h x (List.mem_filter.1 hx).1) ((bef_pairwise h).filter p)
theorem right_ins {d : List Co} {r : Co} {i : Nat} (h : rightC d = true) (hm : mayC d r = 0) (hi : i ≤ d.length) (h1 : i = 0 ∨ cmpC (gCo d (i - 1)) r < 0) (h2 : i = d.length ∨ 0 ≤ cmpC (gCo d i) r) : rightC (insC d i r) = true := by
  obtain ⟨hok, hlen, hfr, hov⟩ := may_ok hm
  have hbef : ∀ a ∈ d.take i, befC a r := fun a ha => by
    obtain ⟨j, hj, rfl⟩ := List.mem_take_iff_getElem.1 ha
    have hjd : j < d.length := by omega
    have hl : ltC (gCo d (i - 1)) r := by
      rcases h1 with h1 | h1
      · omega
      · exact cmpC_lt.1 h1
    have hl2 : ltC (gCo d j) r := by
      by_cases e : j = i - 1
      · rw [e]; exact hl
      · exact ltC_trans (right_lt h (i - 1) j (by omega) (by omega)) hl
    rw [← gCo_eq hjd]
    exact ⟨hl2, by simpa using hfr _ (gCo_mem hjd), over_bef (right_ok h _ (gCo_mem hjd)) hok hl2 (hov _ (gCo_mem hjd))⟩
  have haft : ∀ b ∈ d.drop i, befC r b := fun b hb => by
    obtain ⟨j, hj, rfl⟩ := List.mem_drop_iff_getElem.1 hb
    have hjd : i + j < d.length := by omega
    have hl : ltC r (gCo d i) := by
      rcases h2 with h2 | h2
      · omega
      · rcases cmpC_spec (gCo d i) r with ⟨_, e⟩ | ⟨_, _, _, e4, _⟩ | ⟨hl, _⟩
        · omega
        · have := hfr _ (gCo_mem (by omega : i < d.length))
          rw [e4] at this
          simp at this
        · exact hl
    have hl2 : ltC r (gCo d (i + j)) := by
      by_cases e : j = 0
      · subst e; exact hl
      · exact ltC_trans hl (right_lt h (i + j) i (by omega) hjd)
    rw [← gCo_eq hjd]
    have hb2 := okC_span (right_ok h _ (gCo_mem hjd))
    have hr2 := okC_span hok
    refine ⟨hl2, fun e => by have := hfr _ (gCo_mem hjd); rw [← e] at this; simp at this, fun e1 e2 => ?_⟩
    have ho := hov _ (gCo_mem hjd)
    unfold overC at ho
    rw [decide_eq_false_iff_not] at ho
    unfold ltC at hl2
    by_cases hx : r.en ≤ (gCo d (i + j)).st
    · exact hx
    · exact absurd ⟨e1.symm, e2.symm, by omega, by omega⟩ ho
  refine right_of (by rw [insC_length r hi]; omega) (fun x hx => ?_) ?_
  · unfold insC at hx
    simp only [List.mem_append, List.mem_singleton] at hx
    rcases hx with (hx | rfl) | hx
    · exact right_ok h x (List.mem_of_mem_take hx)
    · exact hok
    · exact right_ok h x (List.mem_of_mem_drop hx)
  · unfold insC
    have hp := bef_pairwise h
    rw [← List.take_append_drop i d, List.pairwise_append] at hp
    rw [List.append_assoc, List.pairwise_append]
    refine ⟨hp.1, ?_, fun a ha b hb => ?_⟩
    · rw [List.singleton_append, List.pairwise_cons]
      exact ⟨haft, hp.2.1⟩
    · rw [List.singleton_append, List.mem_cons] at hb
      rcases hb with rfl | hb
      · exact hbef a ha
      · exact hp.2.2 a ha b hb
theorem gCo_set {d : List Co} {q j : Nat} (x : Co) (hj : j < d.length) : gCo (d.set q x) j = if q = j then x else gCo d j := by
  rw [gCo_eq (by rw [List.length_set]; exact hj), List.getElem_set, gCo_eq hj]
theorem okC_rt {x : Co} {o : Int} (h : okC x = true) (h0 : inB o 1 2147483647 = true) : okC (withRt x o) = true := by
  unfold okC contactB at h ⊢
  simp only [withRt, Bool.and_eq_true] at h ⊢
  exact ⟨h.1, h0⟩
theorem right_set {d : List Co} {q : Nat} {o : Int} (h : rightC d = true) (hq : q < d.length) (h0 : inB o 1 2147483647 = true) : rightC (d.set q (withRt (gCo d q) o)) = true := by
  refine right_of (by rw [List.length_set]; exact (rightC_true.1 h).1) (fun x hx => ?_) ?_
  · obtain ⟨j, hj, rfl⟩ := mem_gCo hx
    rw [List.length_set] at hj
    rw [gCo_set _ hj]
    split
    · exact okC_rt (right_ok h _ (gCo_mem hq)) h0
    · exact right_ok h _ (gCo_mem hj)
  · rw [List.pairwise_iff_getElem]
    intro i j hi hj hij
    rw [List.length_set] at hi hj
    have hb := right_bef h j i hij hj
    have hi2 := gCo_set (d := d) (q := q) (withRt (gCo d q) o) hi
    have hj2 := gCo_set (d := d) (q := q) (withRt (gCo d q) o) hj
    rw [gCo_eq (by rw [List.length_set]; exact hi)] at hi2
    rw [gCo_eq (by rw [List.length_set]; exact hj)] at hj2
    rw [hi2, hj2]
    by_cases e1 : q = i
    · subst e1
      rw [if_pos rfl, if_neg (by omega)]
      exact hb
    · rw [if_neg e1]
      by_cases e2 : q = j
      · subst e2
        rw [if_pos rfl]
        exact hb
      · rw [if_neg e2]
        exact hb
/-- Who is found by an ID. -/
def foundC (d : List Co) (id : Int) : Co := (d.find? (fun x => x.id == id)).getD ⟨0, 0, 0, 0, 0, 0⟩
theorem found_mem {d : List Co} {id : Int} (h : idIn d id = true) : foundC d id ∈ d ∧ (foundC d id).id = id := by
  unfold foundC
  cases e : d.find? (fun x => x.id == id) with
  | none =>
    rw [List.find?_eq_none] at e
    unfold idIn at h
    obtain ⟨x, hx, hx2⟩ := List.any_eq_true.1 h
    exact absurd hx2 (e x hx)
  | some y =>
    exact ⟨List.mem_of_find?_eq_some e, by simpa using List.find?_some e⟩
theorem idIn_mem {d : List Co} {x : Co} (h : x ∈ d) : idIn d x.id = true := List.any_eq_true.2 ⟨x, h, by simp⟩
theorem found_of {d : List Co} {x : Co} (h : rightC d = true) (hx : x ∈ d) : foundC d x.id = x := by
  obtain ⟨h1, h2⟩ := found_mem (idIn_mem hx)
  obtain ⟨i, hi, e1⟩ := mem_gCo h1
  obtain ⟨j, hj, e2⟩ := mem_gCo hx
  rw [← e1, ← e2] at h2
  by_cases e : i = j
  · rw [← e1, ← e2, e]
  · rcases Nat.lt_or_gt_of_ne e with hlt | hlt
    · exact absurd h2 (right_ids h hlt hj)
    · exact absurd h2.symm (right_ids h hlt hi)
theorem found_none {d : List Co} {id : Int} (h : idIn d id = false) : foundC d id = ⟨0, 0, 0, 0, 0, 0⟩ := by
  unfold foundC
  have : d.find? (fun x => x.id == id) = none := List.find?_eq_none.2 (fun x hx => by
    unfold idIn at h
    rw [List.any_eq_false] at h
    exact h x hx)
  rw [this]
  rfl
theorem find_any (A : Option Addr) (n c : Nat) (d : List Co) (id : Int) (w : World) (hd : d.length = n) (hn : n ≤ 1000000) (h : Sl w w.heap.size 6 A n c (flatCo d)) (hr : rightC d = true) (x : Co) (b : Bool) (hx : foundC d id = x) (hb : idIn d id = b) :
    Calls Tryz.prog 31 #[.slice A n c, .int .i64 id] w fun e w' => e = .returned (.tuple #[.agg #[.int .i64 x.id, .int .i64 x.fr, .int .i64 x.tn, .int .i64 x.st, .int .i64 x.en, .int .i64 x.rt], .bool b]) ∧ Below w.heap.size w w' := by
  cases b with
  | false =>
    rw [found_none hb] at hx
    subst hx
    exact find_no A n c d id w hd hn h (fun j hj => noHitCo hb (by omega))
  | true =>
    obtain ⟨q, hq, h1, h2⟩ := firstHitCo hb
    have e : gCo d q = x := by
      have h3 := found_of hr (gCo_mem hq)
      rw [← hx, ← h3]
      congr 1
      simpa using h2.symm
    rw [← e]
    exact find_yes A n c d id w q hd hn h (by omega) h1 h2
/-- What a call leaves. -/
structure ActC (d e : List Co) (q wh id : Int) (r : Co) : Prop where
  right : rightC e = true
  same : q ≠ 0 → e = d
  short : e.length ≤ d.length + 1
  keep : ∀ x ∈ d, x.id ≠ id → x ∈ e
  add : q = 0 → wh = 1 → idIn d id = false ∧ r ∈ e ∧ r.id = id ∧ e.length = d.length + 1
  del : q = 0 → wh = 2 → idIn d id = true ∧ idIn e id = false ∧ e.length + 1 = d.length
  chg : q = 0 → wh = 3 → idIn d id = true ∧ withRt (foundC d id) r.rt ∈ e ∧ e.length = d.length
theorem ActC.err {d : List Co} {q wh id : Int} {r : Co} (h : rightC d = true) (hq : q ≠ 0) : ActC d d q wh id r := ⟨h, fun _ => rfl, by omega, fun _ hx _ => hx, fun e => absurd e hq, fun e => absurd e hq, fun e => absurd e hq⟩
theorem act_add (A : Option Addr) (n c : Nat) (d : List Co) (r : Co) (w : World) (hd : d.length = n) (hn : n ≤ 1000000 - 1) (h : Sl w w.heap.size 6 A n c (flatCo d)) (hr : rightC d = true) :
    Calls Tryz.prog 102 #[.slice A n c, .agg #[.int .i64 r.id, .int .i64 r.fr, .int .i64 r.tn, .int .i64 r.st, .int .i64 r.en, .int .i64 r.rt]] w fun e w' => ∃ v q l, e = .returned (.tuple #[v, .int .i64 q]) ∧ ActC d l q 1 r.id r ∧ w'.ownsRow w.heap.size 33 6 v l.length (flatCo l) ∧ Below w.heap.size w w' := by
  by_cases hm : mayC d r = 0
  · refine (add_yes A n c d r w hd hn h hm).mono ?_
    rintro e w' ⟨v, i, rfl, hi, h1, h2, hv, hb⟩
    have hi' : i ≤ d.length := by omega
    obtain ⟨_, _, hfr, _⟩ := may_ok hm
    refine ⟨v, 0, insC d i r, rfl, ⟨right_ins hr hm hi' h1 (by rw [hd]; exact h2), fun e => absurd rfl e, by rw [insC_length r hi']; omega, fun x hx _ => ?_, fun _ _ => ⟨?_, by unfold insC; simp, rfl, insC_length r hi'⟩, fun _ e => by omega, fun _ e => by omega⟩, ?_, hb⟩
    · rw [← List.take_append_drop i d] at hx
      unfold insC
      simp only [List.mem_append, List.mem_singleton] at hx ⊢
      rcases hx with hx | hx
      · exact .inl (.inl hx)
      · exact .inr hx
    · unfold idIn
      rw [List.any_eq_false]
      intro y hy
      rw [hfr y hy]
      decide
    · rw [insC_length r hi', hd]
      exact hv
  · refine (add_no A n c d r w _ hd (by omega) h rfl hm).mono ?_
    rintro e w' ⟨v, rfl, hv, hb⟩
    exact ⟨v, _, d, rfl, ActC.err hr hm, by rw [hd]; exact hv, hb⟩
theorem filter_one {d : List Co} (h1 : d.Pairwise befC) {id : Int} (h : idIn d id = true) : (d.filter (fun x => !(x.id == id))).length + 1 = d.length := by
  induction d with
  | nil => simp [idIn] at h
  | cons a d ih =>
    rw [List.pairwise_cons] at h1
    rw [List.filter_cons]
    cases hsa : (a.id == id)
    · rw [if_pos (by rfl)]
      simp only [List.length_cons]
      have := ih h1.2 (by unfold idIn at h ⊢; rw [List.any_cons, hsa] at h; simpa using h)
      omega
    · rw [if_neg (by decide)]
      rw [List.filter_eq_self.2 (fun x hx => ?_)]
      · rfl
      · have hl := (h1.1 x hx).2.1
        have : a.id = id := by simpa using hsa
        rw [this] at hl
        simpa using fun e => hl e.symm
theorem act_del (A : Option Addr) (n c : Nat) (d : List Co) (id : Int) (r : Co) (w : World) (hd : d.length = n) (hn : n ≤ 1000000) (h : Sl w w.heap.size 6 A n c (flatCo d)) (hr : rightC d = true) :
    Calls Tryz.prog 103 #[.slice A n c, .int .i64 id] w fun e w' => ∃ v q l, e = .returned (.tuple #[v, .int .i64 q]) ∧ ActC d l q 2 id r ∧ w'.ownsRow w.heap.size 33 6 v l.length (flatCo l) ∧ Below w.heap.size w w' := by
  refine (del_any A n c d id w hd hn h).mono ?_
  rintro e w' ⟨v, rfl, hv, hb⟩
  cases hid : idIn d id
  · have hf : d.filter (fun x => !(x.id == id)) = d := List.filter_eq_self.2 (fun x hx => by
      unfold idIn at hid
      rw [List.any_eq_false] at hid
      simpa using hid x hx)
    rw [hf] at hv ⊢
    refine ⟨v, _, d, rfl, ActC.err hr ?_, hv, hb⟩
    unfold delCode
    rw [if_pos hd]
    decide
  · have h1 := filter_one (bef_pairwise hr) hid
    refine ⟨v, _, _, rfl, ⟨right_filter hr _, fun hq => ?_, by omega, fun x hx hxr => ?_, fun _ e => by omega, fun _ _ => ⟨hid, ?_, h1⟩, fun _ e => by omega⟩, hv, hb⟩
    · unfold delCode at hq
      rw [if_neg (by omega)] at hq
      exact absurd rfl hq
    · rw [List.mem_filter]
      exact ⟨hx, by simpa using hxr⟩
    · unfold idIn
      rw [List.any_eq_false]
      intro x hx
      simpa using (List.mem_filter.1 hx).2
theorem act_change (A : Option Addr) (n c : Nat) (d : List Co) (id : Int) (r : Co) (w : World) (hd : d.length = n) (hn : n ≤ 1000000) (h : Sl w w.heap.size 6 A n c (flatCo d)) (hr : rightC d = true) :
    Calls Tryz.prog 104 #[.slice A n c, .int .i64 id, .int .i64 r.rt] w fun e w' => ∃ v q l, e = .returned (.tuple #[v, .int .i64 q]) ∧ ActC d l q 3 id r ∧ w'.ownsRow w.heap.size 33 6 v l.length (flatCo l) ∧ Below w.heap.size w w' := by
  cases ho : inB r.rt 1 2147483647
  · refine (change_arg A n c d id r.rt w hd hn h ho).mono ?_
    rintro e w' ⟨v, rfl, hv, hb⟩
    exact ⟨v, 1, d, rfl, ActC.err hr (by decide), by rw [hd]; exact hv, hb⟩
  · cases hid : idIn d id
    · refine (change_none A n c d id r.rt w hd hn h ho (fun j hj => noHitCo hid (by omega))).mono ?_
      rintro e w' ⟨v, rfl, hv, hb⟩
      exact ⟨v, 6, d, rfl, ActC.err hr (by decide), by rw [hd]; exact hv, hb⟩
    · obtain ⟨q, hq, hbef, hat⟩ := firstHitCo hid
      refine (change_yes A n c d id r.rt w q hd hn h ho (by omega) hbef hat).mono ?_
      rintro e w' ⟨v, rfl, hv, hb⟩
      have hqi : (gCo d q).id = id := by simpa using hat
      have hfq : foundC d id = gCo d q := by rw [← hqi]; exact found_of hr (gCo_mem hq)
      refine ⟨v, 0, d.set q (withRt (gCo d q) r.rt), rfl, ⟨right_set hr hq ho, fun e => absurd rfl e, by rw [List.length_set]; omega, fun x hx hxr => ?_, fun _ e => by omega, fun _ e => by omega, fun _ _ => ⟨hid, ?_, List.length_set⟩⟩, by rw [List.length_set, hd]; exact hv, hb⟩
      · obtain ⟨j, hj, rfl⟩ := mem_gCo hx
        have hqj : ¬ q = j := fun e => by subst e; exact hxr hqi
        have := gCo_set (d := d) (q := q) (withRt (gCo d q) r.rt) hj
        rw [if_neg hqj] at this
        rw [← this]
        exact gCo_mem (by rw [List.length_set]; exact hj)
      · rw [hfq]
        have := gCo_set (d := d) (q := q) (withRt (gCo d q) r.rt) hq
        rw [if_pos rfl] at this
        have h3 := gCo_mem (d := d.set q (withRt (gCo d q) r.rt)) (i := q) (by rw [List.length_set]; exact hq)
        rw [this] at h3
        exact h3
end Go.Proofs.YtolaabllhibkdaaGreat.Kc

/- Package ranges: compareWays. -/
namespace Go.Proofs.YtolaabllhibkdaaGreat.Kr
open Go.ChangeShapes Go.WideShapes Go.ChangeAt Go.RowKit Go.Sort
set_option linter.unusedSimpArgs false
set_option linter.unusedVariables false
def waysI (a b : Rg) : Int := orF [cmpI a.fr b.fr, cmpI a.tn b.tn]
set_option maxHeartbeats 1000000 in
set_option maxRecDepth 100000 in
theorem ways_any (a b : Rg) (w : World) : Calls Tryz.prog 98 #[.agg #[.int .i64 a.fr, .int .i64 a.tn, .int .i64 a.st, .int .i64 a.en, .int .i64 a.ow], .agg #[.int .i64 b.fr, .int .i64 b.tn, .int .i64 b.st, .int .i64 b.en, .int .i64 b.ow]] w fun e w' => e = .returned (.int .i64 (waysI a b)) ∧ Below w.heap.size w w' := by
  obtain ⟨p, hp⟩ : ∃ p, cmpI a.fr b.fr = p := ⟨_, rfl⟩
  obtain ⟨q, hq⟩ : ∃ q, cmpI a.tn b.tn = q := ⟨_, rfl⟩
  have hfin : waysI a b = orF [p, q] := by rw [← hp, ← hq]; rfl
  have HP := Lib.hid hp
  have HQ := Lib.hid hq
  rw [hfin]
  clear hp hq hfin
  go_enter Tryz.func98, Tryz.ntmps98
  go_wp2_with fail
  refine wp_region_still_tail 10 (by kernel_rfl) (by kernel_rfl) ?_
  change wpStill _ _ (World.drew _) (fun a' => wpList _ _ _ _ a' (World.drew _)) _ _
  simp only [List.take_succ_cons, List.take_zero, List.drop_succ_cons, List.drop_zero]
  repeat still_step
  still_call ((HP.out ▸ cmp_any a.fr b.fr _).mono fun _ _ h => ⟨h.1, h.2.symm⟩)
  repeat still_step
  still_call ((HQ.out ▸ cmp_any a.tn b.tn _).mono fun _ _ h => ⟨h.1, h.2.symm⟩)
  refine wpStill_nil ?_
  have hB : Below w.heap.size w (((w.alloc (.cells #[.int .i64 a.fr, .int .i64 a.tn, .int .i64 a.st, .int .i64 a.en, .int .i64 a.ow] 35)).alloc (.cells #[.int .i64 b.fr, .int .i64 b.tn, .int .i64 b.st, .int .i64 b.en, .int .i64 b.ow] 35)).drew) := by (repeat (first | exact Below.refl _ _ | refine Below.alloc ?_ (by first | omega | (simp; done) | (simp; omega)) _ | refine Below.setCell ?_ (by first | omega | (simp; done) | (simp; omega)) _ | refine Below.drew ?_))
  have hs := hB.size
  generalize (((w.alloc (.cells #[.int .i64 a.fr, .int .i64 a.tn, .int .i64 a.st, .int .i64 a.en, .int .i64 a.ow] 35)).alloc (.cells #[.int .i64 b.fr, .int .i64 b.tn, .int .i64 b.st, .int .i64 b.en, .int .i64 b.ow] 35)).drew) = w2 at *
  go_wp2_with fail
  have hX := Blok.new w2 3 #[.int .i64 p, .int .i64 q]
  refine (or_any w2.heap.size 2 2 [p, q] _ rfl (by omega) (fun k hk => by
    have hc := hX.cell k
    have hk2 : k = 0 ∨ k = 1 := by omega
    rcases hk2 with rfl | rfl <;> exact hc)).mono ?_
  rintro e w3 ⟨rfl, rfl⟩
  go_wp2
  go_ret
  exact ⟨rfl, hB.alloc hs _⟩
def cmpR (a b : Rg) : Int := orF [waysI a b, cmpI a.st b.st]
set_option maxHeartbeats 2000000 in
set_option maxRecDepth 100000 in
theorem cmpR_any (a b : Rg) (w : World) : Calls Tryz.prog 68 #[.agg #[.int .i64 a.fr, .int .i64 a.tn, .int .i64 a.st, .int .i64 a.en, .int .i64 a.ow], .agg #[.int .i64 b.fr, .int .i64 b.tn, .int .i64 b.st, .int .i64 b.en, .int .i64 b.ow]] w fun e w' => e = .returned (.int .i64 (cmpR a b)) ∧ Below w.heap.size w w' := by
  obtain ⟨p, hp⟩ : ∃ p, waysI a b = p := ⟨_, rfl⟩
  obtain ⟨q, hq⟩ : ∃ q, cmpI a.st b.st = q := ⟨_, rfl⟩
  have hfin : cmpR a b = orF [p, q] := by rw [← hp, ← hq]; rfl
  have HP := Lib.hid hp
  have HQ := Lib.hid hq
  rw [hfin]
  clear hp hq hfin
  go_enter Tryz.func68, Tryz.ntmps68
  go_wp2_with fail
  have hB : Below w.heap.size w ((w.alloc (.cells #[.int .i64 a.fr, .int .i64 a.tn, .int .i64 a.st, .int .i64 a.en, .int .i64 a.ow] 35)).alloc (.cells #[.int .i64 b.fr, .int .i64 b.tn, .int .i64 b.st, .int .i64 b.en, .int .i64 b.ow] 35)) := by (repeat (first | exact Below.refl _ _ | refine Below.alloc ?_ (by first | omega | (simp; done) | (simp; omega)) _ | refine Below.setCell ?_ (by first | omega | (simp; done) | (simp; omega)) _ | refine Below.drew ?_))
  have hXa := (Blok.new w 35 #[.int .i64 a.fr, .int .i64 a.tn, .int .i64 a.st, .int .i64 a.en, .int .i64 a.ow]).alloc (.cells #[.int .i64 b.fr, .int .i64 b.tn, .int .i64 b.st, .int .i64 b.en, .int .i64 b.ow] 35)
  have hXb := Blok.new (w.alloc (.cells #[.int .i64 a.fr, .int .i64 a.tn, .int .i64 a.st, .int .i64 a.en, .int .i64 a.ow] 35)) 35 #[.int .i64 b.fr, .int .i64 b.tn, .int .i64 b.st, .int .i64 b.en, .int .i64 b.ow]
  simp only [World.size_alloc] at hXb
  generalize ((w.alloc (.cells #[.int .i64 a.fr, .int .i64 a.tn, .int .i64 a.st, .int .i64 a.en, .int .i64 a.ow] 35)).alloc (.cells #[.int .i64 b.fr, .int .i64 b.tn, .int .i64 b.st, .int .i64 b.en, .int .i64 b.ow] 35)) = w2 at *
  have hs := hB.size
  have hla := hXa.lt
  have hlb := hXb.lt
  have ha0 : w2.cell? ⟨w.heap.size, 0, none⟩ = some (.int .i64 a.fr) := hXa.cell 0
  have ha1 : w2.cell? ⟨w.heap.size, 1, none⟩ = some (.int .i64 a.tn) := hXa.cell 1
  have ha2 : w2.cell? ⟨w.heap.size, 2, none⟩ = some (.int .i64 a.st) := hXa.cell 2
  have ha3 : w2.cell? ⟨w.heap.size, 3, none⟩ = some (.int .i64 a.en) := hXa.cell 3
  have ha4 : w2.cell? ⟨w.heap.size, 4, none⟩ = some (.int .i64 a.ow) := hXa.cell 4
  have hb0 : w2.cell? ⟨w.heap.size + 1, 0, none⟩ = some (.int .i64 b.fr) := hXb.cell 0
  have hb1 : w2.cell? ⟨w.heap.size + 1, 1, none⟩ = some (.int .i64 b.tn) := hXb.cell 1
  have hb2 : w2.cell? ⟨w.heap.size + 1, 2, none⟩ = some (.int .i64 b.st) := hXb.cell 2
  have hb3 : w2.cell? ⟨w.heap.size + 1, 3, none⟩ = some (.int .i64 b.en) := hXb.cell 3
  have hb4 : w2.cell? ⟨w.heap.size + 1, 4, none⟩ = some (.int .i64 b.ow) := hXb.cell 4
  go_region_held3 (fun w' => w'.cell? ⟨w.heap.size, 0, none⟩ = some (.int .i64 a.fr) ∧ w'.cell? ⟨w.heap.size, 1, none⟩ = some (.int .i64 a.tn) ∧ w'.cell? ⟨w.heap.size, 2, none⟩ = some (.int .i64 a.st) ∧ w'.cell? ⟨w.heap.size, 3, none⟩ = some (.int .i64 a.en) ∧ w'.cell? ⟨w.heap.size, 4, none⟩ = some (.int .i64 a.ow) ∧ w'.cell? ⟨w.heap.size + 1, 0, none⟩ = some (.int .i64 b.fr) ∧ w'.cell? ⟨w.heap.size + 1, 1, none⟩ = some (.int .i64 b.tn) ∧ w'.cell? ⟨w.heap.size + 1, 2, none⟩ = some (.int .i64 b.st) ∧ w'.cell? ⟨w.heap.size + 1, 3, none⟩ = some (.int .i64 b.en) ∧ w'.cell? ⟨w.heap.size + 1, 4, none⟩ = some (.int .i64 b.ow))
    (first | go_keep | (refine ⟨?_, ?_, ?_, ?_, ?_, ?_, ?_, ?_, ?_, ?_⟩ <;> first | assumption | (rw [hc _ _ (by simp; omega)]; assumption)))
    (first
      | (go_at_call 98; (with_reducible refine Calls.mono (HP.out ▸ ways_any a b _) ?_); rintro e w3 ⟨rfl, hb3⟩; obtain ⟨hc, hf⟩ := bcell hb3)
      | (go_at_call 97; (with_reducible refine Calls.mono (HQ.out ▸ cmp_any a.st b.st _) ?_); rintro e w3 ⟨rfl, rfl⟩)
      | (go_at_call 96; (with_reducible refine Calls.mono (or_any _ 2 2 [p, q] _ rfl (by omega) (fun k hk => by
            have hk2 : k = 0 ∨ k = 1 := by omega
            rcases hk2 with rfl | rfl <;> simp)) ?_); rintro e w4 ⟨rfl, rfl⟩))
  go_wp2
  go_ret
  exact ⟨rfl, (hB.drew.trans (hb3.mono hs)).alloc (by have := hb3.size; simp at this; omega) _⟩
theorem waysI_zero {a b : Rg} : waysI a b = 0 ↔ a.fr = b.fr ∧ a.tn = b.tn := by
  unfold waysI orF
  split
  · rename_i h
    rw [cmpI_zero] at h
    unfold orF
    split
    · rename_i h2; rw [cmpI_zero] at h2; simp [h, h2, orF]
    · rename_i h2; rw [cmpI_zero] at h2; constructor
      · intro e; exact absurd (cmpI_zero.1 e) h2
      · intro e; exact absurd e.2 h2
  · rename_i h
    rw [cmpI_zero] at h
    constructor
    · intro e; exact absurd (cmpI_zero.1 e) h
    · intro e; exact absurd e.1 h
def ltR (a b : Rg) : Prop := a.fr < b.fr ∨ a.fr = b.fr ∧ (a.tn < b.tn ∨ a.tn = b.tn ∧ a.st < b.st)
theorem cmpI_spec (a b : Int) : (a < b ∧ cmpI a b = -1) ∨ (a = b ∧ cmpI a b = 0) ∨ (b < a ∧ cmpI a b = 1) := by
  rcases Int.lt_trichotomy a b with h | h | h
  · exact .inl ⟨h, cmpI_lt h⟩
  · exact .inr (.inl ⟨h, cmpI_zero.2 h⟩)
  · exact .inr (.inr ⟨h, cmpI_gt h⟩)
theorem cmpR_spec (a b : Rg) : (ltR a b ∧ cmpR a b = -1) ∨ (a.fr = b.fr ∧ a.tn = b.tn ∧ a.st = b.st ∧ cmpR a b = 0) ∨ (ltR b a ∧ cmpR a b = 1) := by
  unfold cmpR waysI ltR
  rcases cmpI_spec a.fr b.fr with ⟨h1, e1⟩ | ⟨h1, e1⟩ | ⟨h1, e1⟩ <;> rcases cmpI_spec a.tn b.tn with ⟨h2, e2⟩ | ⟨h2, e2⟩ | ⟨h2, e2⟩ <;> rcases cmpI_spec a.st b.st with ⟨h3, e3⟩ | ⟨h3, e3⟩ | ⟨h3, e3⟩ <;>
    simp only [e1, e2, e3, orF] <;> simp <;> omega
def overR (a b : Rg) : Bool := decide (a.fr = b.fr ∧ a.tn = b.tn ∧ a.st < b.en ∧ b.st < a.en)
def sameR (a b : Rg) : Bool := decide (a.fr = b.fr ∧ a.tn = b.tn ∧ a.st = b.st)
theorem cmpR_zero {a b : Rg} : cmpR a b = 0 ↔ a.fr = b.fr ∧ a.tn = b.tn ∧ a.st = b.st := by
  rcases cmpR_spec a b with ⟨h, e⟩ | ⟨h1, h2, h3, e⟩ | ⟨h, e⟩
  · rw [e]; unfold ltR at h; constructor
    · intro h'; omega
    · intro h'; omega
  · simp [h1, h2, h3, e]
  · rw [e]; unfold ltR at h; constructor
    · intro h'; omega
    · intro h'; omega
set_option maxHeartbeats 1000000 in
set_option maxRecDepth 100000 in
theorem over_any (a b : Rg) (w : World) : Calls Tryz.prog 69 #[.agg #[.int .i64 a.fr, .int .i64 a.tn, .int .i64 a.st, .int .i64 a.en, .int .i64 a.ow], .agg #[.int .i64 b.fr, .int .i64 b.tn, .int .i64 b.st, .int .i64 b.en, .int .i64 b.ow]] w fun e w' => e = .returned (.bool (overR a b)) ∧ Below w.heap.size w w' := by
  have hB : Below w.heap.size w ((w.alloc (.cells #[.int .i64 a.fr, .int .i64 a.tn, .int .i64 a.st, .int .i64 a.en, .int .i64 a.ow] 35)).alloc (.cells #[.int .i64 b.fr, .int .i64 b.tn, .int .i64 b.st, .int .i64 b.en, .int .i64 b.ow] 35)) := by (repeat (first | exact Below.refl _ _ | refine Below.alloc ?_ (by first | omega | (simp; done) | (simp; omega)) _ | refine Below.setCell ?_ (by first | omega | (simp; done) | (simp; omega)) _ | refine Below.drew ?_))
  have hXa := (Blok.new w 35 #[.int .i64 a.fr, .int .i64 a.tn, .int .i64 a.st, .int .i64 a.en, .int .i64 a.ow]).alloc (.cells #[.int .i64 b.fr, .int .i64 b.tn, .int .i64 b.st, .int .i64 b.en, .int .i64 b.ow] 35)
  have hXb := Blok.new (w.alloc (.cells #[.int .i64 a.fr, .int .i64 a.tn, .int .i64 a.st, .int .i64 a.en, .int .i64 a.ow] 35)) 35 #[.int .i64 b.fr, .int .i64 b.tn, .int .i64 b.st, .int .i64 b.en, .int .i64 b.ow]
  have hs := hB.size
  simp only [World.size_alloc] at hXb
  by_cases h0 : waysI a b = 0
  · have h0' := waysI_zero.1 h0
    by_cases h1 : a.st < b.en
    all_goals
      by_cases h2 : b.st < a.en
      all_goals
        have hres : overR a b = (decide (a.st < b.en) && decide (b.st < a.en)) := by simp [overR, h0'.1, h0'.2]
        rw [hres]
        have H0 := Lib.hid h0
        clear h0 h0' hres
        go_enter Tryz.func69, Tryz.ntmps69
        go_wp2_with fail
        generalize ((w.alloc (.cells #[.int .i64 a.fr, .int .i64 a.tn, .int .i64 a.st, .int .i64 a.en, .int .i64 a.ow] 35)).alloc (.cells #[.int .i64 b.fr, .int .i64 b.tn, .int .i64 b.st, .int .i64 b.en, .int .i64 b.ow] 35)) = w2 at *
        refine (H0.out ▸ ways_any a b w2).mono ?_
        rintro e w3 ⟨rfl, hb3⟩
        replace hXa := hXa.below hb3 hXa.lt
        replace hXb := hXb.below hb3 hXb.lt
        have ha2 : w3.cell? ⟨w.heap.size, 2, none⟩ = some (.int .i64 a.st) := hXa.cell 2
        have ha3 : w3.cell? ⟨w.heap.size, 3, none⟩ = some (.int .i64 a.en) := hXa.cell 3
        have hb2 : w3.cell? ⟨w.heap.size + 1, 2, none⟩ = some (.int .i64 b.st) := hXb.cell 2
        have hb3' : w3.cell? ⟨w.heap.size + 1, 3, none⟩ = some (.int .i64 b.en) := hXb.cell 3
        replace hB := hB.trans (hb3.mono hs)
        clear hXa hXb hb3
        go_wp2
        go_ret
        exact ⟨by simp [h1, h2], hB⟩
  · have hz : (waysI a b == 0) = false := by simpa using h0
    have hres : overR a b = false := by
      have h3 := fun h => h0 (waysI_zero.2 h)
      simp only [overR, decide_eq_false_iff_not]
      intro h; exact h3 ⟨h.1, h.2.1⟩
    rw [hres]
    generalize hy : waysI a b = y at *
    have HY := Lib.hid hy
    clear h0 hres hy
    go_enter Tryz.func69, Tryz.ntmps69
    go_wp2_with fail
    generalize ((w.alloc (.cells #[.int .i64 a.fr, .int .i64 a.tn, .int .i64 a.st, .int .i64 a.en, .int .i64 a.ow] 35)).alloc (.cells #[.int .i64 b.fr, .int .i64 b.tn, .int .i64 b.st, .int .i64 b.en, .int .i64 b.ow] 35)) = w2 at *
    refine (HY.out ▸ ways_any a b w2).mono ?_
    rintro e w3 ⟨rfl, hb3⟩
    replace hB := hB.trans (hb3.mono hs)
    clear hXa hXb hb3
    go_wp2
    go_ret
    exact ⟨rfl, hB⟩
set_option maxHeartbeats 1000000 in
set_option maxRecDepth 100000 in
theorem begins1_any (x r : Rg) (g : Nat) (w : World) (hR : Blok w g 35 #[.int .i64 r.fr, .int .i64 r.tn, .int .i64 r.st, .int .i64 r.en, .int .i64 r.ow]) : Calls Tryz.prog 155 #[.agg #[.int .i64 x.fr, .int .i64 x.tn, .int .i64 x.st, .int .i64 x.en, .int .i64 x.ow], .pointer (some ⟨g, 0, none⟩)] w fun e w' => e = .returned (.bool (sameR x r)) ∧ Below w.heap.size w w' := by
  have hB : Below w.heap.size w (w.alloc (.cells #[.int .i64 x.fr, .int .i64 x.tn, .int .i64 x.st, .int .i64 x.en, .int .i64 x.ow] 35)) := by (repeat (first | exact Below.refl _ _ | refine Below.alloc ?_ (by first | omega | (simp; done) | (simp; omega)) _ | refine Below.setCell ?_ (by first | omega | (simp; done) | (simp; omega)) _ | refine Below.drew ?_))
  replace hR := hR.alloc (.cells #[.int .i64 x.fr, .int .i64 x.tn, .int .i64 x.st, .int .i64 x.en, .int .i64 x.ow] 35)
  have r0 : (w.alloc (.cells #[.int .i64 x.fr, .int .i64 x.tn, .int .i64 x.st, .int .i64 x.en, .int .i64 x.ow] 35)).cell? ⟨g, 0, none⟩ = some (.int .i64 r.fr) := hR.cell 0
  have r1 : (w.alloc (.cells #[.int .i64 x.fr, .int .i64 x.tn, .int .i64 x.st, .int .i64 x.en, .int .i64 x.ow] 35)).cell? ⟨g, 1, none⟩ = some (.int .i64 r.tn) := hR.cell 1
  have r2 : (w.alloc (.cells #[.int .i64 x.fr, .int .i64 x.tn, .int .i64 x.st, .int .i64 x.en, .int .i64 x.ow] 35)).cell? ⟨g, 2, none⟩ = some (.int .i64 r.st) := hR.cell 2
  have r3 : (w.alloc (.cells #[.int .i64 x.fr, .int .i64 x.tn, .int .i64 x.st, .int .i64 x.en, .int .i64 x.ow] 35)).cell? ⟨g, 3, none⟩ = some (.int .i64 r.en) := hR.cell 3
  have r4 : (w.alloc (.cells #[.int .i64 x.fr, .int .i64 x.tn, .int .i64 x.st, .int .i64 x.en, .int .i64 x.ow] 35)).cell? ⟨g, 4, none⟩ = some (.int .i64 r.ow) := hR.cell 4
  have hx : (cmpR x r == 0) = sameR x r := by
    rw [Bool.eq_iff_iff, beq_iff_eq, cmpR_zero]
    simp [sameR]
  have HX := Lib.hid hx
  clear hR hx
  generalize hy : cmpR x r = y at *
  have HY := Lib.hid hy
  clear hy
  go_enter Tryz.func155, Tryz.ntmps155
  go_wp2_with fail
  generalize w.alloc (.cells #[.int .i64 x.fr, .int .i64 x.tn, .int .i64 x.st, .int .i64 x.en, .int .i64 x.ow] 35) = w2 at *
  have hs := hB.size
  refine (HY.out ▸ cmpR_any x r w2).mono ?_
  rintro e w3 ⟨rfl, hb3⟩
  replace hB := hB.trans (hb3.mono hs)
  clear hb3 r0 r1 r2 r3 r4
  go_wp2
  go_ret
  exact ⟨by rw [← HX.out]; rfl, hB⟩
set_option maxHeartbeats 1000000 in
set_option maxRecDepth 100000 in
theorem may1_any (x r : Rg) (g : Nat) (w : World) (hR : Blok w g 35 #[.int .i64 r.fr, .int .i64 r.tn, .int .i64 r.st, .int .i64 r.en, .int .i64 r.ow]) : Calls Tryz.prog 153 #[.agg #[.int .i64 x.fr, .int .i64 x.tn, .int .i64 x.st, .int .i64 x.en, .int .i64 x.ow], .pointer (some ⟨g, 0, none⟩)] w fun e w' => e = .returned (.bool (overR x r)) ∧ Below w.heap.size w w' := by
  have hB : Below w.heap.size w (w.alloc (.cells #[.int .i64 x.fr, .int .i64 x.tn, .int .i64 x.st, .int .i64 x.en, .int .i64 x.ow] 35)) := by (repeat (first | exact Below.refl _ _ | refine Below.alloc ?_ (by first | omega | (simp; done) | (simp; omega)) _ | refine Below.setCell ?_ (by first | omega | (simp; done) | (simp; omega)) _ | refine Below.drew ?_))
  replace hR := hR.alloc (.cells #[.int .i64 x.fr, .int .i64 x.tn, .int .i64 x.st, .int .i64 x.en, .int .i64 x.ow] 35)
  have r0 : (w.alloc (.cells #[.int .i64 x.fr, .int .i64 x.tn, .int .i64 x.st, .int .i64 x.en, .int .i64 x.ow] 35)).cell? ⟨g, 0, none⟩ = some (.int .i64 r.fr) := hR.cell 0
  have r1 : (w.alloc (.cells #[.int .i64 x.fr, .int .i64 x.tn, .int .i64 x.st, .int .i64 x.en, .int .i64 x.ow] 35)).cell? ⟨g, 1, none⟩ = some (.int .i64 r.tn) := hR.cell 1
  have r2 : (w.alloc (.cells #[.int .i64 x.fr, .int .i64 x.tn, .int .i64 x.st, .int .i64 x.en, .int .i64 x.ow] 35)).cell? ⟨g, 2, none⟩ = some (.int .i64 r.st) := hR.cell 2
  have r3 : (w.alloc (.cells #[.int .i64 x.fr, .int .i64 x.tn, .int .i64 x.st, .int .i64 x.en, .int .i64 x.ow] 35)).cell? ⟨g, 3, none⟩ = some (.int .i64 r.en) := hR.cell 3
  have r4 : (w.alloc (.cells #[.int .i64 x.fr, .int .i64 x.tn, .int .i64 x.st, .int .i64 x.en, .int .i64 x.ow] 35)).cell? ⟨g, 4, none⟩ = some (.int .i64 r.ow) := hR.cell 4
  clear hR
  generalize hy : overR x r = y at *
  have HY := Lib.hid hy
  clear hy
  go_enter Tryz.func153, Tryz.ntmps153
  go_wp2_with fail
  generalize w.alloc (.cells #[.int .i64 x.fr, .int .i64 x.tn, .int .i64 x.st, .int .i64 x.en, .int .i64 x.ow] 35) = w2 at *
  have hs := hB.size
  refine (HY.out ▸ over_any x r w2).mono ?_
  rintro e w3 ⟨rfl, hb3⟩
  replace hB := hB.trans (hb3.mono hs)
  clear hb3 r0 r1 r2 r3 r4
  go_wp2
  go_ret
  exact ⟨rfl, hB⟩
set_option maxRecDepth 100000 in
theorem expire1_any (x : Rg) (now : Int) (g : Nat) (w : World) (hR : Blok w g 3 #[.int .i64 now]) : Calls Tryz.prog 92 #[.agg #[.int .i64 x.fr, .int .i64 x.tn, .int .i64 x.st, .int .i64 x.en, .int .i64 x.ow], .pointer (some ⟨g, 0, none⟩)] w fun e w' => e = .returned (.bool (decide (x.en ≤ now))) ∧ Below w.heap.size w w' := by
  have r0 : w.cell? ⟨g, 0, none⟩ = some (.int .i64 now) := hR.cell 0
  have hl := hR.lt
  clear hR
  go_enter Tryz.func92, Tryz.ntmps92
  go_wp2
  all_goals go_ret
  all_goals exact ⟨rfl, by (repeat (first | exact Below.refl _ _ | refine Below.alloc ?_ (by first | omega | (simp; done) | (simp; omega)) _ | refine Below.setCell ?_ (by first | omega | (simp; done) | (simp; omega)) _ | refine Below.drew ?_))⟩
theorem pred_begins (r : Rg) (g : Nat) (row : Option Nat) (w : World) (hR : Blok w g 35 #[.int .i64 r.fr, .int .i64 r.tn, .int .i64 r.st, .int .i64 r.en, .int .i64 r.ow]) (hr : row ≠ some g) : PredRg 155 #[.pointer (some ⟨g, 0, none⟩)] row w (fun x => sameR x r) :=
  ⟨enter_run Tryz.func155 rfl rfl, fun w' hg x => begins1_any x r g w' (hR.grown hg (fun e => hr e.symm))⟩
theorem pred_may (r : Rg) (g : Nat) (row : Option Nat) (w : World) (hR : Blok w g 35 #[.int .i64 r.fr, .int .i64 r.tn, .int .i64 r.st, .int .i64 r.en, .int .i64 r.ow]) (hr : row ≠ some g) : PredRg 153 #[.pointer (some ⟨g, 0, none⟩)] row w (fun x => overR x r) :=
  ⟨enter_run Tryz.func153 rfl rfl, fun w' hg x => may1_any x r g w' (hR.grown hg (fun e => hr e.symm))⟩
theorem pred_expire (now : Int) (g : Nat) (row : Option Nat) (w : World) (hR : Blok w g 3 #[.int .i64 now]) (hr : row ≠ some g) : PredRg 92 #[.pointer (some ⟨g, 0, none⟩)] row w (fun x => decide (x.en ≤ now)) :=
  ⟨enter_run Tryz.func92 rfl rfl, fun w' hg x => expire1_any x now g w' (hR.grown hg (fun e => hr e.symm))⟩
theorem cmp_ranges (t : Rg) (w : World) : CmpRg 68 #[] t w (fun x => cmpR x t) :=
  ⟨enter_run Tryz.func68 rfl rfl, fun w' _ x => cmpR_any x t w'⟩
end Go.Proofs.YtolaabllhibkdaaGreat.Kr

/- Package ranges: begins, mayAdd, Add, Delete, Change, Expire, Same. -/
namespace Go.Proofs.YtolaabllhibkdaaGreat.Kr
open Go.ChangeShapes Go.WideShapes Go.ChangeAt Go.RowKit Go.Sort
set_option linter.unusedSimpArgs false
set_option linter.unusedVariables false
def delCode (q n : Nat) : Int := if q = n then 6 else 0
set_option maxRecDepth 100000 in
theorem begins_any (r : Rg) (w : World) : Calls Tryz.prog 139 #[.agg #[.int .i64 r.fr, .int .i64 r.tn, .int .i64 r.st, .int .i64 r.en, .int .i64 r.ow]] w fun e w' => ∃ g, e = .returned (.func (.func 155) #[] #[.pointer (some ⟨g, 0, none⟩)]) ∧ Blok w' g 35 #[.int .i64 r.fr, .int .i64 r.tn, .int .i64 r.st, .int .i64 r.en, .int .i64 r.ow] ∧ w.heap.size ≤ g ∧ Below w.heap.size w w' := by
  go_enter Tryz.func139, Tryz.ntmps139
  go_wp2
  go_ret
  exact ⟨w.heap.size, rfl, Blok.new w _ _, Nat.le_refl _, by (repeat (first | exact Below.refl _ _ | refine Below.alloc ?_ (by first | omega | (simp; done) | (simp; omega)) _ | refine Below.setCell ?_ (by first | omega | (simp; done) | (simp; omega)) _ | refine Below.drew ?_))⟩
set_option maxRecDepth 100000 in
theorem same_any (A A' : Option Addr) (n c n' c' : Nat) (d d' : List Rg) (w : World) (hd : d.length = n) (hd' : d'.length = n') (hn : n ≤ 1000000) (hn' : n' ≤ 1000000) (h : Sl w w.heap.size 5 A n c (flatRg d)) (h' : Sl w w.heap.size 5 A' n' c' (flatRg d')) :
    Calls Tryz.prog 30 #[.slice A n c, .slice A' n' c'] w fun e w' => e = .returned (.bool (decide (d = d'))) ∧ Below w.heap.size w w' := by
  have HD := Lib.hid hd
  have HD' := Lib.hid hd'
  obtain ⟨b, hb⟩ : ∃ b, decide (d = d') = b := ⟨_, rfl⟩
  rw [hb]
  have HB := Lib.hid hb
  clear hd hd' hb
  go_enter Tryz.func30, Tryz.ntmps30
  go_wp2_with fail
  refine (HB.out ▸ equalRg A A' n c n' c' d d' w HD.out HD'.out hn hn' h h').mono ?_
  rintro e w1 ⟨rfl, hB⟩
  go_wp2
  go_ret
  exact ⟨rfl, hB⟩
set_option maxHeartbeats 1000000 in
set_option maxRecDepth 100000 in
theorem expire_any (A : Option Addr) (n c : Nat) (d : List Rg) (now : Int) (w : World) (hd : d.length = n) (hn : n ≤ 1000000) (h : Sl w w.heap.size 5 A n c (flatRg d)) :
    Calls Tryz.prog 57 #[.slice A n c, .int .i64 now] w fun e w' => ∃ v, e = .returned v ∧ w'.ownsRow w.heap.size 35 5 v (d.filter (fun x => !decide (x.en ≤ now))).length (flatRg (d.filter (fun x => !decide (x.en ≤ now)))) ∧ Below w.heap.size w w' := by
  have hBa : Below w.heap.size w (w.alloc (.cells #[.int .i64 now] 3)) := by (repeat (first | exact Below.refl _ _ | refine Below.alloc ?_ (by first | omega | (simp; done) | (simp; omega)) _ | refine Below.setCell ?_ (by first | omega | (simp; done) | (simp; omega)) _ | refine Below.drew ?_))
  have hX := Blok.new w 3 #[.int .i64 now]
  have hs := h.up hBa
  have HD := Lib.hid hd
  clear hd h
  go_enter Tryz.func57, Tryz.ntmps57
  go_wp2_with fail
  have hsz : (w.alloc (.cells #[.int .i64 now] 3)).heap.size = w.heap.size + 1 := by simp
  generalize w.alloc (.cells #[.int .i64 now] 3) = w2 at *
  have HSZ := Lib.hid hsz
  clear hsz
  refine (cloneRg A n c d w2 HD.out hn hs).mono ?_
  rintro e w3 ⟨v, rfl, hown, hb3⟩
  have hX3 := hX.below hb3 hX.lt
  go_wp2_with fail
  refine (deleteRg v n d _ _ _ w3 _ HD.out hn hown (pred_expire now w.heap.size v.ownBlock w3 hX3 (fun e => by have := (hown.lt _ e).1; have := HSZ.out; omega))).mono ?_
  rintro e w4 ⟨v', rfl, hown', hg4⟩
  have hfin : Below w.heap.size w w4 := Below.grown (hBa.trans (hb3.mono hBa.size)) hg4 (Nat.le_trans hBa.size hb3.size) (fun k hk => by have := (hown.lt k hk).1; have := HSZ.out; omega)
  have hown5 : w4.ownsRow w.heap.size 35 5 v' (d.filter (fun x => !decide (x.en ≤ now))).length (flatRg (d.filter (fun x => !decide (x.en ≤ now)))) := own_down hown' (by have := HSZ.out; omega)
  clear hown' hg4 hown hb3 hX3 hX hs
  obtain ⟨q, hq⟩ : ∃ q, (d.filter (fun x => !decide (x.en ≤ now))).length = q := ⟨_, rfl⟩
  rw [hq] at hown5
  have HQ := Lib.hid hq
  clear hq
  obtain ⟨A5, c5, rfl⟩ := slice_of_own hown5
  go_wp2
  go_ret
  exact ⟨_, rfl, by rw [HQ.out]; exact hown5, hfin⟩
set_option maxHeartbeats 1000000 in
set_option maxRecDepth 100000 in
theorem del_any (A : Option Addr) (n c : Nat) (d : List Rg) (r : Rg) (w : World) (hd : d.length = n) (hn : n ≤ 1000000) (h : Sl w w.heap.size 5 A n c (flatRg d)) :
    Calls Tryz.prog 106 #[.slice A n c, .agg #[.int .i64 r.fr, .int .i64 r.tn, .int .i64 r.st, .int .i64 r.en, .int .i64 r.ow]] w fun e w' => ∃ v, e = .returned (.tuple #[v, .int .i64 (delCode (d.filter (fun x => !sameR x r)).length n)]) ∧ w'.ownsRow w.heap.size 35 5 v (d.filter (fun x => !sameR x r)).length (flatRg (d.filter (fun x => !sameR x r))) ∧ Below w.heap.size w w' := by
  have hBa : Below w.heap.size w (w.alloc (.cells #[.int .i64 r.fr, .int .i64 r.tn, .int .i64 r.st, .int .i64 r.en, .int .i64 r.ow] 35)) := by (repeat (first | exact Below.refl _ _ | refine Below.alloc ?_ (by first | omega | (simp; done) | (simp; omega)) _ | refine Below.setCell ?_ (by first | omega | (simp; done) | (simp; omega)) _ | refine Below.drew ?_))
  have hX := Blok.new w 35 #[.int .i64 r.fr, .int .i64 r.tn, .int .i64 r.st, .int .i64 r.en, .int .i64 r.ow]
  have hs := h.up hBa
  have HD := Lib.hid hd
  clear hd h
  go_enter Tryz.func106, Tryz.ntmps106
  go_wp2_with fail
  have hsz : w.heap.size < (w.alloc (.cells #[.int .i64 r.fr, .int .i64 r.tn, .int .i64 r.st, .int .i64 r.en, .int .i64 r.ow] 35)).heap.size := by simp
  generalize w.alloc (.cells #[.int .i64 r.fr, .int .i64 r.tn, .int .i64 r.st, .int .i64 r.en, .int .i64 r.ow] 35) = w2 at *
  have hx0 : w2.cell? ⟨w.heap.size, 0, none⟩ = some (.int .i64 r.fr) := hX.cell 0
  have hx1 : w2.cell? ⟨w.heap.size, 1, none⟩ = some (.int .i64 r.tn) := hX.cell 1
  have hx2 : w2.cell? ⟨w.heap.size, 2, none⟩ = some (.int .i64 r.st) := hX.cell 2
  have hx3 : w2.cell? ⟨w.heap.size, 3, none⟩ = some (.int .i64 r.en) := hX.cell 3
  have hx4 : w2.cell? ⟨w.heap.size, 4, none⟩ = some (.int .i64 r.ow) := hX.cell 4
  replace hX : Blok w2.drew w.heap.size 35 #[.int .i64 r.fr, .int .i64 r.tn, .int .i64 r.st, .int .i64 r.en, .int .i64 r.ow] := hX
  replace hs : Sl w2.drew w2.drew.heap.size 5 A n c (flatRg d) := hs.up ((Below.refl _ _).drew)
  replace hBa : Below w.heap.size w w2.drew := hBa.drew
  go_region_law (first
      | (refine step_call rfl 46 #[.tmp 7] _ rfl #[.slice A n c] (by simp [Act.eval, Act.put]) Tryz.func46 rfl rfl ?_; refine Calls.mono (cloneRg A n c d _ HD.out hn (by first | exact hs | exact hs.up hbb)) ?_; rintro e w3 ⟨v, rfl, hown, hb3⟩; refine ⟨_, rfl, ?_⟩; first | have hG2 := hG.below hb3 hG.lt | (have hX3 := hX.below hb3 hX.lt; have hy0 : w3.cell? ⟨w.heap.size, 0, none⟩ = some (.int .i64 r.fr) := hX3.cell 0; have hy1 : w3.cell? ⟨w.heap.size, 1, none⟩ = some (.int .i64 r.tn) := hX3.cell 1; have hy2 : w3.cell? ⟨w.heap.size, 2, none⟩ = some (.int .i64 r.st) := hX3.cell 2; have hy3 : w3.cell? ⟨w.heap.size, 3, none⟩ = some (.int .i64 r.en) := hX3.cell 3; have hy4 : w3.cell? ⟨w.heap.size, 4, none⟩ = some (.int .i64 r.ow) := hX3.cell 4))
      | (refine step_call rfl 139 #[.tmp 9] _ rfl #[.agg #[.int .i64 r.fr, .int .i64 r.tn, .int .i64 r.st, .int .i64 r.en, .int .i64 r.ow]] (by simp [Act.eval, Act.put]) Tryz.func139 rfl rfl ?_; refine Calls.mono (begins_any r _) ?_; rintro e w4 ⟨g, rfl, hG, hg0, hbb⟩; refine ⟨_, rfl, ?_⟩; first | have hown2 := hown.kept (grown_of_below (row := some w3.heap.size) hbb) (.inr (fun e => by have := (hown.lt _ e).2; omega)) | skip)
      | (refine step_call rfl 91 #[.tmp 8, .tmp 10] _ rfl #[v, .func (.func 155) #[] #[.pointer (some ⟨g, 0, none⟩)]] (by simp [Act.eval, Act.put]) Tryz.func91 rfl rfl ?_; first
          | (refine Calls.mono (deleteRg v n d _ _ _ _ _ HD.out hn hown2 (pred_begins r g v.ownBlock _ hG (fun e => by have := (hown.lt _ e).2; omega))) ?_; rintro e w5 ⟨v', rfl, hown', hg4⟩; refine ⟨_, rfl, ?_⟩; have hfin : Below w.heap.size w w5 := Below.grown (hBa.trans ((hb3.mono hBa.size).trans (hbb.mono (Nat.le_trans hBa.size hb3.size)))) hg4 (Nat.le_trans hBa.size (Nat.le_trans hb3.size hbb.size)) (fun k hk => Nat.le_trans hBa.size (hown.lt k hk).1); have hown5 := own_down (base' := w.heap.size) hown' hBa.size)
          | (refine Calls.mono (deleteRg v n d _ _ _ _ _ HD.out hn hown (pred_begins r g v.ownBlock _ hG2 (fun e => by have := (hown.lt _ e).1; have := hG.lt; omega))) ?_; rintro e w5 ⟨v', rfl, hown', hg4⟩; refine ⟨_, rfl, ?_⟩; have hfin : Below w.heap.size w w5 := Below.grown (hBa.trans ((hbb.mono hBa.size).trans (hb3.mono (Nat.le_trans hBa.size hbb.size)))) hg4 (Nat.le_trans hBa.size (Nat.le_trans hbb.size hb3.size)) (fun k hk => Nat.le_trans (Nat.le_trans hBa.size hbb.size) (hown.lt k hk).1); have hown5 := own_down (base' := w.heap.size) hown' (Nat.le_trans hBa.size hbb.size))))
  all_goals
    clear hown' hg4 hG hown hb3 hbb hX hs hx0 hx1 hx2 hx3 hx4
    obtain ⟨q, hq⟩ : ∃ q, (d.filter (fun x => !sameR x r)).length = q := ⟨_, rfl⟩
    rw [hq] at hown5
    have HQ := Lib.hid hq
    clear hq
    obtain ⟨A5, c5, rfl⟩ := slice_of_own hown5
    by_cases hqn : q = n
    · have hqb : ((q : Int) == (n : Int)) = true := by simp [hqn]
      have HQN := Lib.hid hqn
      clear hqn
      go_wp2
      go_ret2
      refine ⟨_, ?_, by rw [HQ.out]; exact hown5, hfin⟩
      rw [HQ.out, delCode, if_pos HQN.out]; rfl
    · have hqb : ((q : Int) == (n : Int)) = false := beq_eq_false_iff_ne.2 (by omega)
      go_wp2
      go_ret2
      refine ⟨_, ?_, by rw [HQ.out]; exact hown5, hfin⟩
      rw [HQ.out, delCode, if_neg hqn]; rfl
end Go.Proofs.YtolaabllhibkdaaGreat.Kr

/- Package ranges: mayAdd, Add, Change. -/
namespace Go.Proofs.YtolaabllhibkdaaGreat.Kr
open Go.ChangeShapes Go.WideShapes Go.ChangeAt Go.RowKit Go.Sort
set_option linter.unusedSimpArgs false
set_option linter.unusedVariables false
def okR (r : Rg) : Bool := rangeB r.fr r.tn r.st r.en r.ow
def mayF (d : List Rg) (r : Rg) : Int := if okR r = false then 1 else if 4096 ≤ d.length then 3 else if d.any (fun o => overR o r) = true then 5 else 0
theorem okR_call (r : Rg) (w : World) (b : Bool) (h : okR r = b) : Calls Tryz.prog 67 #[.agg #[.int .i64 r.fr, .int .i64 r.tn, .int .i64 r.st, .int .i64 r.en, .int .i64 r.ow]] w fun e w' => e = .returned (.bool b) ∧ Below w.heap.size w w' := range_is b h w
set_option maxHeartbeats 1000000 in
set_option maxRecDepth 100000 in
theorem mayAdd_any (A : Option Addr) (n c : Nat) (d : List Rg) (r : Rg) (w : World) (hd : d.length = n) (hn : n ≤ 1000000) (h : Sl w w.heap.size 5 A n c (flatRg d)) :
    Calls Tryz.prog 136 #[.slice A n c, .agg #[.int .i64 r.fr, .int .i64 r.tn, .int .i64 r.st, .int .i64 r.en, .int .i64 r.ow]] w fun e w' => e = .returned (.int .i64 (mayF d r)) ∧ Below w.heap.size w w' := by
  have hBa : Below w.heap.size w (w.alloc (.cells #[.int .i64 r.fr, .int .i64 r.tn, .int .i64 r.st, .int .i64 r.en, .int .i64 r.ow] 35)) := by (repeat (first | exact Below.refl _ _ | refine Below.alloc ?_ (by first | omega | (simp; done) | (simp; omega)) _ | refine Below.setCell ?_ (by first | omega | (simp; done) | (simp; omega)) _ | refine Below.drew ?_))
  have hX := Blok.new w 35 #[.int .i64 r.fr, .int .i64 r.tn, .int .i64 r.st, .int .i64 r.en, .int .i64 r.ow]
  have hs := h.up hBa
  have HD := Lib.hid hd
  have hsz : w.heap.size < (w.alloc (.cells #[.int .i64 r.fr, .int .i64 r.tn, .int .i64 r.st, .int .i64 r.en, .int .i64 r.ow] 35)).heap.size := by simp
  clear h
  cases h1 : okR r with
  | false =>
    have hf : mayF d r = 1 := by unfold mayF; rw [if_pos h1]
    rw [hf]
    have H1 := Lib.hid h1
    clear h1 hf hd
    go_enter Tryz.func136, Tryz.ntmps136
    go_wp2_with fail
    generalize w.alloc (.cells #[.int .i64 r.fr, .int .i64 r.tn, .int .i64 r.st, .int .i64 r.en, .int .i64 r.ow] 35) = w2 at *
    refine (okR_call r w2 false H1.out).mono ?_
    rintro e w3 ⟨rfl, hb3⟩
    replace hBa := hBa.trans (hb3.mono hBa.size)
    clear hb3 hs hX
    go_wp2
    go_ret
    exact ⟨rfl, hBa⟩
  | true =>
    by_cases h2 : 4096 ≤ n
    · have hf : mayF d r = 3 := by unfold mayF; rw [if_neg (by rw [h1]; simp), if_pos (by omega)]
      rw [hf]
      have H1 := Lib.hid h1
      clear h1 hf hd
      go_enter Tryz.func136, Tryz.ntmps136
      go_wp2_with fail
      generalize w.alloc (.cells #[.int .i64 r.fr, .int .i64 r.tn, .int .i64 r.st, .int .i64 r.en, .int .i64 r.ow] 35) = w2 at *
      refine (okR_call r w2 true H1.out).mono ?_
      rintro e w3 ⟨rfl, hb3⟩
      replace hBa := hBa.trans (hb3.mono hBa.size)
      clear hb3 hs hX
      go_wp2
      go_ret
      exact ⟨rfl, hBa⟩
    · obtain ⟨b, hb⟩ : ∃ b, d.any (fun o => overR o r) = b := ⟨_, rfl⟩
      have hf : mayF d r = if b = true then 5 else 0 := by unfold mayF; rw [if_neg (by rw [h1]; simp), if_neg (by omega), hb]
      rw [hf]
      have H1 := Lib.hid h1
      have HB := Lib.hid hb
      clear h1 hf hd hb
      cases b
      all_goals
        go_enter Tryz.func136, Tryz.ntmps136
        go_wp2_with fail
        generalize w.alloc (.cells #[.int .i64 r.fr, .int .i64 r.tn, .int .i64 r.st, .int .i64 r.en, .int .i64 r.ow] 35) = w2 at *
        refine (okR_call r w2 true H1.out).mono ?_
        rintro e w3 ⟨rfl, hb3⟩
        replace hs := hs.up hb3
        replace hX := hX.below hb3 hX.lt
        replace hBa := hBa.trans (hb3.mono hBa.size)
        clear hb3
        go_wp2_with fail
        refine (HB.out ▸ containsRg A n c d _ _ none _ w3 HD.out hn hs (pred_may r w.heap.size none w3 hX (by simp))).mono ?_
        rintro e w4 ⟨rfl, hb4⟩
        replace hBa := hBa.trans (hb4.mono hBa.size)
        clear hb4 hs hX
        go_wp2
        go_ret
        exact ⟨rfl, hBa⟩
set_option maxHeartbeats 1000000 in
set_option maxRecDepth 100000 in
theorem add_no (A : Option Addr) (n c : Nat) (d : List Rg) (r : Rg) (w : World) (q : Int) (hd : d.length = n) (hn : n ≤ 1000000) (h : Sl w w.heap.size 5 A n c (flatRg d)) (hq : mayF d r = q) (hq0 : q ≠ 0) :
    Calls Tryz.prog 105 #[.slice A n c, .agg #[.int .i64 r.fr, .int .i64 r.tn, .int .i64 r.st, .int .i64 r.en, .int .i64 r.ow]] w fun e w' => ∃ v, e = .returned (.tuple #[v, .int .i64 q]) ∧ w'.ownsRow w.heap.size 35 5 v n (flatRg d) ∧ Below w.heap.size w w' := by
  have hBa : Below w.heap.size w (w.alloc (.cells #[.int .i64 r.fr, .int .i64 r.tn, .int .i64 r.st, .int .i64 r.en, .int .i64 r.ow] 35)) := by (repeat (first | exact Below.refl _ _ | refine Below.alloc ?_ (by first | omega | (simp; done) | (simp; omega)) _ | refine Below.setCell ?_ (by first | omega | (simp; done) | (simp; omega)) _ | refine Below.drew ?_))
  have hs := h.up hBa
  have HD := Lib.hid hd
  have HQ := Lib.hid hq
  have hqb : (q != 0) = true := by simpa using hq0
  have hsz : w.heap.size < (w.alloc (.cells #[.int .i64 r.fr, .int .i64 r.tn, .int .i64 r.st, .int .i64 r.en, .int .i64 r.ow] 35)).heap.size := by simp
  clear h hd hq hq0
  go_enter Tryz.func105, Tryz.ntmps105
  go_wp2_with fail
  generalize w.alloc (.cells #[.int .i64 r.fr, .int .i64 r.tn, .int .i64 r.st, .int .i64 r.en, .int .i64 r.ow] 35) = w2 at *
  refine (HQ.out ▸ mayAdd_any A n c d r w2 HD.out hn hs).mono ?_
  rintro e w3 ⟨rfl, hb3⟩
  replace hs := hs.up hb3
  replace hBa := hBa.trans (hb3.mono hBa.size)
  clear hb3
  go_wp2_with fail
  refine (cloneRg A n c d w3 HD.out hn hs).mono ?_
  rintro e w4 ⟨v, rfl, hown, hb4⟩
  have hown5 := own_down (base' := w.heap.size) hown hBa.size
  replace hBa := hBa.trans (hb4.mono hBa.size)
  clear hown hb4 hs
  obtain ⟨A5, c5, rfl⟩ := slice_of_own hown5
  go_wp2
  go_ret2
  exact ⟨_, rfl, hown5, hBa⟩
theorem concat3Rg (g cO : Nat) (T : TypeId) (A0 A1 A2 : Option Addr) (n0 n1 n2 c0 c1 c2 : Nat) (d0 d1 d2 : List Rg) (w : World) (hd0 : d0.length = n0) (hd1 : d1.length = n1) (hd2 : d2.length = n2) (hn : n0 + n1 + n2 ≤ 1000000)
    (hO : Blok w g T #[.slice A0 n0 c0, .slice A1 n1 c1, .slice A2 n2 c2]) (h0 : Sl w w.heap.size 5 A0 n0 c0 (flatRg d0)) (h1 : Sl w w.heap.size 5 A1 n1 c1 (flatRg d1)) (h2 : Sl w w.heap.size 5 A2 n2 c2 (flatRg d2)) :
    Calls Tryz.prog 138 #[.slice (some ⟨g, 0, none⟩) 3 cO] w fun e w' => ∃ v, e = .returned v ∧ w'.ownsRow w.heap.size 35 5 v (n0 + n1 + n2) (flatRg (d0 ++ d1 ++ d2)) ∧ Below w.heap.size w w' := by
  have e3 : catRg (fun k => if k = 0 then d0 else if k = 1 then d1 else d2) 3 = d0 ++ d1 ++ d2 := by simp [catRg]
  have h := concatRg g 3 cO (fun k => if k = 0 then A0 else if k = 1 then A1 else A2) (fun k => if k = 0 then n0 else if k = 1 then n1 else n2) (fun k => if k = 0 then c0 else if k = 1 then c1 else c2) (fun k => if k = 0 then d0 else if k = 1 then d1 else d2) w (by omega)
    (fun k hk => by
      have h3 : k = 0 ∨ k = 1 ∨ k = 2 := by omega
      rcases h3 with rfl | rfl | rfl <;> simpa) (by rw [e3]; simp; omega)
    (fun k hk => by
      have h3 : k = 0 ∨ k = 1 ∨ k = 2 := by omega
      rcases h3 with rfl | rfl | rfl <;> (rw [hO.cell]; simp))
    (fun k hk => by
      have h3 : k = 0 ∨ k = 1 ∨ k = 2 := by omega
      rcases h3 with rfl | rfl | rfl <;> simpa)
  rw [e3] at h
  refine h.mono ?_
  rintro e w' ⟨v, rfl, ho, hb⟩
  have hl : (d0 ++ d1 ++ d2).length = n0 + n1 + n2 := by simp; omega
  rw [hl] at ho
  exact ⟨v, rfl, ho, hb⟩
set_option maxHeartbeats 2000000 in
set_option maxRecDepth 100000 in
theorem add_yes (A : Option Addr) (n c : Nat) (d : List Rg) (r : Rg) (w : World) (hd : d.length = n) (hn : n ≤ 1000000 - 1) (h : Sl w w.heap.size 5 A n c (flatRg d)) (hq : mayF d r = 0) :
    Calls Tryz.prog 105 #[.slice A n c, .agg #[.int .i64 r.fr, .int .i64 r.tn, .int .i64 r.st, .int .i64 r.en, .int .i64 r.ow]] w fun e w' => ∃ v i, e = .returned (.tuple #[v, .int .i64 0]) ∧ i ≤ n ∧ (i = 0 ∨ cmpR (gRg d (i - 1)) r < 0) ∧ (i = n ∨ 0 ≤ cmpR (gRg d i) r) ∧ w'.ownsRow w.heap.size 35 5 v (n + 1) (flatRg (d.take i ++ [r] ++ d.drop i)) ∧ Below w.heap.size w w' := by
  have hBa : Below w.heap.size w (w.alloc (.cells #[.int .i64 r.fr, .int .i64 r.tn, .int .i64 r.st, .int .i64 r.en, .int .i64 r.ow] 35)) := by (repeat (first | exact Below.refl _ _ | refine Below.alloc ?_ (by first | omega | (simp; done) | (simp; omega)) _ | refine Below.setCell ?_ (by first | omega | (simp; done) | (simp; omega)) _ | refine Below.drew ?_))
  have hX := Blok.new w 35 #[.int .i64 r.fr, .int .i64 r.tn, .int .i64 r.st, .int .i64 r.en, .int .i64 r.ow]
  have hs := h.up hBa
  have HD := Lib.hid hd
  have HQ := Lib.hid hq
  have hcap := h.cap
  have hmax := h.max
  unfold maxLen at hmax
  have hsz : w.heap.size < (w.alloc (.cells #[.int .i64 r.fr, .int .i64 r.tn, .int .i64 r.st, .int .i64 r.en, .int .i64 r.ow] 35)).heap.size := by simp
  clear h hd hq
  go_enter Tryz.func105, Tryz.ntmps105
  go_wp2_with fail
  generalize w.alloc (.cells #[.int .i64 r.fr, .int .i64 r.tn, .int .i64 r.st, .int .i64 r.en, .int .i64 r.ow] 35) = w2 at *
  refine (HQ.out ▸ mayAdd_any A n c d r w2 HD.out (by omega) hs).mono ?_
  rintro e w3 ⟨rfl, hb3⟩
  replace hs := hs.up hb3
  replace hX := hX.below hb3 hX.lt
  replace hBa := hBa.trans (hb3.mono hBa.size)
  clear hb3
  have hx0 : w3.cell? ⟨w.heap.size, 0, none⟩ = some (.int .i64 r.fr) := hX.cell 0
  have hx1 : w3.cell? ⟨w.heap.size, 1, none⟩ = some (.int .i64 r.tn) := hX.cell 1
  have hx2 : w3.cell? ⟨w.heap.size, 2, none⟩ = some (.int .i64 r.st) := hX.cell 2
  have hx3 : w3.cell? ⟨w.heap.size, 3, none⟩ = some (.int .i64 r.en) := hX.cell 3
  have hx4 : w3.cell? ⟨w.heap.size, 4, none⟩ = some (.int .i64 r.ow) := hX.cell 4
  go_wp2_with fail
  clear hx0 hx1 hx2 hx3 hx4
  refine (binaryRg A n c d r _ _ _ w3 HD.out (by omega) hs (cmp_ranges r w3)).mono ?_
  rintro e w4 ⟨i, b, rfl, hi, hl, hu, hbv, hb4⟩
  have HL := Lib.hid hl
  have HU := Lib.hid hu
  replace hs := hs.up hb4
  replace hX := hX.below hb4 hX.lt
  replace hBa := hBa.trans (hb4.mono hBa.size)
  clear hb4 hl hu hbv
  have hx0 : w4.cell? ⟨w.heap.size, 0, none⟩ = some (.int .i64 r.fr) := hX.cell 0
  have hx1 : w4.cell? ⟨w.heap.size, 1, none⟩ = some (.int .i64 r.tn) := hX.cell 1
  have hx2 : w4.cell? ⟨w.heap.size, 2, none⟩ = some (.int .i64 r.st) := hX.cell 2
  have hx3 : w4.cell? ⟨w.heap.size, 3, none⟩ = some (.int .i64 r.en) := hX.cell 3
  have hx4 : w4.cell? ⟨w.heap.size, 4, none⟩ = some (.int .i64 r.ow) := hX.cell 4
  have hiI : (i : Int) ≤ (n : Int) := by omega
  have hic : i ≤ c := by omega
  have hicI : (i : Int) ≤ (c : Int) := by omega
  have hs1 := hs.upto hi
  have hs2 := hs.from_ hi
  rw [flatRg_take] at hs1
  rw [flatRg_drop] at hs2
  go_wp2_with fail
  have hdl : (d.drop i).length = n - i := by rw [List.length_drop, HD.out]
  have hdt : (d.take i).length = i := by rw [List.length_take, HD.out]; omega
  have HDL := Lib.hid hdl
  have HDT := Lib.hid hdt
  clear hdl hdt hX hs
  go_region_law (refine step_call rfl 138 #[.tmp 31] _ rfl #[.slice (some ⟨w4.heap.size + 1, 0, none⟩) 3 3] (by simp [Act.eval, Act.put]) Tryz.func138 rfl rfl ?_; refine Calls.mono (concat3Rg (w4.heap.size + 1) 3 23 A (some ⟨w4.heap.size, 0, none⟩) _ i 1 (n - i) c 1 (c - i) (d.take i) [r] (d.drop i) _ HDT.out rfl HDL.out (by omega) (by have h := Blok.new (w4.alloc (.cells #[.int .i64 r.fr, .int .i64 r.tn, .int .i64 r.st, .int .i64 r.en, .int .i64 r.ow] 35)) 23 #[.slice A i c, .slice (some ⟨w4.heap.size, 0, none⟩) 1 1, .slice (if c = i then A else Option.map (fun x => x.add (i * 5)) A) (n - i) (c - i)]; rw [World.size_alloc] at h; exact h) (hs1.up (by (repeat (first | exact Below.refl _ _ | refine Below.alloc ?_ (by first | omega | (simp; done) | (simp; omega)) _ | refine Below.setCell ?_ (by first | omega | (simp; done) | (simp; omega)) _ | refine Below.drew ?_)))) (by exact Sl.of_own ((own_lit w4 0 35 5 1 #[.int .i64 r.fr, .int .i64 r.tn, .int .i64 r.st, .int .i64 r.en, .int .i64 r.ow] (by omega) rfl (by simp [maxLen])).alloc _)) (hs2.up (by (repeat (first | exact Below.refl _ _ | refine Below.alloc ?_ (by first | omega | (simp; done) | (simp; omega)) _ | refine Below.setCell ?_ (by first | omega | (simp; done) | (simp; omega)) _ | refine Below.drew ?_))))) ?_; rintro e w5 ⟨v, rfl, hown, hb5⟩; refine ⟨_, rfl, ?_⟩)
  have hfin : Below w.heap.size w w5 := (hBa.trans (Below.mono (by (repeat (first | exact Below.refl _ _ | refine Below.alloc ?_ (by first | omega | (simp; done) | (simp; omega)) _ | refine Below.setCell ?_ (by first | omega | (simp; done) | (simp; omega)) _ | refine Below.drew ?_))) hBa.size)).trans (hb5.mono (by have := hBa.size; simp; omega))
  have hown6 := own_down (base' := w.heap.size) hown (by have := hBa.size; simp; omega)
  rw [show i + 1 + (n - i) = n + 1 from by omega] at hown6
  clear hown hb5 hs1 hs2 hx0 hx1 hx2 hx3 hx4
  obtain ⟨A6, c6, rfl⟩ := slice_of_own hown6
  generalize (if c = i then A else Option.map (fun x => x.add (i * 5)) A) = A30
  go_wp2
  go_ret2
  exact ⟨_, i, rfl, hi, HL.out, HU.out, hown6, hfin⟩
end Go.Proofs.YtolaabllhibkdaaGreat.Kr

/- Package ranges: Change, Right. -/
namespace Go.Proofs.YtolaabllhibkdaaGreat.Kr
open Go.ChangeShapes Go.WideShapes Go.ChangeAt Go.RowKit Go.Sort
set_option linter.unusedSimpArgs false
set_option linter.unusedVariables false
def withOw (p : Rg) (x : Int) : Rg := ⟨p.fr, p.tn, p.st, p.en, x⟩
theorem flatRg_ow : ∀ (d : List Rg) (i : Nat) (x : Int), i < d.length → (flatRg d).set (i * 5 + 4) (.int .i64 x) = flatRg (d.set i (withOw (gRg d i) x))
  | p :: d, 0, x, _ => rfl
  | p :: d, i + 1, x, h => by
    rw [flatRg_cons, show (i + 1) * 5 + 4 = i * 5 + 4 + 1 + 1 + 1 + 1 + 1 from by omega]
    simp only [List.set_cons_succ]
    rw [flatRg_ow d i x (by simpa using h)]
    rfl
set_option maxHeartbeats 2000000 in
set_option maxRecDepth 100000 in
theorem change_arg (A : Option Addr) (n c : Nat) (d : List Rg) (r : Rg) (w : World) (hd : d.length = n) (hn : n ≤ 1000000) (h : Sl w w.heap.size 5 A n c (flatRg d)) (ho : inB r.ow 0 2147483647 = false) :
    Calls Tryz.prog 107 #[.slice A n c, .agg #[.int .i64 r.fr, .int .i64 r.tn, .int .i64 r.st, .int .i64 r.en, .int .i64 r.ow]] w fun e w' => ∃ v, e = .returned (.tuple #[v, .int .i64 1]) ∧ w'.ownsRow w.heap.size 35 5 v n (flatRg d) ∧ Below w.heap.size w w' := by
  have hBa : Below w.heap.size w (w.alloc (.cells #[.int .i64 r.fr, .int .i64 r.tn, .int .i64 r.st, .int .i64 r.en, .int .i64 r.ow] 35)) := by (repeat (first | exact Below.refl _ _ | refine Below.alloc ?_ (by first | omega | (simp; done) | (simp; omega)) _ | refine Below.setCell ?_ (by first | omega | (simp; done) | (simp; omega)) _ | refine Below.drew ?_))
  have hX := Blok.new w 35 #[.int .i64 r.fr, .int .i64 r.tn, .int .i64 r.st, .int .i64 r.en, .int .i64 r.ow]
  have hs := h.up hBa
  have HD := Lib.hid hd
  have HO := Lib.hid ho
  have hsz : w.heap.size < (w.alloc (.cells #[.int .i64 r.fr, .int .i64 r.tn, .int .i64 r.st, .int .i64 r.en, .int .i64 r.ow] 35)).heap.size := by simp
  clear h hd ho
  go_enter Tryz.func107, Tryz.ntmps107
  go_wp2_with fail
  generalize w.alloc (.cells #[.int .i64 r.fr, .int .i64 r.tn, .int .i64 r.st, .int .i64 r.en, .int .i64 r.ow] 35) = w2 at *
  refine (cloneRg A n c d w2 HD.out hn hs).mono ?_
  rintro e w3 ⟨v, rfl, hown, hb3⟩
  replace hX := hX.below hb3 hX.lt
  have hown5 := own_down (base' := w.heap.size) hown hBa.size
  replace hBa := hBa.trans (hb3.mono hBa.size)
  have hx0 : w3.cell? ⟨w.heap.size, 0, none⟩ = some (.int .i64 r.fr) := hX.cell 0
  have hx1 : w3.cell? ⟨w.heap.size, 1, none⟩ = some (.int .i64 r.tn) := hX.cell 1
  have hx2 : w3.cell? ⟨w.heap.size, 2, none⟩ = some (.int .i64 r.st) := hX.cell 2
  have hx3 : w3.cell? ⟨w.heap.size, 3, none⟩ = some (.int .i64 r.en) := hX.cell 3
  have hx4 : w3.cell? ⟨w.heap.size, 4, none⟩ = some (.int .i64 r.ow) := hX.cell 4
  clear hown hb3 hs hX
  obtain ⟨A5, c5, rfl⟩ := slice_of_own hown5
  go_wp2_with fail
  refine (in_is false HO.out w3).mono ?_
  rintro e w4 ⟨rfl, rfl⟩
  go_wp2
  go_ret2
  exact ⟨_, rfl, hown5, hBa⟩
set_option maxHeartbeats 2000000 in
set_option maxRecDepth 100000 in
theorem change_none (A : Option Addr) (n c : Nat) (d : List Rg) (r : Rg) (w : World) (hd : d.length = n) (hn : n ≤ 1000000) (h : Sl w w.heap.size 5 A n c (flatRg d)) (ho : inB r.ow 0 2147483647 = true) (hq : ∀ j, j < n → sameR (gRg d j) r = false) :
    Calls Tryz.prog 107 #[.slice A n c, .agg #[.int .i64 r.fr, .int .i64 r.tn, .int .i64 r.st, .int .i64 r.en, .int .i64 r.ow]] w fun e w' => ∃ v, e = .returned (.tuple #[v, .int .i64 6]) ∧ w'.ownsRow w.heap.size 35 5 v n (flatRg d) ∧ Below w.heap.size w w' := by
  have hBa : Below w.heap.size w (w.alloc (.cells #[.int .i64 r.fr, .int .i64 r.tn, .int .i64 r.st, .int .i64 r.en, .int .i64 r.ow] 35)) := by (repeat (first | exact Below.refl _ _ | refine Below.alloc ?_ (by first | omega | (simp; done) | (simp; omega)) _ | refine Below.setCell ?_ (by first | omega | (simp; done) | (simp; omega)) _ | refine Below.drew ?_))
  have hX := Blok.new w 35 #[.int .i64 r.fr, .int .i64 r.tn, .int .i64 r.st, .int .i64 r.en, .int .i64 r.ow]
  have hs := h.up hBa
  have HD := Lib.hid hd
  have HO := Lib.hid ho
  have HQ := Lib.hid hq
  have hsz : w.heap.size < (w.alloc (.cells #[.int .i64 r.fr, .int .i64 r.tn, .int .i64 r.st, .int .i64 r.en, .int .i64 r.ow] 35)).heap.size := by simp
  clear h hd ho hq
  go_enter Tryz.func107, Tryz.ntmps107
  go_wp2_with fail
  generalize w.alloc (.cells #[.int .i64 r.fr, .int .i64 r.tn, .int .i64 r.st, .int .i64 r.en, .int .i64 r.ow] 35) = w2 at *
  refine (cloneRg A n c d w2 HD.out hn hs).mono ?_
  rintro e w3 ⟨v, rfl, hown, hb3⟩
  replace hX := hX.below hb3 hX.lt
  have hown5 := own_down (base' := w.heap.size) hown hBa.size
  replace hBa := hBa.trans (hb3.mono hBa.size)
  have hx0 : w3.cell? ⟨w.heap.size, 0, none⟩ = some (.int .i64 r.fr) := hX.cell 0
  have hx1 : w3.cell? ⟨w.heap.size, 1, none⟩ = some (.int .i64 r.tn) := hX.cell 1
  have hx2 : w3.cell? ⟨w.heap.size, 2, none⟩ = some (.int .i64 r.st) := hX.cell 2
  have hx3 : w3.cell? ⟨w.heap.size, 3, none⟩ = some (.int .i64 r.en) := hX.cell 3
  have hx4 : w3.cell? ⟨w.heap.size, 4, none⟩ = some (.int .i64 r.ow) := hX.cell 4
  clear hown hb3 hs
  obtain ⟨A5, c5, rfl⟩ := slice_of_own hown5
  go_wp2_with fail
  refine (in_is true HO.out w3).mono ?_
  rintro e w4 ⟨rfl, rfl⟩
  go_wp2_with fail
  clear hx0 hx1 hx2 hx3 hx4
  refine (begins_any r w3).mono ?_
  rintro e w4 ⟨g, rfl, hG, hg0, hbb⟩
  have hown6 := hown5.kept (grown_of_below (row := some w3.heap.size) hbb) (.inr (fun e => by have := (hown5.lt _ e).2; omega))
  replace hBa := hBa.trans (hbb.mono hBa.size)
  go_wp2_with fail
  refine (indexRg A5 n c5 d _ _ none _ w4 HD.out hn (Sl.of_own hown6) (pred_begins r g none w4 hG (by simp)) n (Nat.le_refl _) HQ.out (fun h => by omega)).mono ?_
  rintro e w5 ⟨rfl, hb5⟩
  rw [idxOf_no (by omega : ¬ n < n)]
  have hown7 := hown6.kept (grown_of_below (row := some w4.heap.size) hb5) (.inr (fun e => by have := (hown6.lt _ e).2; omega))
  replace hBa := hBa.trans (hb5.mono hBa.size)
  clear hown5 hown6 hb5 hbb hG hX
  go_wp2
  go_ret2
  exact ⟨_, rfl, hown7, hBa⟩
set_option maxHeartbeats 2000000 in
set_option maxRecDepth 100000 in
theorem change_yes (A : Option Addr) (n c : Nat) (d : List Rg) (r : Rg) (w : World) (q : Nat) (hd : d.length = n) (hn : n ≤ 1000000) (h : Sl w w.heap.size 5 A n c (flatRg d)) (ho : inB r.ow 0 2147483647 = true) (hqn : q < n) (hq : ∀ j, j < q → sameR (gRg d j) r = false) (hh : sameR (gRg d q) r = true) :
    Calls Tryz.prog 107 #[.slice A n c, .agg #[.int .i64 r.fr, .int .i64 r.tn, .int .i64 r.st, .int .i64 r.en, .int .i64 r.ow]] w fun e w' => ∃ v, e = .returned (.tuple #[v, .int .i64 0]) ∧ w'.ownsRow w.heap.size 35 5 v n (flatRg (d.set q (withOw (gRg d q) r.ow))) ∧ Below w.heap.size w w' := by
  have hBa : Below w.heap.size w (w.alloc (.cells #[.int .i64 r.fr, .int .i64 r.tn, .int .i64 r.st, .int .i64 r.en, .int .i64 r.ow] 35)) := by (repeat (first | exact Below.refl _ _ | refine Below.alloc ?_ (by first | omega | (simp; done) | (simp; omega)) _ | refine Below.setCell ?_ (by first | omega | (simp; done) | (simp; omega)) _ | refine Below.drew ?_))
  have hX := Blok.new w 35 #[.int .i64 r.fr, .int .i64 r.tn, .int .i64 r.st, .int .i64 r.en, .int .i64 r.ow]
  have hs := h.up hBa
  have HD := Lib.hid hd
  have HO := Lib.hid ho
  have HQ := Lib.hid hq
  have HH := Lib.hid hh
  have hsz : w.heap.size < (w.alloc (.cells #[.int .i64 r.fr, .int .i64 r.tn, .int .i64 r.st, .int .i64 r.en, .int .i64 r.ow] 35)).heap.size := by simp
  clear h hd ho hq hh
  go_enter Tryz.func107, Tryz.ntmps107
  go_wp2_with fail
  generalize w.alloc (.cells #[.int .i64 r.fr, .int .i64 r.tn, .int .i64 r.st, .int .i64 r.en, .int .i64 r.ow] 35) = w2 at *
  refine (cloneRg A n c d w2 HD.out hn hs).mono ?_
  rintro e w3 ⟨v, rfl, hown, hb3⟩
  replace hX := hX.below hb3 hX.lt
  have hown5 := own_down (base' := w.heap.size) hown hBa.size
  have hgR : v.ownBlock ≠ some w.heap.size := fun e => by have := (hown.lt _ e).1; omega
  replace hBa := hBa.trans (hb3.mono hBa.size)
  have hx0 : w3.cell? ⟨w.heap.size, 0, none⟩ = some (.int .i64 r.fr) := hX.cell 0
  have hx1 : w3.cell? ⟨w.heap.size, 1, none⟩ = some (.int .i64 r.tn) := hX.cell 1
  have hx2 : w3.cell? ⟨w.heap.size, 2, none⟩ = some (.int .i64 r.st) := hX.cell 2
  have hx3 : w3.cell? ⟨w.heap.size, 3, none⟩ = some (.int .i64 r.en) := hX.cell 3
  have hx4 : w3.cell? ⟨w.heap.size, 4, none⟩ = some (.int .i64 r.ow) := hX.cell 4
  clear hown hb3 hs
  obtain ⟨g5, c5, rfl, hnc5, hcm5, hgb5, hgl5⟩ := own_at hown5 (by omega)
  unfold maxLen at hcm5
  go_wp2_with fail
  refine (in_is true HO.out w3).mono ?_
  rintro e w4 ⟨rfl, rfl⟩
  go_wp2_with fail
  clear hx0 hx1 hx2 hx3 hx4
  refine (begins_any r w3).mono ?_
  rintro e w4 ⟨g, rfl, hG, hg0, hbb⟩
  have hown6 := hown5.kept (grown_of_below (row := some w3.heap.size) hbb) (.inr (fun e => by have := (hown5.lt _ e).2; omega))
  replace hX := hX.below hbb hX.lt
  replace hBa := hBa.trans (hbb.mono hBa.size)
  go_wp2_with fail
  refine (indexRg _ n c5 d _ _ none _ w4 HD.out hn (Sl.of_own hown6) (pred_begins r g none w4 hG (by simp)) q (by omega) HQ.out (fun _ => HH.out)).mono ?_
  rintro e w5 ⟨rfl, hb5⟩
  rw [idxOf_yes hqn]
  have hown7 := hown6.kept (grown_of_below (row := some w4.heap.size) hb5) (.inr (fun e => by have := (hown6.lt _ e).2; omega))
  replace hX := hX.below hb5 hX.lt
  replace hBa := hBa.trans (hb5.mono hBa.size)
  clear hown5 hown6 hb5 hbb hG
  have hqi : (0 : Int) ≤ (q : Int) := by omega
  have hqnI : (q : Int) < (n : Int) := by omega
  have hx4 : w5.cell? ⟨w.heap.size, 4, none⟩ = some (.int .i64 r.ow) := hX.cell 4
  have hc4 := (ownRg_at hown7 HD.out hqn).2.2.2.2
  have hf4 := hown7.frozenAt (q * 5 + 4)
  obtain ⟨hst, hgr⟩ := hown7.stored (q * 5 + 4) (.int .i64 r.ow)
  rw [flatRg_ow d q r.ow (by have := HD.out; omega)] at hst
  clear hown7 hX
  go_wp2
  go_ret2
  exact ⟨_, rfl, hst, Below.grown hBa hgr hBa.size (fun k hk => by simp at hk; omega)⟩
end Go.Proofs.YtolaabllhibkdaaGreat.Kr

/- Package ranges: Right. -/
namespace Go.Proofs.YtolaabllhibkdaaGreat.Kr
open Go.ChangeShapes Go.WideShapes Go.ChangeAt Go.RowKit Go.Sort
set_option linter.unusedSimpArgs false
set_option linter.unusedVariables false
def stepB (d : List Rg) (i : Nat) : Bool := okR (gRg d i) && (i == 0 || (decide (cmpR (gRg d (i - 1)) (gRg d i) < 0) && !overR (gRg d (i - 1)) (gRg d i)))
def rightB (d : List Rg) : Bool := decide (d.length ≤ 4096) && (List.range d.length).all (stepB d)
theorem rightB_true {d : List Rg} : rightB d = true ↔ d.length ≤ 4096 ∧ ∀ i, i < d.length → stepB d i = true := by
  simp [rightB, List.all_eq_true]
theorem rightB_false {d : List Rg} {i : Nat} (hi : i < d.length) (h : stepB d i = false) : rightB d = false := by
  rw [Bool.eq_false_iff]
  intro e
  rw [(rightB_true.1 e).2 i hi] at h
  cases h
set_option maxHeartbeats 4000000 in
set_option maxRecDepth 100000 in
theorem right_any (A : Option Addr) (n c : Nat) (d : List Rg) (w : World) (hd : d.length = n) (hn : n ≤ 1000000) (h : Sl w w.heap.size 5 A n c (flatRg d)) :
    Calls Tryz.prog 35 #[.slice A n c] w fun e w' => e = .returned (.bool (rightB d)) ∧ Below w.heap.size w w' := by
  have HD := Lib.hid hd
  by_cases hbig : 4096 < n
  · have hf : rightB d = false := by
      rw [Bool.eq_false_iff]; intro e; have := (rightB_true.1 e).1; omega
    have HF := Lib.hid hf
    clear hf hd
    go_enter Tryz.func35, Tryz.ntmps35
    go_wp2
    go_ret
    exact ⟨by rw [HF.out]; rfl, Below.refl _ _⟩
  · clear hd
    go_enter Tryz.func35, Tryz.ntmps35
    go_wp2
    go_loopw [10] (fun i wr => ∃ k : Nat, k ≤ n ∧ i = .int .i64 k ∧ Hid (∀ j, j < k → stepB d j = true) ∧ Below w.heap.size w wr) (fun i _ => n - (intOf i).toNat)
    case atStart => exact ⟨0, by omega, rfl, (fun j hj => by omega), Below.refl _ _⟩
    case round =>
      obtain ⟨k, hk, rfl, HQ, hB⟩ := hrel
      by_cases hkn : k < n
      · obtain ⟨ad, rfl, hab, c0, c1, c2, c3, c4⟩ := (h.below hB).lst.atRg HD.out hkn
        obtain ⟨x, hx⟩ : ∃ x, gRg d k = x := ⟨_, rfl⟩
        rw [hx] at c0 c1 c2 c3 c4
        have HX := Lib.hid hx
        clear hx
        have hBa : Below wr.heap.size wr (wr.alloc (.cells #[.int .i64 x.fr, .int .i64 x.tn, .int .i64 x.st, .int .i64 x.en, .int .i64 x.ow] 35)) := by (repeat (first | exact Below.refl _ _ | refine Below.alloc ?_ (by first | omega | (simp; done) | (simp; omega)) _ | refine Below.setCell ?_ (by first | omega | (simp; done) | (simp; omega)) _ | refine Below.drew ?_))
        have hX := Blok.new wr 35 #[.int .i64 x.fr, .int .i64 x.tn, .int .i64 x.st, .int .i64 x.en, .int .i64 x.ow]
        have hB2 := hB.trans (hBa.mono hB.size)
        have hsx := hB2.size
        have hbb : wr.heap.size < (wr.alloc (.cells #[.int .i64 x.fr, .int .i64 x.tn, .int .i64 x.st, .int .i64 x.en, .int .i64 x.ow] 35)).heap.size := by simp
        have habw : ad.block < (wr.alloc (.cells #[.int .i64 x.fr, .int .i64 x.tn, .int .i64 x.st, .int .i64 x.en, .int .i64 x.ow] 35)).heap.size := by have := hB.size; simp; omega
        clear hBa
        go_wp2_with fail
        clear c0 c1 c2 c3 c4 hB
        have hB := hB2
        clear hB2
        generalize wr.alloc (.cells #[.int .i64 x.fr, .int .i64 x.tn, .int .i64 x.st, .int .i64 x.en, .int .i64 x.ow] 35) = wx at *
        generalize wr.heap.size = bb at *
        have x0 : wx.cell? ⟨bb, 0, none⟩ = some (.int .i64 x.fr) := hX.cell 0
        have x1 : wx.cell? ⟨bb, 1, none⟩ = some (.int .i64 x.tn) := hX.cell 1
        have x2 : wx.cell? ⟨bb, 2, none⟩ = some (.int .i64 x.st) := hX.cell 2
        have x3 : wx.cell? ⟨bb, 3, none⟩ = some (.int .i64 x.en) := hX.cell 3
        have x4 : wx.cell? ⟨bb, 4, none⟩ = some (.int .i64 x.ow) := hX.cell 4
        clear hX
        cases ho : okR x with
        | false =>
          have HO := Lib.hid ho
          have hf : rightB d = false := rightB_false (i := k) (by have := HD.out; omega) (by unfold stepB; rw [HX.out, ho]; rfl)
          have HF := Lib.hid hf
          clear ho hf
          go_wp2_with fail
          have q_x0 := fun d os => cell_regrown x0 d os
          have q_x1 := fun d os => cell_regrown x1 d os
          have q_x2 := fun d os => cell_regrown x2 d os
          have q_x3 := fun d os => cell_regrown x3 d os
          have q_x4 := fun d os => cell_regrown x4 d os
          try simp only [List.append]
          first | refine wp_region_text_below ?_ | refine wp_region_quiet_below (by kernel_rfl) (by kernel_rfl) ?_
          repeat (go_big_quiet_step ((first | (go_at_call 67; with_reducible exact Calls.regrown_of (okR_call x _ _ HO.out)) | (go_at_call 68; with_reducible exact Calls.regrown_of (HY.out ▸ cmpR_any z x _)) | (go_at_call 69; with_reducible exact Calls.regrown_of (HV.out ▸ over_any z x _)))))
          refine wpQuiet_nil ?_
          intro _ hqw
          obtain ⟨pq, hqw⟩ := hqw
          subst hqw
          clear q_x0 q_x1 q_x2 q_x3 q_x4
          have hbel := below_regrown wx pq.d pq.os
          replace hB := hB.trans (hbel.mono hsx)
          clear hbel x0 x1 x2 x3 x4
          generalize grow (redrawn wx pq.d) pq.os = wq at *
          go_wp2
          go_ret
          exact ⟨by rw [HF.out]; rfl, hB⟩
        | true =>
          have HO := Lib.hid ho
          clear ho
          have hcase : k = 0 ∨ ∃ p, k = p + 1 := by cases k with | zero => exact .inl rfl | succ p => exact .inr ⟨p, rfl⟩
          rcases hcase with rfl | ⟨p, rfl⟩
          · have hd0 : decide (((0 : Nat) : Int) > 0) = false := by simp
            have hN : ∀ j, j < 0 + 1 → stepB d j = true := fun j hj => by
              obtain rfl : j = 0 := by omega
              unfold stepB
              rw [HX.out, HO.out]; rfl
            have HN := Lib.hid hN
            clear hN
            go_wp2_with fail
            have q_x0 := fun d os => cell_regrown x0 d os
            have q_x1 := fun d os => cell_regrown x1 d os
            have q_x2 := fun d os => cell_regrown x2 d os
            have q_x3 := fun d os => cell_regrown x3 d os
            have q_x4 := fun d os => cell_regrown x4 d os
            try simp only [List.append]
            first | refine wp_region_text_below ?_ | refine wp_region_quiet_below (by kernel_rfl) (by kernel_rfl) ?_
            repeat (go_big_quiet_step ((first | (go_at_call 67; with_reducible exact Calls.regrown_of (okR_call x _ _ HO.out)) | (go_at_call 68; with_reducible exact Calls.regrown_of (HY.out ▸ cmpR_any z x _)) | (go_at_call 69; with_reducible exact Calls.regrown_of (HV.out ▸ over_any z x _)))))
            refine wpQuiet_nil ?_
            intro _ hqw
            obtain ⟨pq, hqw⟩ := hqw
            subst hqw
            clear q_x0 q_x1 q_x2 q_x3 q_x4
            have hbel := below_regrown wx pq.d pq.os
            replace hB := hB.trans (hbel.mono hsx)
            clear hbel x0 x1 x2 x3 x4
            generalize grow (redrawn wx pq.d) pq.os = wq at *
            go_wp2
            go_roundw
            case rel => exact ⟨0 + 1, by omega, by go_num, HN.out, hB⟩
            case measure => simp [intOf]; omega
          · have hd0 : decide (((p + 1 : Nat) : Int) > 0) = true := decide_eq_true (by omega)
            obtain ⟨ad', hae, hab', z0, z1, z2, z3, z4⟩ := (h.below hB).lst.atRg HD.out (k := p) (by omega)
            injection hae with hae
            subst hae
            obtain ⟨z, hz⟩ : ∃ z, gRg d p = z := ⟨_, rfl⟩
            rw [hz] at z0 z1 z2 z3 z4
            obtain ⟨y, hy⟩ : ∃ y, cmpR z x = y := ⟨_, rfl⟩
            obtain ⟨v, hv⟩ : ∃ v, overR z x = v := ⟨_, rfl⟩
            have hst : stepB d (p + 1) = (decide (y < 0) && !v) := by
              unfold stepB
              rw [Nat.add_sub_cancel, HX.out, hz, hy, hv, HO.out]; simp
            have HY := Lib.hid hy
            have HV := Lib.hid hv
            have HST := Lib.hid hst
            clear hz hy hv hst
            by_cases hy0 : y < 0
            · have hdy : decide (0 ≤ y) = false := by simp; omega
              cases v
              · have hN : ∀ j, j < p + 1 + 1 → stepB d j = true := fun j hj => by
                  by_cases e : j = p + 1
                  · rw [e, HST.out]; simp [hy0]
                  · exact HQ.out j (by omega)
                have HN := Lib.hid hN
                clear hN
                go_wp2_with fail
                have q_x0 := fun d os => cell_regrown x0 d os
                have q_x1 := fun d os => cell_regrown x1 d os
                have q_x2 := fun d os => cell_regrown x2 d os
                have q_x3 := fun d os => cell_regrown x3 d os
                have q_x4 := fun d os => cell_regrown x4 d os
                have q_z0 := fun d os => cell_regrown z0 d os
                have q_z1 := fun d os => cell_regrown z1 d os
                have q_z2 := fun d os => cell_regrown z2 d os
                have q_z3 := fun d os => cell_regrown z3 d os
                have q_z4 := fun d os => cell_regrown z4 d os
                try simp only [List.append]
                first | refine wp_region_text_below ?_ | refine wp_region_quiet_below (by kernel_rfl) (by kernel_rfl) ?_
                repeat (go_big_quiet_step ((first | (go_at_call 67; with_reducible exact Calls.regrown_of (okR_call x _ _ HO.out)) | (go_at_call 68; with_reducible exact Calls.regrown_of (HY.out ▸ cmpR_any z x _)) | (go_at_call 69; with_reducible exact Calls.regrown_of (HV.out ▸ over_any z x _)))))
                refine wpQuiet_nil ?_
                intro _ hqw
                obtain ⟨pq, hqw⟩ := hqw
                subst hqw
                clear q_x0 q_x1 q_x2 q_x3 q_x4 q_z0 q_z1 q_z2 q_z3 q_z4
                have hbel := below_regrown wx pq.d pq.os
                replace hB := hB.trans (hbel.mono hsx)
                clear hbel x0 x1 x2 x3 x4 z0 z1 z2 z3 z4
                generalize grow (redrawn wx pq.d) pq.os = wq at *
                go_wp2
                go_roundw
                case rel => exact ⟨(p + 1) + 1, by omega, by go_num, HN.out, hB⟩
                case measure => simp [intOf]; omega
              · have hf : rightB d = false := rightB_false (i := p + 1) (by have := HD.out; omega) (by rw [HST.out]; simp)
                have HF := Lib.hid hf
                clear hf
                go_wp2_with fail
                have q_x0 := fun d os => cell_regrown x0 d os
                have q_x1 := fun d os => cell_regrown x1 d os
                have q_x2 := fun d os => cell_regrown x2 d os
                have q_x3 := fun d os => cell_regrown x3 d os
                have q_x4 := fun d os => cell_regrown x4 d os
                have q_z0 := fun d os => cell_regrown z0 d os
                have q_z1 := fun d os => cell_regrown z1 d os
                have q_z2 := fun d os => cell_regrown z2 d os
                have q_z3 := fun d os => cell_regrown z3 d os
                have q_z4 := fun d os => cell_regrown z4 d os
                try simp only [List.append]
                first | refine wp_region_text_below ?_ | refine wp_region_quiet_below (by kernel_rfl) (by kernel_rfl) ?_
                repeat (go_big_quiet_step ((first | (go_at_call 67; with_reducible exact Calls.regrown_of (okR_call x _ _ HO.out)) | (go_at_call 68; with_reducible exact Calls.regrown_of (HY.out ▸ cmpR_any z x _)) | (go_at_call 69; with_reducible exact Calls.regrown_of (HV.out ▸ over_any z x _)))))
                refine wpQuiet_nil ?_
                intro _ hqw
                obtain ⟨pq, hqw⟩ := hqw
                subst hqw
                clear q_x0 q_x1 q_x2 q_x3 q_x4 q_z0 q_z1 q_z2 q_z3 q_z4
                have hbel := below_regrown wx pq.d pq.os
                replace hB := hB.trans (hbel.mono hsx)
                clear hbel x0 x1 x2 x3 x4 z0 z1 z2 z3 z4
                generalize grow (redrawn wx pq.d) pq.os = wq at *
                go_wp2
                go_ret
                exact ⟨by rw [HF.out]; rfl, hB⟩
            · have hdy : decide (0 ≤ y) = true := by simp; omega
              have hf : rightB d = false := rightB_false (i := p + 1) (by have := HD.out; omega) (by rw [HST.out]; simp; omega)
              have HF := Lib.hid hf
              clear hf
              go_wp2_with fail
              have q_x0 := fun d os => cell_regrown x0 d os
              have q_x1 := fun d os => cell_regrown x1 d os
              have q_x2 := fun d os => cell_regrown x2 d os
              have q_x3 := fun d os => cell_regrown x3 d os
              have q_x4 := fun d os => cell_regrown x4 d os
              have q_z0 := fun d os => cell_regrown z0 d os
              have q_z1 := fun d os => cell_regrown z1 d os
              have q_z2 := fun d os => cell_regrown z2 d os
              have q_z3 := fun d os => cell_regrown z3 d os
              have q_z4 := fun d os => cell_regrown z4 d os
              try simp only [List.append]
              first | refine wp_region_text_below ?_ | refine wp_region_quiet_below (by kernel_rfl) (by kernel_rfl) ?_
              repeat (go_big_quiet_step ((first | (go_at_call 67; with_reducible exact Calls.regrown_of (okR_call x _ _ HO.out)) | (go_at_call 68; with_reducible exact Calls.regrown_of (HY.out ▸ cmpR_any z x _)) | (go_at_call 69; with_reducible exact Calls.regrown_of (HV.out ▸ over_any z x _)))))
              refine wpQuiet_nil ?_
              intro _ hqw
              obtain ⟨pq, hqw⟩ := hqw
              subst hqw
              clear q_x0 q_x1 q_x2 q_x3 q_x4 q_z0 q_z1 q_z2 q_z3 q_z4
              have hbel := below_regrown wx pq.d pq.os
              replace hB := hB.trans (hbel.mono hsx)
              clear hbel x0 x1 x2 x3 x4 z0 z1 z2 z3 z4
              generalize grow (redrawn wx pq.d) pq.os = wq at *
              go_wp2
              go_ret
              exact ⟨by rw [HF.out]; rfl, hB⟩
      · obtain rfl : k = n := by omega
        have hf : rightB d = true := rightB_true.2 ⟨by have := HD.out; omega, fun i hi => HQ.out i (by have := HD.out; omega)⟩
        have HF := Lib.hid hf
        clear hf
        go_wp2
        go_ret
        exact ⟨by rw [HF.out]; rfl, hB⟩
end Go.Proofs.YtolaabllhibkdaaGreat.Kr

/- sort.Search; package ranges: Owlt. -/
namespace Go.Proofs.YtolaabllhibkdaaGreat.Kr
open Go.ChangeShapes Go.WideShapes Go.ChangeAt Go.RowKit Go.Sort
set_option linter.unusedSimpArgs false
set_option linter.unusedVariables false
/-- A function value that tells p of places below n, in whatever world that has grown from W. -/
structure PredI (g : FuncId) (lb : Array Value) (n : Nat) (W : World) (p : Nat → Bool) : Prop where
  run : ∀ vals w, (callFunc g vals).run Tryz.prog w = .ok (.enter g vals) w
  tells : ∀ w', Below W.heap.size W w' → ∀ i : Nat, i < n → Calls Tryz.prog g (#[.int .i64 i] ++ lb) w' fun e w'' => e = .returned (.bool (p i)) ∧ Below w'.heap.size w' w''
def passP (d : List Rg) (cf ct ce : Int) (i : Nat) : Bool := decide (0 < waysI (gRg d i) ⟨cf, ct, 0, 0, 0⟩) || (waysI (gRg d i) ⟨cf, ct, 0, 0, 0⟩ == 0 && decide (ce ≤ (gRg d i).en))
end Go.Proofs.YtolaabllhibkdaaGreat.Kr

/- Package ranges: Owlt. -/
namespace Go.Proofs.YtolaabllhibkdaaGreat.Kr
open Go.ChangeShapes Go.WideShapes Go.ChangeAt Go.RowKit Go.Sort
set_option linter.unusedSimpArgs false
set_option linter.unusedVariables false
def owR (d : List Rg) (cf ct cs : Int) (n i : Nat) : Int × Bool := if i = n ∨ waysI (gRg d i) ⟨cf, ct, 0, 0, 0⟩ ≠ 0 ∨ cs < (gRg d i).st then (0, false) else ((gRg d i).ow, true)
/-- The place that is asked. -/
def AskAt (d : List Rg) (cf ct ce : Int) (n i : Nat) : Prop := i ≤ n ∧ (i = 0 ∨ passP d cf ct ce (i - 1) = false) ∧ (i = n ∨ passP d cf ct ce i = true)
end Go.Proofs.YtolaabllhibkdaaGreat.Kr
