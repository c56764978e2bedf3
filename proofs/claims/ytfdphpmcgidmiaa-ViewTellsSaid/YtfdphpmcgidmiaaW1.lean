/- Contracts and plain facts, several texts of mine in one: StCo, Contacts, Contacts2, Contacts3, Contacts4, Contacts5, Contacts6, Small06, ContactsMath, ContactsAct, StBk, BiBk, Ledger, Ledger2, Ledger3, Ledger4, Ledger5, Ledger6, LedgerMath, Ranges, Ranges2, Ranges3, Ranges4, Ranges5, Ranges6, Ranges7, Ref03, Small07, RangesTwice. No condition. -/
import Derived.Test.YtfdphpmcgidmiaaSlCo
import Derived.Test.YtfdphpmcgidmiaaCmp
import Derived.Test.YtfdphpmcgidmiaaCheck
import Derived.Test.YtfdphpmcgidmiaaMapIB
import Derived.Test.YtfdphpmcgidmiaaStep
import Derived.StillTailTactics
import Derived.Deep.RegionHeld3
import Derived.Test.YtfdphpmcgidmiaaInts
import Derived.Test.YtfdphpmcgidmiaaSlBk
import Derived.Deep.RegionLaw
import Derived.Test.YtfdphpmcgidmiaaSlRg
import Derived.Test.YtfdphpmcgidmiaaRows
import Derived.Test.YtfdphpmcgidmiaaOpenS

/- IndexFunc and DeleteFunc at 28-rows, the closure with a state of its own. -/
namespace Go.Proofs.Ytfdphpmcgidmiaa.Kc
open Go.ChangeShapes Go.WideShapes Go.ChangeAt Go.RowKit Go.Sort
set_option linter.unusedSimpArgs false
set_option linter.unusedVariables false
theorem own_same {w w' : World} {base : Nat} {e : TypeId} {size g n c : Nat} {xs : List Value} (h : w.ownsRow base e size (.slice (some ⟨g, 0, none⟩) n c) n xs) (hh : w'.heap[g]? = w.heap[g]?) : w'.ownsRow base e size (.slice (some ⟨g, 0, none⟩) n c) n xs := by
  refine ⟨h.1, ?_⟩
  rcases h.2 with hx | ⟨g', cap, cur, h1, h2, h3, rest⟩
  · exact .inl hx
  · simp only [Value.slice.injEq, Option.some.injEq, Addr.mk.injEq, and_true, true_and] at h1
    obtain ⟨rfl, rfl⟩ := h1
    exact .inr ⟨g, c, cur, rfl, h2, hh.trans h3, rest⟩
/-- A closure that tells p of the k-th of d when it is asked in a world of state k, and leaves one of state k + 1; below base nothing turns, nor does block g0; the state holds on while g0 is written, and behind new blocks. -/
structure PredS (g : FuncId) (lb : Array Value) (g0 base : Nat) (d : List Co) (p : Co → Bool) (R : Nat → World → Prop) : Prop where
  run : ∀ vals w, (callFunc g vals).run Try.prog w = .ok (.enter g vals) w
  tells : ∀ k, k < d.length → ∀ W w', R k W → Below W.heap.size W w' → g0 < W.heap.size → base ≤ W.heap.size → Calls Try.prog g (#[.agg #[.int .i64 (gCo d k).id, .int .i64 (gCo d k).fr, .int .i64 (gCo d k).tn, .int .i64 (gCo d k).st, .int .i64 (gCo d k).en, .int .i64 (gCo d k).rt]] ++ lb) w' fun e w'' => e = .returned (.bool (p (gCo d k))) ∧ R (k + 1) w'' ∧ Below base w' w'' ∧ w''.heap[g0]? = w'.heap[g0]? ∧ (∀ b, W.heap.size ≤ b → b < w'.heap.size → w''.heap[b]? = w'.heap[b]?)
  stay : ∀ k w w', R k w → w.grownBy w' (some g0) → R k w'
def qNext (q n : Nat) : Nat := if q < n then q + 1 else n
set_option maxHeartbeats 1000000 in
set_option maxRecDepth 100000 in
theorem indexS (g0 n c : Nat) (d : List Co) (g : FuncId) (lb : Array Value) (base : Nat) (p : Co → Bool) (R : Nat → World → Prop) (w : World) (hd : d.length = n) (hn : n ≤ 1000000) (hown : w.ownsRow base 28 6 (.slice (some ⟨g0, 0, none⟩) n c) n (flatCo d)) (hgl : g0 < w.heap.size) (hbs : base ≤ w.heap.size) (hp : PredS g lb g0 base d p R) (hR : R 0 w) (q : Nat) (hq : q ≤ n) (hlow : ∀ j, j < q → p (gCo d j) = false) (hhit : q < n → p (gCo d q) = true) :
    Calls Try.prog 53 #[.slice (some ⟨g0, 0, none⟩) n c, .func (.func g) #[] lb] w fun e w' => e = .returned (.int .i64 (idxOf q n)) ∧ R (qNext q n) w' ∧ Below base w w' ∧ w'.heap[g0]? = w.heap[g0]? := by
  have HL := Lib.hid hlow
  have HH := Lib.hid hhit
  have HP := Lib.hid hp
  have HR := Lib.hid hR
  have HD := Lib.hid hd
  have hcf := hp.run
  clear hlow hhit hp hR
  go_enter Try.func53, Try.ntmps53
  go_wp2
  go_loopw [8] (fun i wr => ∃ k : Nat, k ≤ q ∧ i = .int .i64 k ∧ Hid (R k wr) ∧ Below base w wr ∧ Hid (wr.heap[g0]? = w.heap[g0]?)) (fun i _ => n - (intOf i).toNat)
  case atStart => exact ⟨0, by omega, rfl, HR.out, Below.refl _ _, rfl⟩
  case round =>
    obtain ⟨k, hk, rfl, HRk, hB, HG⟩ := hrel
    have hs := hB.size
    have hgw : g0 < wr.heap.size := by omega
    by_cases hkn : k < n
    · have hownk := own_same hown HG.out
      obtain ⟨c0, c1, c2, c3, c4, c5⟩ := ownCo_at hownk HD.out hkn
      have ht0 := HP.out.tells k (by have := HD.out; omega) wr wr HRk.out (Below.refl _ _) hgw (by omega)
      clear hownk
      by_cases hkq : k < q
      · have hf := HL.out k hkq
        rw [hf] at ht0
        have HT := Lib.hid ht0
        generalize gCo d k = x at *
        clear hf ht0
        go_wp2_with fail
        refine HT.out.mono ?_
        rintro e w1 ⟨rfl, hr1, hb1, hg1, _⟩
        have hB2 := hB.trans hb1
        have HR1 := Lib.hid hr1
        have HG1 : Hid (w1.heap[g0]? = w.heap[g0]?) := hg1.trans HG.out
        clear hb1 hB hr1 hg1 c0 c1 c2 c3 c4 c5 hs HT
        go_wp2
        go_roundw
        case rel => exact ⟨k + 1, by omega, by go_num, HR1.out, hB2, HG1⟩
        case measure => simp [intOf]; omega
      · obtain rfl : k = q := by omega
        have hf := HH.out hkn
        rw [hf] at ht0
        have HT := Lib.hid ht0
        generalize gCo d k = x at *
        clear hf ht0
        go_wp2_with fail
        refine HT.out.mono ?_
        rintro e w1 ⟨rfl, hr1, hb1, hg1, _⟩
        have hB2 := hB.trans hb1
        have HR1 := Lib.hid hr1
        have HG1 : Hid (w1.heap[g0]? = w.heap[g0]?) := hg1.trans HG.out
        clear hb1 hB hr1 hg1 c0 c1 c2 c3 c4 c5 hs HT
        go_wp2
        go_ret
        exact ⟨by rw [idxOf_yes hkn]; rfl, by unfold qNext; rw [if_pos hkn]; exact HR1.out, hB2, HG1.out⟩
    · go_wp2
      go_ret
      exact ⟨by rw [idxOf_no (by omega)]; rfl, by unfold qNext; rw [if_neg (by omega)]; (have e : n = k := by omega); rw [e]; exact HRk.out, hB, HG.out⟩
set_option maxRecDepth 100000 in
theorem index0 (A : Option Addr) (c : Nat) (g : FuncId) (lb : Array Value) (w : World) (hcf : ∀ vals w, (callFunc g vals).run Try.prog w = .ok (.enter g vals) w) :
    Calls Try.prog 53 #[.slice A 0 c, .func (.func g) #[] lb] w fun e w' => e = .returned (.int .i64 (-1)) ∧ w = w' := by
  go_enter Try.func53, Try.ntmps53
  go_wp2
  go_loop [8] (fun i => i = .int .i64 0) (fun _ => 0)
  case atStart => rfl
  case round =>
    subst hrel
    go_wp2
    go_ret
    exact ⟨rfl, rfl⟩
end Go.Proofs.Ytfdphpmcgidmiaa.Kc

/- Package contacts: Compare, overlap, has, the closures. No condition. -/
namespace Go.Proofs.Ytfdphpmcgidmiaa.Kc
open Go.ChangeShapes Go.WideShapes Go.ChangeAt Go.RowKit Go.Sort
set_option linter.unusedSimpArgs false
set_option linter.unusedVariables false
def cmpC (a b : Co) : Int := orF [cmpI a.fr b.fr, cmpI a.tn b.tn, cmpI a.st b.st, cmpI a.id b.id]
set_option maxHeartbeats 2000000 in
set_option maxRecDepth 100000 in
theorem cmpC_any (a b : Co) (w : World) : Calls Try.prog 75 #[.agg #[.int .i64 a.id, .int .i64 a.fr, .int .i64 a.tn, .int .i64 a.st, .int .i64 a.en, .int .i64 a.rt], .agg #[.int .i64 b.id, .int .i64 b.fr, .int .i64 b.tn, .int .i64 b.st, .int .i64 b.en, .int .i64 b.rt]] w fun e w' => e = .returned (.int .i64 (cmpC a b)) ∧ Below w.heap.size w w' := by
  obtain ⟨p, hp⟩ : ∃ p, cmpI a.fr b.fr = p := ⟨_, rfl⟩
  obtain ⟨q, hq⟩ : ∃ q, cmpI a.tn b.tn = q := ⟨_, rfl⟩
  obtain ⟨r, hr⟩ : ∃ r, cmpI a.st b.st = r := ⟨_, rfl⟩
  obtain ⟨s, hs⟩ : ∃ s, cmpI a.id b.id = s := ⟨_, rfl⟩
  have hfin : cmpC a b = orF [p, q, r, s] := by rw [← hp, ← hq, ← hr, ← hs]; rfl
  have HP := Lib.hid hp
  have HQ := Lib.hid hq
  have HR := Lib.hid hr
  have HS := Lib.hid hs
  rw [hfin]
  clear hp hq hr hs hfin
  go_enter Try.func75, Try.ntmps75
  go_wp2_with fail
  refine wp_region_still_tail 20 (by kernel_rfl) (by kernel_rfl) ?_
  change wpStill _ _ (World.drew _) (fun a' => wpList _ _ _ _ a' (World.drew _)) _ _
  simp only [List.take_succ_cons, List.take_zero, List.drop_succ_cons, List.drop_zero]
  repeat still_step
  still_call ((HP.out ▸ cmp_any a.fr b.fr _).mono fun _ _ h => ⟨h.1, h.2.symm⟩)
  repeat still_step
  still_call ((HQ.out ▸ cmp_any a.tn b.tn _).mono fun _ _ h => ⟨h.1, h.2.symm⟩)
  repeat still_step
  still_call ((HR.out ▸ cmp_any a.st b.st _).mono fun _ _ h => ⟨h.1, h.2.symm⟩)
  repeat still_step
  still_call ((HS.out ▸ cmp_any a.id b.id _).mono fun _ _ h => ⟨h.1, h.2.symm⟩)
  refine wpStill_nil ?_
  have hB : Below w.heap.size w (((w.alloc (.cells #[.int .i64 a.id, .int .i64 a.fr, .int .i64 a.tn, .int .i64 a.st, .int .i64 a.en, .int .i64 a.rt] 28)).alloc (.cells #[.int .i64 b.id, .int .i64 b.fr, .int .i64 b.tn, .int .i64 b.st, .int .i64 b.en, .int .i64 b.rt] 28)).drew) := by (repeat (first | exact Below.refl _ _ | refine Below.alloc ?_ (by first | omega | (simp; done) | (simp; omega)) _ | refine Below.setCell ?_ (by first | omega | (simp; done) | (simp; omega)) _ | refine Below.drew ?_))
  have hs := hB.size
  generalize (((w.alloc (.cells #[.int .i64 a.id, .int .i64 a.fr, .int .i64 a.tn, .int .i64 a.st, .int .i64 a.en, .int .i64 a.rt] 28)).alloc (.cells #[.int .i64 b.id, .int .i64 b.fr, .int .i64 b.tn, .int .i64 b.st, .int .i64 b.en, .int .i64 b.rt] 28)).drew) = w2 at *
  go_wp2_with fail
  have hX := Blok.new w2 3 #[.int .i64 p, .int .i64 q, .int .i64 r, .int .i64 s]
  refine (or_any w2.heap.size 4 4 [p, q, r, s] _ rfl (by omega) (fun k hk => by
    have hc := hX.cell k
    have hk2 : k = 0 ∨ k = 1 ∨ k = 2 ∨ k = 3 := by omega
    rcases hk2 with rfl | rfl | rfl | rfl <;> exact hc)).mono ?_
  rintro e w3 ⟨rfl, rfl⟩
  go_wp2
  go_ret
  exact ⟨rfl, hB.alloc hs _⟩
def ltC (a b : Co) : Prop := a.fr < b.fr ∨ a.fr = b.fr ∧ (a.tn < b.tn ∨ a.tn = b.tn ∧ (a.st < b.st ∨ a.st = b.st ∧ a.id < b.id))
theorem cmpI_spec (a b : Int) : (a < b ∧ cmpI a b = -1) ∨ (a = b ∧ cmpI a b = 0) ∨ (b < a ∧ cmpI a b = 1) := by
  rcases Int.lt_trichotomy a b with h | h | h
  · exact .inl ⟨h, cmpI_lt h⟩
  · exact .inr (.inl ⟨h, cmpI_zero.2 h⟩)
  · exact .inr (.inr ⟨h, cmpI_gt h⟩)
theorem cmpC_spec (a b : Co) : (ltC a b ∧ cmpC a b = -1) ∨ (a.fr = b.fr ∧ a.tn = b.tn ∧ a.st = b.st ∧ a.id = b.id ∧ cmpC a b = 0) ∨ (ltC b a ∧ cmpC a b = 1) := by
  unfold cmpC ltC
  rcases cmpI_spec a.fr b.fr with ⟨h1, e1⟩ | ⟨h1, e1⟩ | ⟨h1, e1⟩ <;> rcases cmpI_spec a.tn b.tn with ⟨h2, e2⟩ | ⟨h2, e2⟩ | ⟨h2, e2⟩ <;> rcases cmpI_spec a.st b.st with ⟨h3, e3⟩ | ⟨h3, e3⟩ | ⟨h3, e3⟩ <;> rcases cmpI_spec a.id b.id with ⟨h4, e4⟩ | ⟨h4, e4⟩ | ⟨h4, e4⟩ <;>
    simp only [e1, e2, e3, e4, orF] <;> simp <;> omega
def overC (a b : Co) : Bool := decide (a.fr = b.fr ∧ a.tn = b.tn ∧ a.st < b.en ∧ b.st < a.en)
set_option maxHeartbeats 2000000 in
set_option maxRecDepth 100000 in
theorem overC_any (a b : Co) (w : World) : Calls Try.prog 76 #[.agg #[.int .i64 a.id, .int .i64 a.fr, .int .i64 a.tn, .int .i64 a.st, .int .i64 a.en, .int .i64 a.rt], .agg #[.int .i64 b.id, .int .i64 b.fr, .int .i64 b.tn, .int .i64 b.st, .int .i64 b.en, .int .i64 b.rt]] w fun e w' => e = .returned (.bool (overC a b)) ∧ Below w.heap.size w w' := by
  obtain ⟨b1, e1⟩ : ∃ t, (a.fr == b.fr) = t := ⟨_, rfl⟩
  obtain ⟨b2, e2⟩ : ∃ t, (a.tn == b.tn) = t := ⟨_, rfl⟩
  obtain ⟨b3, e3⟩ : ∃ t, decide (a.st < b.en) = t := ⟨_, rfl⟩
  obtain ⟨b4, e4⟩ : ∃ t, decide (b.st < a.en) = t := ⟨_, rfl⟩
  have hres : overC a b = (b1 && (b2 && (b3 && b4))) := by rw [← e1, ← e2, ← e3, ← e4]; unfold overC; rw [Bool.eq_iff_iff]; simp
  rw [hres]
  clear hres
  cases b1 <;> cases b2 <;> cases b3 <;> cases b4
  all_goals
    go_enter Try.func76, Try.ntmps76
    go_wp2
    go_ret
    exact ⟨rfl, by (repeat (first | exact Below.refl _ _ | refine Below.alloc ?_ (by first | omega | (simp; done) | (simp; omega)) _ | refine Below.setCell ?_ (by first | omega | (simp; done) | (simp; omega)) _ | refine Below.drew ?_))⟩
set_option maxRecDepth 100000 in
theorem has1_any (x : Co) (id : Int) (g : Nat) (w : World) (hR : Blok w g 3 #[.int .i64 id]) : Calls Try.prog 81 #[.agg #[.int .i64 x.id, .int .i64 x.fr, .int .i64 x.tn, .int .i64 x.st, .int .i64 x.en, .int .i64 x.rt], .pointer (some ⟨g, 0, none⟩)] w fun e w' => e = .returned (.bool (x.id == id)) ∧ Below w.heap.size w w' := by
  have r0 : w.cell? ⟨g, 0, none⟩ = some (.int .i64 id) := hR.cell 0
  have hl := hR.lt
  clear hR
  go_enter Try.func81, Try.ntmps81
  go_wp2
  all_goals go_ret
  all_goals exact ⟨rfl, by (repeat (first | exact Below.refl _ _ | refine Below.alloc ?_ (by first | omega | (simp; done) | (simp; omega)) _ | refine Below.setCell ?_ (by first | omega | (simp; done) | (simp; omega)) _ | refine Below.drew ?_))⟩
set_option maxRecDepth 100000 in
theorem has_any (id : Int) (w : World) : Calls Try.prog 54 #[.int .i64 id] w fun e w' => ∃ g, e = .returned (.func (.func 81) #[] #[.pointer (some ⟨g, 0, none⟩)]) ∧ Blok w' g 3 #[.int .i64 id] ∧ w.heap.size ≤ g ∧ Below w.heap.size w w' := by
  go_enter Try.func54, Try.ntmps54
  go_wp2
  go_ret
  exact ⟨w.heap.size, rfl, Blok.new w _ _, Nat.le_refl _, by (repeat (first | exact Below.refl _ _ | refine Below.alloc ?_ (by first | omega | (simp; done) | (simp; omega)) _ | refine Below.setCell ?_ (by first | omega | (simp; done) | (simp; omega)) _ | refine Below.drew ?_))⟩
theorem pred_has (id : Int) (g : Nat) (row : Option Nat) (w : World) (hR : Blok w g 3 #[.int .i64 id]) (hr : row ≠ some g) : PredCo 81 #[.pointer (some ⟨g, 0, none⟩)] row w (fun x => x.id == id) :=
  ⟨enter_run Try.func81 rfl rfl, fun w' hg x => has1_any x id g w' (hR.grown hg (fun e => hr e.symm))⟩
theorem cmp_contacts (t : Co) (w : World) : CmpCo 75 #[] t w (fun x => cmpC x t) :=
  ⟨enter_run Try.func75 rfl rfl, fun w' _ x => cmpC_any x t w'⟩
end Go.Proofs.Ytfdphpmcgidmiaa.Kc

/- Package contacts: Same, Find, Delete, mayAdd. No condition. -/
namespace Go.Proofs.Ytfdphpmcgidmiaa.Kc
open Go.ChangeShapes Go.WideShapes Go.ChangeAt Go.RowKit Go.Sort
set_option linter.unusedSimpArgs false
set_option linter.unusedVariables false
def delCode (q n : Nat) : Int := if q = n then 6 else 0
set_option maxHeartbeats 1000000 in
set_option maxRecDepth 100000 in
theorem find_yes (A : Option Addr) (n c : Nat) (d : List Co) (id : Int) (w : World) (q : Nat) (hd : d.length = n) (hn : n ≤ 1000000) (h : Sl w w.heap.size 6 A n c (flatCo d)) (hqn : q < n) (hq : ∀ j, j < q → ((gCo d j).id == id) = false) (hh : ((gCo d q).id == id) = true) :
    Calls Try.prog 26 #[.slice A n c, .int .i64 id] w fun e w' => e = .returned (.tuple #[.agg #[.int .i64 (gCo d q).id, .int .i64 (gCo d q).fr, .int .i64 (gCo d q).tn, .int .i64 (gCo d q).st, .int .i64 (gCo d q).en, .int .i64 (gCo d q).rt], .bool true]) ∧ Below w.heap.size w w' := by
  obtain ⟨ad, rfl, -⟩ := h.lst.atCo hd hqn
  obtain ⟨x, hx⟩ : ∃ x, gCo d q = x := ⟨_, rfl⟩
  rw [hx]
  have hBa : Below w.heap.size w (w.alloc (.cells #[.int .i64 0, .int .i64 0, .int .i64 0, .int .i64 0, .int .i64 0, .int .i64 0] 28)) := by (repeat (first | exact Below.refl _ _ | refine Below.alloc ?_ (by first | omega | (simp; done) | (simp; omega)) _ | refine Below.setCell ?_ (by first | omega | (simp; done) | (simp; omega)) _ | refine Below.drew ?_))
  have hX := Blok.new w 28 #[.int .i64 0, .int .i64 0, .int .i64 0, .int .i64 0, .int .i64 0, .int .i64 0]
  have hs := h.up hBa
  have hcap := h.cap
  have HD := Lib.hid hd
  have HQ := Lib.hid hq
  have HH := Lib.hid hh
  have HX := Lib.hid hx
  clear h hd hq hh hx
  go_enter Try.func26, Try.ntmps26
  go_wp2_with fail
  generalize w.alloc (.cells #[.int .i64 0, .int .i64 0, .int .i64 0, .int .i64 0, .int .i64 0, .int .i64 0] 28) = w2 at *
  refine (has_any id w2).mono ?_
  rintro e w3 ⟨g, rfl, hG, hg0, hbb⟩
  replace hs := hs.up hbb
  replace hX := hX.below hbb hX.lt
  replace hBa := hBa.trans (hbb.mono hBa.size)
  clear hbb hg0
  go_wp2_with fail
  refine (indexCo (some ad) n c d _ _ none _ w3 HD.out hn hs (pred_has id g none w3 hG (by simp)) q (by omega) HQ.out (fun _ => HH.out)).mono ?_
  rintro e w5 ⟨rfl, hb5⟩
  rw [idxOf_yes hqn]
  replace hs := hs.up hb5
  replace hX := hX.below hb5 hX.lt
  replace hBa := hBa.trans (hb5.mono hBa.size)
  clear hb5 hG
  obtain ⟨ad', he, hab, c0, c1, c2, c3, c4, c5⟩ := hs.lst.atCo HD.out hqn
  injection he with he
  subst he
  rw [HX.out] at c0 c1 c2 c3 c4 c5
  have r0 : w5.cell? ⟨w.heap.size, 0, none⟩ = some (.int .i64 0) := hX.cell 0
  have r1 : w5.cell? ⟨w.heap.size, 1, none⟩ = some (.int .i64 0) := hX.cell 1
  have r2 : w5.cell? ⟨w.heap.size, 2, none⟩ = some (.int .i64 0) := hX.cell 2
  have r3 : w5.cell? ⟨w.heap.size, 3, none⟩ = some (.int .i64 0) := hX.cell 3
  have r4 : w5.cell? ⟨w.heap.size, 4, none⟩ = some (.int .i64 0) := hX.cell 4
  have r5 : w5.cell? ⟨w.heap.size, 5, none⟩ = some (.int .i64 0) := hX.cell 5
  have f0 := hX.free 0
  have f1 := hX.free 1
  have f2 := hX.free 2
  have f3 := hX.free 3
  have f4 := hX.free 4
  have f5 := hX.free 5
  have hlt := hX.lt
  have hq0 : (0 : Int) ≤ (q : Int) := by omega
  have hqI : (q : Int) < (n : Int) := by omega
  have HXX := Lib.hid hX
  clear hs hX
  go_wp2
  have hX := HXX.out
  clear r0 r1 r2 r3 r4 r5
  have hF : Blok ((((((w5.setCell ⟨w.heap.size, 0, none⟩ (.int .i64 x.id)).setCell ⟨w.heap.size, 1, none⟩ (.int .i64 x.fr)).setCell ⟨w.heap.size, 2, none⟩ (.int .i64 x.tn)).setCell ⟨w.heap.size, 3, none⟩ (.int .i64 x.st)).setCell ⟨w.heap.size, 4, none⟩ (.int .i64 x.en)).setCell ⟨w.heap.size, 5, none⟩ (.int .i64 x.rt)) w.heap.size 28 #[.int .i64 x.id, .int .i64 x.fr, .int .i64 x.tn, .int .i64 x.st, .int .i64 x.en, .int .i64 x.rt] := by have h := ((((((hX.set_ 0 (.int .i64 x.id)).set_ 1 (.int .i64 x.fr)).set_ 2 (.int .i64 x.tn)).set_ 3 (.int .i64 x.st)).set_ 4 (.int .i64 x.en)).set_ 5 (.int .i64 x.rt)); simpa using h
  have hle0 : w.heap.size ≤ w.heap.size := by first | exact Nat.le_refl _ | omega
  have hWf : Below w.heap.size w ((((((w5.setCell ⟨w.heap.size, 0, none⟩ (.int .i64 x.id)).setCell ⟨w.heap.size, 1, none⟩ (.int .i64 x.fr)).setCell ⟨w.heap.size, 2, none⟩ (.int .i64 x.tn)).setCell ⟨w.heap.size, 3, none⟩ (.int .i64 x.st)).setCell ⟨w.heap.size, 4, none⟩ (.int .i64 x.en)).setCell ⟨w.heap.size, 5, none⟩ (.int .i64 x.rt)) := ((((((hBa.setCell (p := ⟨w.heap.size, 0, none⟩) hle0 (.int .i64 x.id)).setCell (p := ⟨w.heap.size, 1, none⟩) hle0 (.int .i64 x.fr)).setCell (p := ⟨w.heap.size, 2, none⟩) hle0 (.int .i64 x.tn)).setCell (p := ⟨w.heap.size, 3, none⟩) hle0 (.int .i64 x.st)).setCell (p := ⟨w.heap.size, 4, none⟩) hle0 (.int .i64 x.en)).setCell (p := ⟨w.heap.size, 5, none⟩) hle0 (.int .i64 x.rt))
  have hlF := hF.lt
  generalize ((((((w5.setCell ⟨w.heap.size, 0, none⟩ (.int .i64 x.id)).setCell ⟨w.heap.size, 1, none⟩ (.int .i64 x.fr)).setCell ⟨w.heap.size, 2, none⟩ (.int .i64 x.tn)).setCell ⟨w.heap.size, 3, none⟩ (.int .i64 x.st)).setCell ⟨w.heap.size, 4, none⟩ (.int .i64 x.en)).setCell ⟨w.heap.size, 5, none⟩ (.int .i64 x.rt)) = wf at *
  have r0 : wf.cell? ⟨w.heap.size, 0, none⟩ = some (.int .i64 x.id) := hF.cell 0
  have r1 : wf.cell? ⟨w.heap.size, 1, none⟩ = some (.int .i64 x.fr) := hF.cell 1
  have r2 : wf.cell? ⟨w.heap.size, 2, none⟩ = some (.int .i64 x.tn) := hF.cell 2
  have r3 : wf.cell? ⟨w.heap.size, 3, none⟩ = some (.int .i64 x.st) := hF.cell 3
  have r4 : wf.cell? ⟨w.heap.size, 4, none⟩ = some (.int .i64 x.en) := hF.cell 4
  have r5 : wf.cell? ⟨w.heap.size, 5, none⟩ = some (.int .i64 x.rt) := hF.cell 5
  refine bodyPost_ret (v := .tuple #[.agg #[.int .i64 x.id, .int .i64 x.fr, .int .i64 x.tn, .int .i64 x.st, .int .i64 x.en, .int .i64 x.rt], .bool true]) (by simp [results, Try.results26, go_sem, r0, r1, r2, r3, r4, r5, hlF]) rfl ?_
  exact ⟨rfl, hWf⟩
set_option maxHeartbeats 1000000 in
set_option maxRecDepth 100000 in
theorem find_no (A : Option Addr) (n c : Nat) (d : List Co) (id : Int) (w : World) (hd : d.length = n) (hn : n ≤ 1000000) (h : Sl w w.heap.size 6 A n c (flatCo d)) (hq : ∀ j, j < n → ((gCo d j).id == id) = false) :
    Calls Try.prog 26 #[.slice A n c, .int .i64 id] w fun e w' => e = .returned (.tuple #[.agg #[.int .i64 0, .int .i64 0, .int .i64 0, .int .i64 0, .int .i64 0, .int .i64 0], .bool false]) ∧ Below w.heap.size w w' := by
  have hBa : Below w.heap.size w (w.alloc (.cells #[.int .i64 0, .int .i64 0, .int .i64 0, .int .i64 0, .int .i64 0, .int .i64 0] 28)) := by (repeat (first | exact Below.refl _ _ | refine Below.alloc ?_ (by first | omega | (simp; done) | (simp; omega)) _ | refine Below.setCell ?_ (by first | omega | (simp; done) | (simp; omega)) _ | refine Below.drew ?_))
  have hX := Blok.new w 28 #[.int .i64 0, .int .i64 0, .int .i64 0, .int .i64 0, .int .i64 0, .int .i64 0]
  have hs := h.up hBa
  have HD := Lib.hid hd
  have HQ := Lib.hid hq
  clear h hd hq
  go_enter Try.func26, Try.ntmps26
  go_wp2_with fail
  generalize w.alloc (.cells #[.int .i64 0, .int .i64 0, .int .i64 0, .int .i64 0, .int .i64 0, .int .i64 0] 28) = w2 at *
  refine (has_any id w2).mono ?_
  rintro e w3 ⟨g, rfl, hG, hg0, hbb⟩
  replace hs := hs.up hbb
  replace hX := hX.below hbb hX.lt
  replace hBa := hBa.trans (hbb.mono hBa.size)
  clear hbb hg0
  go_wp2_with fail
  refine (indexCo A n c d _ _ none _ w3 HD.out hn hs (pred_has id g none w3 hG (by simp)) n (Nat.le_refl _) HQ.out (fun h => by omega)).mono ?_
  rintro e w5 ⟨rfl, hb5⟩
  rw [idxOf_no (by omega : ¬ n < n)]
  replace hX := hX.below hb5 hX.lt
  replace hBa := hBa.trans (hb5.mono hBa.size)
  clear hb5 hG hs
  have r0 : w5.cell? ⟨w.heap.size, 0, none⟩ = some (.int .i64 0) := hX.cell 0
  have r1 : w5.cell? ⟨w.heap.size, 1, none⟩ = some (.int .i64 0) := hX.cell 1
  have r2 : w5.cell? ⟨w.heap.size, 2, none⟩ = some (.int .i64 0) := hX.cell 2
  have r3 : w5.cell? ⟨w.heap.size, 3, none⟩ = some (.int .i64 0) := hX.cell 3
  have r4 : w5.cell? ⟨w.heap.size, 4, none⟩ = some (.int .i64 0) := hX.cell 4
  have r5 : w5.cell? ⟨w.heap.size, 5, none⟩ = some (.int .i64 0) := hX.cell 5
  have f0 := hX.free 0
  have f1 := hX.free 1
  have f2 := hX.free 2
  have f3 := hX.free 3
  have f4 := hX.free 4
  have f5 := hX.free 5
  have hlt := hX.lt
  have HXX := Lib.hid hX
  clear hX
  go_wp2
  have hX := HXX.out
  clear r0 r1 r2 r3 r4 r5
  have hF : Blok ((((((w5.setCell ⟨w.heap.size, 0, none⟩ (.int .i64 0)).setCell ⟨w.heap.size, 1, none⟩ (.int .i64 0)).setCell ⟨w.heap.size, 2, none⟩ (.int .i64 0)).setCell ⟨w.heap.size, 3, none⟩ (.int .i64 0)).setCell ⟨w.heap.size, 4, none⟩ (.int .i64 0)).setCell ⟨w.heap.size, 5, none⟩ (.int .i64 0)) w.heap.size 28 #[.int .i64 0, .int .i64 0, .int .i64 0, .int .i64 0, .int .i64 0, .int .i64 0] := by have h := ((((((hX.set_ 0 (.int .i64 0)).set_ 1 (.int .i64 0)).set_ 2 (.int .i64 0)).set_ 3 (.int .i64 0)).set_ 4 (.int .i64 0)).set_ 5 (.int .i64 0)); simpa using h
  have hle0 : w.heap.size ≤ w.heap.size := by first | exact Nat.le_refl _ | omega
  have hWf : Below w.heap.size w ((((((w5.setCell ⟨w.heap.size, 0, none⟩ (.int .i64 0)).setCell ⟨w.heap.size, 1, none⟩ (.int .i64 0)).setCell ⟨w.heap.size, 2, none⟩ (.int .i64 0)).setCell ⟨w.heap.size, 3, none⟩ (.int .i64 0)).setCell ⟨w.heap.size, 4, none⟩ (.int .i64 0)).setCell ⟨w.heap.size, 5, none⟩ (.int .i64 0)) := ((((((hBa.setCell (p := ⟨w.heap.size, 0, none⟩) hle0 (.int .i64 0)).setCell (p := ⟨w.heap.size, 1, none⟩) hle0 (.int .i64 0)).setCell (p := ⟨w.heap.size, 2, none⟩) hle0 (.int .i64 0)).setCell (p := ⟨w.heap.size, 3, none⟩) hle0 (.int .i64 0)).setCell (p := ⟨w.heap.size, 4, none⟩) hle0 (.int .i64 0)).setCell (p := ⟨w.heap.size, 5, none⟩) hle0 (.int .i64 0))
  have hlF := hF.lt
  generalize ((((((w5.setCell ⟨w.heap.size, 0, none⟩ (.int .i64 0)).setCell ⟨w.heap.size, 1, none⟩ (.int .i64 0)).setCell ⟨w.heap.size, 2, none⟩ (.int .i64 0)).setCell ⟨w.heap.size, 3, none⟩ (.int .i64 0)).setCell ⟨w.heap.size, 4, none⟩ (.int .i64 0)).setCell ⟨w.heap.size, 5, none⟩ (.int .i64 0)) = wf at *
  have r0 : wf.cell? ⟨w.heap.size, 0, none⟩ = some (.int .i64 0) := hF.cell 0
  have r1 : wf.cell? ⟨w.heap.size, 1, none⟩ = some (.int .i64 0) := hF.cell 1
  have r2 : wf.cell? ⟨w.heap.size, 2, none⟩ = some (.int .i64 0) := hF.cell 2
  have r3 : wf.cell? ⟨w.heap.size, 3, none⟩ = some (.int .i64 0) := hF.cell 3
  have r4 : wf.cell? ⟨w.heap.size, 4, none⟩ = some (.int .i64 0) := hF.cell 4
  have r5 : wf.cell? ⟨w.heap.size, 5, none⟩ = some (.int .i64 0) := hF.cell 5
  refine bodyPost_ret (v := .tuple #[.agg #[.int .i64 0, .int .i64 0, .int .i64 0, .int .i64 0, .int .i64 0, .int .i64 0], .bool false]) (by simp [results, Try.results26, go_sem, r0, r1, r2, r3, r4, r5, hlF]) rfl ?_
  exact ⟨rfl, hWf⟩
def okC (r : Co) : Bool := contactB r.id r.fr r.tn r.st r.en r.rt
def mayC (d : List Co) (r : Co) : Int := if okC r = false then 1 else if 4096 ≤ d.length then 3 else if d.any (fun o => o.id == r.id) = true then 4 else if d.any (fun o => overC o r) = true then 5 else 0
theorem okC_call (r : Co) (w : World) (b : Bool) (h : okC r = b) : Calls Try.prog 33 #[.agg #[.int .i64 r.id, .int .i64 r.fr, .int .i64 r.tn, .int .i64 r.st, .int .i64 r.en, .int .i64 r.rt]] w fun e w' => e = .returned (.bool b) ∧ Below w.heap.size w w' := contact_is b h w
end Go.Proofs.Ytfdphpmcgidmiaa.Kc

/- Package contacts: Add, Change. No condition. -/
namespace Go.Proofs.Ytfdphpmcgidmiaa.Kc
open Go.ChangeShapes Go.WideShapes Go.ChangeAt Go.RowKit Go.Sort
set_option linter.unusedSimpArgs false
set_option linter.unusedVariables false
def withRt (p : Co) (x : Int) : Co := ⟨p.id, p.fr, p.tn, p.st, p.en, x⟩
theorem flatCo_rt : ∀ (d : List Co) (i : Nat) (x : Int), i < d.length → (flatCo d).set (i * 6 + 5) (.int .i64 x) = flatCo (d.set i (withRt (gCo d i) x))
  | p :: d, 0, x, _ => rfl
  | p :: d, i + 1, x, h => by
    rw [flatCo_cons, show (i + 1) * 6 + 5 = i * 6 + 5 + 1 + 1 + 1 + 1 + 1 + 1 from by omega]
    simp only [List.set_cons_succ]
    rw [flatCo_rt d i x (by simpa using h)]
    rfl
end Go.Proofs.Ytfdphpmcgidmiaa.Kc

/- Package contacts: Right. No condition. -/
namespace Go.Proofs.Ytfdphpmcgidmiaa.Kc
open Go.ChangeShapes Go.WideShapes Go.ChangeAt Go.RowKit Go.Sort
set_option linter.unusedSimpArgs false
set_option linter.unusedVariables false
theorem run_makeMap_hint {P : Program} (t k e : TypeId) (kd : IntKind) (n : Int) (ht : P.underlying t = some (.map k e)) (w : World) :
    (Instr.makeMap t (some (.int kd n))).run P w = .ok (.map (some w.heap.size)) (w.alloc (.map #[] 0)) := by
  simp [Instr.makeMap, run_underlying ht]; rfl
def idIn (l : List Co) (id : Int) : Bool := l.any (fun o => o.id == id)
def stepC (d : List Co) (i : Nat) : Bool := okC (gCo d i) && !idIn (d.take i) (gCo d i).id && (i == 0 || (decide (cmpC (gCo d (i - 1)) (gCo d i) < 0) && !overC (gCo d (i - 1)) (gCo d i)))
def rightC (d : List Co) : Bool := decide (d.length ≤ 4096) && (List.range d.length).all (stepC d)
theorem rightC_true {d : List Co} : rightC d = true ↔ d.length ≤ 4096 ∧ ∀ i, i < d.length → stepC d i = true := by
  simp [rightC, List.all_eq_true]
theorem rightC_false {d : List Co} {i : Nat} (hi : i < d.length) (h : stepC d i = false) : rightC d = false := by
  rw [Bool.eq_false_iff]
  intro e
  rw [(rightC_true.1 e).2 i hi] at h
  cases h
theorem okC_wf {x : Co} (h : okC x = true) : (Lit.int .i64 x.id).wf = true := by
  unfold okC contactB inB at h
  simp only [Bool.and_eq_true, decide_eq_true_eq] at h
  exact wfI (by omega)
theorem idIn_next {d : List Co} {k : Nat} (h : k < d.length) (j : Int) : idIn (d.take (k + 1)) j = (if j = (gCo d k).id then true else idIn (d.take k) j) := by
  unfold idIn
  rw [take_nextCo h, List.any_append]
  by_cases e : j = (gCo d k).id
  · subst e; simp
  · rw [if_neg e]; simp; intro e2; exact absurd e2.symm e
set_option maxHeartbeats 4000000 in
set_option maxRecDepth 100000 in
theorem right_any (A : Option Addr) (n c : Nat) (d : List Co) (w : World) (hd : d.length = n) (hn : n ≤ 1000000) (h : Sl w w.heap.size 6 A n c (flatCo d)) :
    Calls Try.prog 46 #[.slice A n c] w fun e w' => e = .returned (.bool (rightC d)) ∧ Below w.heap.size w w' := by
  have HD := Lib.hid hd
  by_cases hbig : 4096 < n
  · have hf : rightC d = false := by
      rw [Bool.eq_false_iff]; intro e; have := (rightC_true.1 e).1; omega
    have HF := Lib.hid hf
    clear hf hd
    go_enter Try.func46, Try.ntmps46
    go_wp2
    go_ret
    exact ⟨by rw [HF.out]; rfl, Below.refl _ _⟩
  · clear hd
    have hmk := run_makeMap_hint (P := Try.prog) 85 3 4 .i64 (n : Int) Try.underlying85 w
    obtain ⟨b0, hb0⟩ : ∃ b0, w.heap.size = b0 := ⟨_, rfl⟩
    rw [hb0] at hmk
    have HB0 := Lib.hid hb0
    have hS0 := SetW.made w
    rw [hb0] at hS0
    have hB0 : Below w.heap.size w (w.alloc (.map #[] 0)) := (Below.refl _ _).alloc (Nat.le_refl _) _
    have h0 := h.below hB0
    clear hb0 h
    go_enter Try.func46, Try.ntmps46
    go_wp2
    clear hmk
    go_loopw [14] (fun i wr => ∃ k : Nat, k ≤ n ∧ i = .int .i64 k ∧ Hid (∀ j, j < k → stepC d j = true) ∧ Below w.heap.size w wr ∧ SetW wr b0 k (idIn (d.take k)) ∧ Hid (Sl wr w.heap.size 6 A n c (flatCo d))) (fun i _ => n - (intOf i).toNat)
    case atStart => exact ⟨0, by omega, rfl, (fun j hj => by omega), hB0, hS0.congr (fun k _ => by simp [idIn]), h0⟩
    case round =>
      clear hB0 hS0 h0
      obtain ⟨k, hk, rfl, HQ, hB, hS, HL⟩ := hrel
      by_cases hkn : k < n
      · obtain ⟨ad, rfl, hab, c0, c1, c2, c3, c4, c5⟩ := HL.out.lst.atCo HD.out hkn
        have hsw := hB.size
        obtain ⟨x, hx⟩ : ∃ x, gCo d k = x := ⟨_, rfl⟩
        rw [hx] at c0 c1 c2 c3 c4 c5
        have HX := Lib.hid hx
        clear hx
        have hBa : Below wr.heap.size wr (wr.alloc (.cells #[.int .i64 x.id, .int .i64 x.fr, .int .i64 x.tn, .int .i64 x.st, .int .i64 x.en, .int .i64 x.rt] 28)) := by (repeat (first | exact Below.refl _ _ | refine Below.alloc ?_ (by first | omega | (simp; done) | (simp; omega)) _ | refine Below.setCell ?_ (by first | omega | (simp; done) | (simp; omega)) _ | refine Below.drew ?_))
        have hX := Blok.new wr 28 #[.int .i64 x.id, .int .i64 x.fr, .int .i64 x.tn, .int .i64 x.st, .int .i64 x.en, .int .i64 x.rt]
        have hB2 := hB.trans (hBa.mono hB.size)
        have hS2 := hS.below hBa
        have hL2 := HL.out.below (hBa.mono hB.size)
        have hbn : b0 ≠ wr.heap.size := fun e => by have := hS.lt; omega
        go_wp2_with fail
        clear c0 c1 c2 c3 c4 c5 hB hS HL hBa
        generalize wr.alloc (.cells #[.int .i64 x.id, .int .i64 x.fr, .int .i64 x.tn, .int .i64 x.st, .int .i64 x.en, .int .i64 x.rt] 28) = wx at *
        generalize wr.heap.size = bb at *
        cases ho : okC x with
        | false =>
          have HO := Lib.hid ho
          have hf : rightC d = false := rightC_false (i := k) (by have := HD.out; omega) (by unfold stepC; rw [HX.out, ho]; rfl)
          have HF := Lib.hid hf
          clear ho hf hS2 hL2 hX
          refine (okC_call x _ false HO.out).mono ?_
          rintro e w3 ⟨rfl, hb3⟩
          replace hB2 := hB2.trans (hb3.mono hB2.size)
          clear hb3
          go_wp2
          go_ret
          exact ⟨by rw [HF.out]; rfl, hB2⟩
        | true =>
          have HO := Lib.hid ho
          have hwf := okC_wf ho
          obtain ⟨s, hsn⟩ : ∃ s, idIn (d.take k) x.id = s := ⟨_, rfl⟩
          have HSN := Lib.hid hsn
          clear ho hsn
          refine (okC_call x _ true HO.out).mono ?_
          rintro e w3 ⟨rfl, hb3⟩
          have hS3 := hS2.below hb3
          have hX3 := hX.below hb3 hX.lt
          have hL3 := hL2.below (hb3.mono hB2.size)
          have hB3 := hB2.trans (hb3.mono hB2.size)
          have hs3 := hB3.size
          clear hb3 hS2 hX hL2 hB2 hsw
          have hlk := hS3.look hwf
          rw [HSN.out] at hlk
          have x0 : w3.cell? ⟨bb, 0, none⟩ = some (.int .i64 x.id) := hX3.cell 0
          have hbl := hX3.lt
          cases s with
          | true =>
            have hf : rightC d = false := rightC_false (i := k) (by have := HD.out; omega) (by unfold stepC; rw [HX.out, HSN.out]; simp)
            have HF := Lib.hid hf
            clear hf hS3 hL3 hX3
            go_wp2
            go_ret
            exact ⟨by rw [HF.out]; rfl, hB3⟩
          | false =>
            go_wp2_with (at_mapUpdate; refine wpList_put_set rfl _ _ _ rfl b0 k _ x.id true rfl hS3 (by unfold maxLen; omega) rfl hwf rfl ?_; intro w4 hS4 hg4)
            try simp only [Act.put, List.setIfInBounds_toArray, List.set_cons_succ, List.set_cons_zero]
            clear hlk x0
            have hX4 := hX3.grown hg4 (fun e => hbn (by simpa using e.symm))
            have hB4 : Below w.heap.size w w4 := hB3.grown hg4 hs3 (fun j hj => by have := HB0.out; simp at hj; omega)
            have hL4 : Sl w4 w.heap.size 6 (some ad) n c (flatCo d) := hL3.below (Below.grown (Below.refl _ _) hg4 hs3 (fun j hj => by have := HB0.out; simp at hj; omega))
            have hS5 : SetW w4 b0 (k + 1) (idIn (d.take (k + 1))) := hS4.congr (fun j _ => by rw [idIn_next (by have := HD.out; omega), HX.out])
            have hs4 := hB4.size
            have hbl4 := hX4.lt
            have habw : ad.block < w4.heap.size := by omega
            have x0 : w4.cell? ⟨bb, 0, none⟩ = some (.int .i64 x.id) := hX4.cell 0
            have x1 : w4.cell? ⟨bb, 1, none⟩ = some (.int .i64 x.fr) := hX4.cell 1
            have x2 : w4.cell? ⟨bb, 2, none⟩ = some (.int .i64 x.tn) := hX4.cell 2
            have x3 : w4.cell? ⟨bb, 3, none⟩ = some (.int .i64 x.st) := hX4.cell 3
            have x4 : w4.cell? ⟨bb, 4, none⟩ = some (.int .i64 x.en) := hX4.cell 4
            have x5 : w4.cell? ⟨bb, 5, none⟩ = some (.int .i64 x.rt) := hX4.cell 5
            clear hS3 hS4 hg4 hX3 hL3 hB3 hs3 hbl hX4
            have hcase : k = 0 ∨ ∃ p, k = p + 1 := by cases k with | zero => exact .inl rfl | succ p => exact .inr ⟨p, rfl⟩
            rcases hcase with rfl | ⟨p, rfl⟩
            · have hd0 : decide (((0 : Nat) : Int) > 0) = false := by simp
              have hN : ∀ j, j < 0 + 1 → stepC d j = true := fun j hj => by
                obtain rfl : j = 0 := by omega
                unfold stepC
                rw [HX.out, HO.out, HSN.out]; rfl
              have HN := Lib.hid hN
              clear hN
              have HS5 := Lib.hid hS5
              have HL4 := Lib.hid hL4
              clear hS5 hL4
              have q_x0 := fun d os => cell_regrown x0 d os
              have q_x1 := fun d os => cell_regrown x1 d os
              have q_x2 := fun d os => cell_regrown x2 d os
              have q_x3 := fun d os => cell_regrown x3 d os
              have q_x4 := fun d os => cell_regrown x4 d os
              have q_x5 := fun d os => cell_regrown x5 d os
              try simp only [List.append]
              first | refine wp_region_text_below ?_ | refine wp_region_quiet_below (by kernel_rfl) (by kernel_rfl) ?_
              repeat (go_big_quiet_step ((fail)))
              refine wpQuiet_nil ?_
              intro _ hqw
              obtain ⟨pq, hqw⟩ := hqw
              subst hqw
              clear q_x0 q_x1 q_x2 q_x3 q_x4 q_x5
              have hbel := below_regrown w4 pq.d pq.os
              replace hB4 := hB4.trans (hbel.mono hs4)
              have hS6 := HS5.out.below hbel
              have hL6 := HL4.out.below (hbel.mono hs4)
              clear hbel x0 x1 x2 x3 x4 x5 HS5 HL4
              generalize grow (redrawn w4 pq.d) pq.os = wq at *
              go_wp2
              go_roundw
              case rel => exact ⟨0 + 1, by omega, by go_num, HN.out, hB4, hS6, hL6⟩
              case measure => simp [intOf]; omega
            · have hd0 : decide (((p + 1 : Nat) : Int) > 0) = true := decide_eq_true (by omega)
              obtain ⟨ad', hae, hab', z0, z1, z2, z3, z4, z5⟩ := hL4.lst.atCo HD.out (k := p) (by omega)
              injection hae with hae
              subst hae
              obtain ⟨z, hz⟩ : ∃ z, gCo d p = z := ⟨_, rfl⟩
              rw [hz] at z0 z1 z2 z3 z4 z5
              obtain ⟨y, hy⟩ : ∃ y, cmpC z x = y := ⟨_, rfl⟩
              obtain ⟨v, hv⟩ : ∃ v, overC z x = v := ⟨_, rfl⟩
              have hst : stepC d (p + 1) = (decide (y < 0) && !v) := by
                unfold stepC
                rw [Nat.add_sub_cancel, HX.out, hz, hy, hv, HO.out, HSN.out]; simp
              have HY := Lib.hid hy
              have HV := Lib.hid hv
              have HST := Lib.hid hst
              have HS5 := Lib.hid hS5
              have HL4 := Lib.hid hL4
              clear hz hy hv hst hS5 hL4
              by_cases hy0 : y < 0
              · have hdy : decide (0 ≤ y) = false := by simp; omega
                cases v
                · have hN : ∀ j, j < p + 1 + 1 → stepC d j = true := fun j hj => by
                    by_cases e : j = p + 1
                    · rw [e, HST.out]; simp [hy0]
                    · exact HQ.out j (by omega)
                  have HN := Lib.hid hN
                  clear hN
                  have q_x0 := fun d os => cell_regrown x0 d os
                  have q_x1 := fun d os => cell_regrown x1 d os
                  have q_x2 := fun d os => cell_regrown x2 d os
                  have q_x3 := fun d os => cell_regrown x3 d os
                  have q_x4 := fun d os => cell_regrown x4 d os
                  have q_x5 := fun d os => cell_regrown x5 d os
                  have q_z0 := fun d os => cell_regrown z0 d os
                  have q_z1 := fun d os => cell_regrown z1 d os
                  have q_z2 := fun d os => cell_regrown z2 d os
                  have q_z3 := fun d os => cell_regrown z3 d os
                  have q_z4 := fun d os => cell_regrown z4 d os
                  have q_z5 := fun d os => cell_regrown z5 d os
                  try simp only [List.append]
                  first | refine wp_region_text_below ?_ | refine wp_region_quiet_below (by kernel_rfl) (by kernel_rfl) ?_
                  repeat (go_big_quiet_step ((first | (go_at_call 75; with_reducible exact Calls.regrown_of (HY.out ▸ cmpC_any z x _)) | (go_at_call 76; with_reducible exact Calls.regrown_of (HV.out ▸ overC_any z x _)))))
                  refine wpQuiet_nil ?_
                  intro _ hqw
                  obtain ⟨pq, hqw⟩ := hqw
                  subst hqw
                  clear q_x0 q_x1 q_x2 q_x3 q_x4 q_x5 q_z0 q_z1 q_z2 q_z3 q_z4 q_z5
                  have hbel := below_regrown w4 pq.d pq.os
                  replace hB4 := hB4.trans (hbel.mono hs4)
                  have hS6 := HS5.out.below hbel
                  have hL6 := HL4.out.below (hbel.mono hs4)
                  clear hbel x0 x1 x2 x3 x4 x5 z0 z1 z2 z3 z4 z5 HS5 HL4
                  generalize grow (redrawn w4 pq.d) pq.os = wq at *
                  go_wp2
                  go_roundw
                  case rel => exact ⟨(p + 1) + 1, by omega, by go_num, HN.out, hB4, hS6, hL6⟩
                  case measure => simp [intOf]; omega
                · have hf : rightC d = false := rightC_false (i := p + 1) (by have := HD.out; omega) (by rw [HST.out]; simp)
                  have HF := Lib.hid hf
                  clear hf
                  have q_x0 := fun d os => cell_regrown x0 d os
                  have q_x1 := fun d os => cell_regrown x1 d os
                  have q_x2 := fun d os => cell_regrown x2 d os
                  have q_x3 := fun d os => cell_regrown x3 d os
                  have q_x4 := fun d os => cell_regrown x4 d os
                  have q_x5 := fun d os => cell_regrown x5 d os
                  have q_z0 := fun d os => cell_regrown z0 d os
                  have q_z1 := fun d os => cell_regrown z1 d os
                  have q_z2 := fun d os => cell_regrown z2 d os
                  have q_z3 := fun d os => cell_regrown z3 d os
                  have q_z4 := fun d os => cell_regrown z4 d os
                  have q_z5 := fun d os => cell_regrown z5 d os
                  try simp only [List.append]
                  first | refine wp_region_text_below ?_ | refine wp_region_quiet_below (by kernel_rfl) (by kernel_rfl) ?_
                  repeat (go_big_quiet_step ((first | (go_at_call 75; with_reducible exact Calls.regrown_of (HY.out ▸ cmpC_any z x _)) | (go_at_call 76; with_reducible exact Calls.regrown_of (HV.out ▸ overC_any z x _)))))
                  refine wpQuiet_nil ?_
                  intro _ hqw
                  obtain ⟨pq, hqw⟩ := hqw
                  subst hqw
                  clear q_x0 q_x1 q_x2 q_x3 q_x4 q_x5 q_z0 q_z1 q_z2 q_z3 q_z4 q_z5
                  have hbel := below_regrown w4 pq.d pq.os
                  replace hB4 := hB4.trans (hbel.mono hs4)
                  clear hbel x0 x1 x2 x3 x4 x5 z0 z1 z2 z3 z4 z5 HS5 HL4
                  generalize grow (redrawn w4 pq.d) pq.os = wq at *
                  go_wp2
                  go_ret
                  exact ⟨by rw [HF.out]; rfl, hB4⟩
              · have hdy : decide (0 ≤ y) = true := by simp; omega
                have hf : rightC d = false := rightC_false (i := p + 1) (by have := HD.out; omega) (by rw [HST.out]; simp [hy0])
                have HF := Lib.hid hf
                clear hf
                have q_x0 := fun d os => cell_regrown x0 d os
                have q_x1 := fun d os => cell_regrown x1 d os
                have q_x2 := fun d os => cell_regrown x2 d os
                have q_x3 := fun d os => cell_regrown x3 d os
                have q_x4 := fun d os => cell_regrown x4 d os
                have q_x5 := fun d os => cell_regrown x5 d os
                have q_z0 := fun d os => cell_regrown z0 d os
                have q_z1 := fun d os => cell_regrown z1 d os
                have q_z2 := fun d os => cell_regrown z2 d os
                have q_z3 := fun d os => cell_regrown z3 d os
                have q_z4 := fun d os => cell_regrown z4 d os
                have q_z5 := fun d os => cell_regrown z5 d os
                try simp only [List.append]
                first | refine wp_region_text_below ?_ | refine wp_region_quiet_below (by kernel_rfl) (by kernel_rfl) ?_
                repeat (go_big_quiet_step ((first | (go_at_call 75; with_reducible exact Calls.regrown_of (HY.out ▸ cmpC_any z x _)) | (go_at_call 76; with_reducible exact Calls.regrown_of (HV.out ▸ overC_any z x _)))))
                refine wpQuiet_nil ?_
                intro _ hqw
                obtain ⟨pq, hqw⟩ := hqw
                subst hqw
                clear q_x0 q_x1 q_x2 q_x3 q_x4 q_x5 q_z0 q_z1 q_z2 q_z3 q_z4 q_z5
                have hbel := below_regrown w4 pq.d pq.os
                replace hB4 := hB4.trans (hbel.mono hs4)
                clear hbel x0 x1 x2 x3 x4 x5 z0 z1 z2 z3 z4 z5 HS5 HL4
                generalize grow (redrawn w4 pq.d) pq.os = wq at *
                go_wp2
                go_ret
                exact ⟨by rw [HF.out]; rfl, hB4⟩
      · obtain rfl : k = n := by omega
        have hr : rightC d = true := rightC_true.2 ⟨by have := HD.out; omega, fun i hi => HQ.out i (by have := HD.out; omega)⟩
        have HR := Lib.hid hr
        clear hr
        go_wp2
        go_ret
        exact ⟨by rw [HR.out]; rfl, hB⟩
end Go.Proofs.Ytfdphpmcgidmiaa.Kc

/- Package contacts: Expire's closure, which notes who goes. No condition. -/
namespace Go.Proofs.Ytfdphpmcgidmiaa.Kc
open Go.ChangeShapes Go.WideShapes Go.ChangeAt Go.RowKit Go.Sort
set_option linter.unusedSimpArgs false
set_option linter.unusedVariables false
def overE (now : Int) (x : Co) : Bool := decide (x.en ≤ now)
def goneL (d : List Co) (now : Int) : List Int := (d.filter (overE now)).map (fun x => x.id)
theorem goneL_next {d : List Co} {k : Nat} (now : Int) (h : k < d.length) : goneL (d.take (k + 1)) now = goneL (d.take k) now ++ if overE now (gCo d k) = true then [(gCo d k).id] else [] := by
  unfold goneL
  rw [take_nextCo h, List.filter_append, List.map_append]
  congr 1
  cases h2 : overE now (gCo d k) <;> simp [List.filter_cons, h2]
theorem goneL_len (d : List Co) (now : Int) (k : Nat) : (goneL (d.take k) now).length ≤ k := by
  unfold goneL
  rw [List.length_map]
  have := List.length_filter_le (overE now) (d.take k)
  rw [List.length_take] at this
  omega
theorem infoI : (Try.prog.info? 3).map (fun i => (i.zero, i.size, i.bytes)) = some (some (.int .i64 0), 1, 8) := by kernel_rfl
/-- Who has gone till now, as the closure keeps it. -/
def GoneS (gN gg g0 : Nat) (now : Int) (l : List Int) (W : World) : Prop :=
  Blok W gN 3 #[.int .i64 now] ∧ ∃ v, Blok W gg 80 #[v] ∧ W.ownsRow (gg + 1) 3 1 v l.length (l.map (Value.int .i64)) ∧ v.ownBlock ≠ some g0
def GoneR (gN gg g0 : Nat) (now : Int) (d : List Co) (k : Nat) (W : World) : Prop := GoneS gN gg g0 now (goneL (d.take k) now) W
def SameFrom (W w w' : World) : Prop := ∀ b, W.heap.size ≤ b → b < w.heap.size → w'.heap[b]? = w.heap[b]?
def SameAt (g0 : Nat) (w w' : World) : Prop := w'.heap[g0]? = w.heap[g0]?
theorem ints_one (l : List Int) : ∀ u ∈ l.map (Value.int .i64), u.oneCell' = true := by
  intro u hu
  obtain ⟨x, _, rfl⟩ := List.mem_map.1 hu
  rfl
end Go.Proofs.Ytfdphpmcgidmiaa.Kc

/- Package contacts: Expire. No condition. -/
namespace Go.Proofs.Ytfdphpmcgidmiaa.Kc
open Go.ChangeShapes Go.WideShapes Go.ChangeAt Go.RowKit Go.Sort
set_option linter.unusedSimpArgs false
set_option linter.unusedVariables false
def leftC (d : List Co) (now : Int) : List Co := d.filter (fun x => !overE now x)
/-- What Expire's inner call leaves. -/
def DelPost (base0 gg : Nat) (now : Int) (d : List Co) (w : World) (e : Ending) (w' : World) : Prop :=
  ∃ v u, e = .returned v ∧ w'.ownsRow base0 28 6 v (leftC d now).length (flatCo (leftC d now)) ∧ Blok w' gg 80 #[u] ∧ w'.ownsRow (gg + 1) 3 1 u (goneL d now).length ((goneL d now).map (Value.int .i64)) ∧ Below base0 w w'
end Go.Proofs.Ytfdphpmcgidmiaa.Kc

/- Layer 6's small case comes out right. No condition. -/
namespace Go.Proofs.Ytfdphpmcgidmiaa.Kc
open Go.ChangeShapes Go.WideShapes Go.ChangeAt Go.RowKit Go.Sort
set_option linter.unusedSimpArgs false
set_option linter.unusedVariables false
theorem own_below {w w' : World} {base : Nat} {e : TypeId} {size n : Nat} {v : Value} {xs : List Value} (h : w.ownsRow base e size v n xs) (hb : Below w.heap.size w w') : w'.ownsRow base e size v n xs :=
  h.kept (grown_of_below (row := some w.heap.size) hb) (.inr (fun e => by have := (h.lt _ e).2; omega))
theorem add_first {d : List Co} {r : Co} {n i : Nat} (q : Nat) (hi : i ≤ n) (h1 : i = 0 ∨ cmpC (gCo d (i - 1)) r < 0) (h2 : i = n ∨ 0 ≤ cmpC (gCo d i) r) (hq : ∀ j, j ≤ n → (j = 0 ∨ cmpC (gCo d (j - 1)) r < 0) → (j = n ∨ 0 ≤ cmpC (gCo d j) r) → j = q) : i = q := hq i hi h1 h2
end Go.Proofs.Ytfdphpmcgidmiaa.Kc

/- Right tables of contacts: their order, who is found, one more, one less. No condition. -/
namespace Go.Proofs.Ytfdphpmcgidmiaa.Kc
open Go.ChangeShapes Go.WideShapes Go.ChangeAt Go.RowKit Go.Sort
set_option linter.unusedSimpArgs false
set_option linter.unusedVariables false
theorem gCo_elem {d : List Co} {i : Nat} (h : i < d.length) : gCo d i = d[i] := gCo_eq h
theorem mem_gCo {d : List Co} {y : Co} (h : y ∈ d) : ∃ j, j < d.length ∧ gCo d j = y := by
  obtain ⟨j, hj, e⟩ := List.mem_iff_getElem.1 h
  exact ⟨j, hj, by rw [gCo_eq hj, e]⟩
theorem ltC_trans {a b c : Co} (h1 : ltC a b) (h2 : ltC b c) : ltC a c := by unfold ltC at *; omega
theorem cmpC_lt {a b : Co} : cmpC a b < 0 ↔ ltC a b := by
  rcases cmpC_spec a b with ⟨h, e⟩ | ⟨h1, h2, h3, h4, e⟩ | ⟨h, e⟩
  · rw [e]; exact ⟨fun _ => h, fun _ => by omega⟩
  · rw [e]; unfold ltC; omega
  · rw [e]; unfold ltC at *; omega
theorem right_step {d : List Co} (h : rightC d = true) {i : Nat} (hi : i < d.length) : okC (gCo d i) = true ∧ idIn (d.take i) (gCo d i).id = false ∧ (i ≠ 0 → ltC (gCo d (i - 1)) (gCo d i) ∧ overC (gCo d (i - 1)) (gCo d i) = false) := by
  have := (rightC_true.1 h).2 i hi
  unfold stepC at this
  simp only [Bool.and_eq_true, Bool.or_eq_true, Bool.not_eq_true', beq_iff_eq, decide_eq_true_eq] at this
  refine ⟨this.1.1, this.1.2, fun h0 => ?_⟩
  rcases this.2 with h1 | ⟨h1, h2⟩
  · exact absurd h1 h0
  · exact ⟨cmpC_lt.1 h1, h2⟩
theorem right_ok {d : List Co} (h : rightC d = true) : ∀ x ∈ d, okC x = true := fun x hx => by
  obtain ⟨j, hj, rfl⟩ := mem_gCo hx
  exact (right_step h hj).1
theorem right_lt {d : List Co} (h : rightC d = true) : ∀ (j i : Nat), i < j → j < d.length → ltC (gCo d i) (gCo d j)
  | 0, i, h1, _ => by omega
  | j + 1, i, h1, h2 => by
    have hs := ((right_step h h2).2.2 (by omega)).1
    rw [Nat.add_sub_cancel] at hs
    by_cases e : i = j
    · rw [e]; exact hs
    · exact ltC_trans (right_lt h j i (by omega) (by omega)) hs
theorem right_ids {d : List Co} (h : rightC d = true) {i j : Nat} (hij : i < j) (hj : j < d.length) : (gCo d i).id ≠ (gCo d j).id := by
  have h1 := (right_step h hj).2.1
  unfold idIn at h1
  rw [List.any_eq_false] at h1
  intro e
  exact h1 (gCo d i) (by rw [gCo_eq (by omega : i < d.length)]; exact List.mem_take_iff_getElem.2 ⟨i, by omega, rfl⟩) (by simp [e])
/-- Of two places that fit, none is left of the other. -/
theorem place_le {d : List Co} {r : Co} (h : rightC d = true) {i j : Nat} (hi : i ≤ d.length) (hj : j ≤ d.length) (h1 : i = 0 ∨ cmpC (gCo d (i - 1)) r < 0) (h2 : j = d.length ∨ 0 ≤ cmpC (gCo d j) r) : i ≤ j := by
  by_cases hlt : j < i
  · exfalso
    rcases h1 with h1 | h1
    · omega
    · rcases h2 with h2 | h2
      · omega
      · have l1 := cmpC_lt.1 h1
        by_cases e : j = i - 1
        · rw [← e] at h1; omega
        · have l2 := ltC_trans (right_lt h (i - 1) j (by omega) (by omega)) l1
          have := cmpC_lt.2 l2
          omega
  · omega
def insC (d : List Co) (i : Nat) (r : Co) : List Co := d.take i ++ [r] ++ d.drop i
theorem insC_length {d : List Co} {i : Nat} (r : Co) (hi : i ≤ d.length) : (insC d i r).length = d.length + 1 := by
  unfold insC
  simp only [List.length_append, List.length_take, List.length_drop, List.length_cons, List.length_nil]
  omega
theorem insC_filter {d : List Co} {i : Nat} (x : Co) (p : Co → Bool) (hd : ∀ y ∈ d, p y = true) (hx : p x = false) : (insC d i x).filter p = d := by
  unfold insC
  rw [List.filter_append, List.filter_append, List.filter_eq_self.2 (fun y hy => hd y (List.mem_of_mem_take hy)), List.filter_eq_self.2 (fun y hy => hd y (List.mem_of_mem_drop hy)), List.filter_cons, if_neg (by simp [hx])]
  simp
theorem may_ok {d : List Co} {r : Co} (hm : mayC d r = 0) : okC r = true ∧ d.length < 4096 ∧ (∀ y ∈ d, (y.id == r.id) = false) ∧ ∀ y ∈ d, overC y r = false := by
  unfold mayC at hm
  split at hm
  · cases hm
  · split at hm
    · cases hm
    · split at hm
      · cases hm
      · split at hm
        · cases hm
        · rename_i h1 h2 h3 h4
          refine ⟨by simpa using h1, by omega, fun y hy => ?_, fun y hy => ?_⟩
          · cases e : (y.id == r.id)
            · rfl
            · exact absurd (List.any_eq_true.2 ⟨y, hy, e⟩) h3
          · cases e : overC y r
            · rfl
            · exact absurd (List.any_eq_true.2 ⟨y, hy, e⟩) h4
theorem may_twice {d : List Co} {r : Co} {i : Nat} (hm : mayC d r = 0) (hi : i ≤ d.length) (hl : d.length < 4095) : mayC (insC d i r) r = 4 := by
  obtain ⟨h1, _, _, _⟩ := may_ok hm
  unfold mayC
  rw [if_neg (by rw [h1]; simp), insC_length r hi, if_neg (by omega), if_pos (by unfold insC; simp)]
end Go.Proofs.Ytfdphpmcgidmiaa.Kc

/- What is right stays right; Add, Delete, Change and Find of a right table, in one form. No condition. -/
namespace Go.Proofs.Ytfdphpmcgidmiaa.Kc
open Go.ChangeShapes Go.WideShapes Go.ChangeAt Go.RowKit Go.Sort
set_option linter.unusedSimpArgs false
set_option linter.unusedVariables false
theorem okC_span {x : Co} (h : okC x = true) : x.st < x.en := by
  unfold okC contactB spanB at h
  simp only [Bool.and_eq_true, decide_eq_true_eq] at h
  omega
def befC (a b : Co) : Prop := ltC a b ∧ a.id ≠ b.id ∧ (a.fr = b.fr → a.tn = b.tn → a.en ≤ b.st)
theorem over_bef {a b : Co} (ha : okC a = true) (hb : okC b = true) (hl : ltC a b) (ho : overC a b = false) : a.fr = b.fr → a.tn = b.tn → a.en ≤ b.st := by
  have h1 := okC_span ha
  have h2 := okC_span hb
  unfold overC at ho
  rw [decide_eq_false_iff_not] at ho
  unfold ltC at hl
  intro e1 e2
  by_cases hx : a.en ≤ b.st
  · exact hx
  · exact absurd ⟨e1, e2, by omega, by omega⟩ ho
theorem right_bef {d : List Co} (h : rightC d = true) : ∀ (j i : Nat), i < j → j < d.length → befC (gCo d i) (gCo d j)
  | 0, i, h1, _ => by omega
  | j + 1, i, h1, h2 => by
    have hs := (right_step h h2).2.2 (by omega)
    rw [Nat.add_sub_cancel] at hs
    have hok1 := (right_step h h2).1
    have hok2 := (right_step h (by omega : j < d.length)).1
    have hn := over_bef hok2 hok1 hs.1 hs.2
    have hid := right_ids h h1 h2
    refine ⟨right_lt h _ _ h1 h2, hid, ?_⟩
    by_cases e : i = j
    · rw [e]; exact hn
    · have hp := right_bef h j i (by omega) (by omega)
      intro e1 e2
      have hl1 := hp.1
      have hl2 := hs.1
      have s1 := okC_span hok2
      have f1 : (gCo d i).fr = (gCo d j).fr := by unfold ltC at hl1 hl2; omega
      have f2 : (gCo d i).tn = (gCo d j).tn := by unfold ltC at hl1 hl2; omega
      have g1 := hp.2.2 f1 f2
      have g2 := hn (by omega) (by omega)
      omega
theorem bef_pairwise {d : List Co} (h : rightC d = true) : d.Pairwise befC := by
  rw [List.pairwise_iff_getElem]
  intro i j hi hj hij
  have := right_bef h j i hij hj
  rw [gCo_eq hi, gCo_eq hj] at this
  exact this
theorem right_of {d : List Co} (hn : d.length ≤ 4096) (hok : ∀ x ∈ d, okC x = true) (hs : d.Pairwise befC) : rightC d = true := by
  rw [rightC_true]
  refine ⟨hn, fun i hi => ?_⟩
  have hpw := List.pairwise_iff_getElem.1 hs
  unfold stepC
  rw [hok _ (gCo_mem hi), Bool.true_and]
  have h1 : idIn (d.take i) (gCo d i).id = false := by
    unfold idIn
    rw [List.any_eq_false]
    intro x hx
    obtain ⟨j, hj, rfl⟩ := List.mem_take_iff_getElem.1 hx
    have := (hpw j i (by omega) hi (by omega)).2.1
    rw [gCo_eq hi]
    simpa using this
  rw [h1]
  by_cases h0 : i = 0
  · simp [h0]
  · have hb := hpw (i - 1) i (by omega) hi (by omega)
    rw [← gCo_eq hi, ← gCo_eq (by omega : i - 1 < d.length)] at hb
    have hc := cmpC_lt.2 hb.1
    have ho : overC (gCo d (i - 1)) (gCo d i) = false := by
      unfold overC
      rw [decide_eq_false_iff_not]
      rintro ⟨e1, e2, e3, e4⟩
      have := hb.2.2 e1 e2
      omega
    rw [ho]
    simp [hc]
theorem right_filter {d : List Co} (h : rightC d = true) (p : Co → Bool) : rightC (d.filter p) = true :=
  right_of (Nat.le_trans (List.length_filter_le _ _) (rightC_true.1 h).1) (fun x hx => right_ok h x (List.mem_filter.1 hx).1) ((bef_pairwise h).filter p)
theorem right_ins {d : List Co} {r : Co} {i : Nat} (h : rightC d = true) (hm : mayC d r = 0) (hi : i ≤ d.length) (h1 : i = 0 ∨ cmpC (gCo d (i - 1)) r < 0) (h2 : i = d.length ∨ 0 ≤ cmpC (gCo d i) r) : rightC (insC d i r) = true := by
  obtain ⟨hok, hlen, hfr, hov⟩ := may_ok hm
  have hbef : ∀ a ∈ d.take i, befC a r := fun a ha => by
    obtain ⟨j, hj, rfl⟩ := List.mem_take_iff_getElem.1 ha
    have hjd : j < d.length := by omega
    have hl : ltC (gCo d (i - 1)) r := by
      rcases h1 with h1 | h1
      · omega
      · exact cmpC_lt.1 h1
    have hl2 : ltC (gCo d j) r := by
      by_cases e : j = i - 1
      · rw [e]; exact hl
      · exact ltC_trans (right_lt h (i - 1) j (by omega) (by omega)) hl
    rw [← gCo_eq hjd]
    exact ⟨hl2, by simpa using hfr _ (gCo_mem hjd), over_bef (right_ok h _ (gCo_mem hjd)) hok hl2 (hov _ (gCo_mem hjd))⟩
  have haft : ∀ b ∈ d.drop i, befC r b := fun b hb => by
    obtain ⟨j, hj, rfl⟩ := List.mem_drop_iff_getElem.1 hb
    have hjd : i + j < d.length := by omega
    have hl : ltC r (gCo d i) := by
      rcases h2 with h2 | h2
      · omega
      · rcases cmpC_spec (gCo d i) r with ⟨_, e⟩ | ⟨_, _, _, e4, _⟩ | ⟨hl, _⟩
        · omega
        · have := hfr _ (gCo_mem (by omega : i < d.length))
          rw [e4] at this
          simp at this
        · exact hl
    have hl2 : ltC r (gCo d (i + j)) := by
      by_cases e : j = 0
      · subst e; exact hl
      · exact ltC_trans hl (right_lt h (i + j) i (by omega) hjd)
    rw [← gCo_eq hjd]
    have hb2 := okC_span (right_ok h _ (gCo_mem hjd))
    have hr2 := okC_span hok
    refine ⟨hl2, fun e => by have := hfr _ (gCo_mem hjd); rw [← e] at this; simp at this, fun e1 e2 => ?_⟩
    have ho := hov _ (gCo_mem hjd)
    unfold overC at ho
    rw [decide_eq_false_iff_not] at ho
    unfold ltC at hl2
    by_cases hx : r.en ≤ (gCo d (i + j)).st
    · exact hx
    · exact absurd ⟨e1.symm, e2.symm, by omega, by omega⟩ ho
  refine right_of (by rw [insC_length r hi]; omega) (fun x hx => ?_) ?_
  · unfold insC at hx
    simp only [List.mem_append, List.mem_singleton] at hx
    rcases hx with (hx | rfl) | hx
    · exact right_ok h x (List.mem_of_mem_take hx)
    · exact hok
    · exact right_ok h x (List.mem_of_mem_drop hx)
  · unfold insC
    have hp := bef_pairwise h
    rw [← List.take_append_drop i d, List.pairwise_append] at hp
    rw [List.append_assoc, List.pairwise_append]
    refine ⟨hp.1, ?_, fun a ha b hb => ?_⟩
    · rw [List.singleton_append, List.pairwise_cons]
      exact ⟨haft, hp.2.1⟩
    · rw [List.singleton_append, List.mem_cons] at hb
      rcases hb with rfl | hb
      · exact hbef a ha
      · exact hp.2.2 a ha b hb
theorem gCo_set {d : List Co} {q j : Nat} (x : Co) (hj : j < d.length) : gCo (d.set q x) j = if q = j then x else gCo d j := by
  rw [gCo_eq (by rw [List.length_set]; exact hj), List.getElem_set, gCo_eq hj]
theorem okC_rt {x : Co} {o : Int} (h : okC x = true) (h0 : inB o 1 2147483647 = true) : okC (withRt x o) = true := by
  unfold okC contactB at h ⊢
  simp only [withRt, Bool.and_eq_true] at h ⊢
  exact ⟨h.1, h0⟩
theorem right_set {d : List Co} {q : Nat} {o : Int} (h : rightC d = true) (hq : q < d.length) (h0 : inB o 1 2147483647 = true) : rightC (d.set q (withRt (gCo d q) o)) = true := by
  refine right_of (by rw [List.length_set]; exact (rightC_true.1 h).1) (fun x hx => ?_) ?_
  · obtain ⟨j, hj, rfl⟩ := mem_gCo hx
    rw [List.length_set] at hj
    rw [gCo_set _ hj]
    split
    · exact okC_rt (right_ok h _ (gCo_mem hq)) h0
    · exact right_ok h _ (gCo_mem hj)
  · rw [List.pairwise_iff_getElem]
    intro i j hi hj hij
    rw [List.length_set] at hi hj
    have hb := right_bef h j i hij hj
    have hi2 := gCo_set (d := d) (q := q) (withRt (gCo d q) o) hi
    have hj2 := gCo_set (d := d) (q := q) (withRt (gCo d q) o) hj
    rw [gCo_eq (by rw [List.length_set]; exact hi)] at hi2
    rw [gCo_eq (by rw [List.length_set]; exact hj)] at hj2
    rw [hi2, hj2]
    by_cases e1 : q = i
    · subst e1
      rw [if_pos rfl, if_neg (by omega)]
      exact hb
    · rw [if_neg e1]
      by_cases e2 : q = j
      · subst e2
        rw [if_pos rfl]
        exact hb
      · rw [if_neg e2]
        exact hb
/-- Who is found by an ID. -/
def foundC (d : List Co) (id : Int) : Co := (d.find? (fun x => x.id == id)).getD ⟨0, 0, 0, 0, 0, 0⟩
theorem found_mem {d : List Co} {id : Int} (h : idIn d id = true) : foundC d id ∈ d ∧ (foundC d id).id = id := by
  unfold foundC
  cases e : d.find? (fun x => x.id == id) with
  | none =>
    rw [List.find?_eq_none] at e
    unfold idIn at h
    obtain ⟨x, hx, hx2⟩ := List.any_eq_true.1 h
    exact absurd hx2 (e x hx)
  | some y =>
    exact ⟨List.mem_of_find?_eq_some e, by simpa using List.find?_some e⟩
theorem idIn_mem {d : List Co} {x : Co} (h : x ∈ d) : idIn d x.id = true := List.any_eq_true.2 ⟨x, h, by simp⟩
theorem found_of {d : List Co} {x : Co} (h : rightC d = true) (hx : x ∈ d) : foundC d x.id = x := by
  obtain ⟨h1, h2⟩ := found_mem (idIn_mem hx)
  obtain ⟨i, hi, e1⟩ := mem_gCo h1
  obtain ⟨j, hj, e2⟩ := mem_gCo hx
  rw [← e1, ← e2] at h2
  by_cases e : i = j
  · rw [← e1, ← e2, e]
  · rcases Nat.lt_or_gt_of_ne e with hlt | hlt
    · exact absurd h2 (right_ids h hlt hj)
    · exact absurd h2.symm (right_ids h hlt hi)
theorem found_none {d : List Co} {id : Int} (h : idIn d id = false) : foundC d id = ⟨0, 0, 0, 0, 0, 0⟩ := by
  unfold foundC
  have : d.find? (fun x => x.id == id) = none := List.find?_eq_none.2 (fun x hx => by
    unfold idIn at h
    rw [List.any_eq_false] at h
    exact h x hx)
  rw [this]
  rfl
theorem find_any (A : Option Addr) (n c : Nat) (d : List Co) (id : Int) (w : World) (hd : d.length = n) (hn : n ≤ 1000000) (h : Sl w w.heap.size 6 A n c (flatCo d)) (hr : rightC d = true) (x : Co) (b : Bool) (hx : foundC d id = x) (hb : idIn d id = b) :
    Calls Try.prog 26 #[.slice A n c, .int .i64 id] w fun e w' => e = .returned (.tuple #[.agg #[.int .i64 x.id, .int .i64 x.fr, .int .i64 x.tn, .int .i64 x.st, .int .i64 x.en, .int .i64 x.rt], .bool b]) ∧ Below w.heap.size w w' := by
  cases b with
  | false =>
    rw [found_none hb] at hx
    subst hx
    exact find_no A n c d id w hd hn h (fun j hj => noHitCo hb (by omega))
  | true =>
    obtain ⟨q, hq, h1, h2⟩ := firstHitCo hb
    have e : gCo d q = x := by
      have h3 := found_of hr (gCo_mem hq)
      rw [← hx, ← h3]
      congr 1
      simpa using h2.symm
    rw [← e]
    exact find_yes A n c d id w q hd hn h (by omega) h1 h2
/-- What a call leaves. -/
structure ActC (d e : List Co) (q wh id : Int) (r : Co) : Prop where
  right : rightC e = true
  same : q ≠ 0 → e = d
  short : e.length ≤ d.length + 1
  keep : ∀ x ∈ d, x.id ≠ id → x ∈ e
  add : q = 0 → wh = 1 → idIn d id = false ∧ r ∈ e ∧ r.id = id ∧ e.length = d.length + 1
  del : q = 0 → wh = 2 → idIn d id = true ∧ idIn e id = false ∧ e.length + 1 = d.length
  chg : q = 0 → wh = 3 → idIn d id = true ∧ withRt (foundC d id) r.rt ∈ e ∧ e.length = d.length
theorem ActC.err {d : List Co} {q wh id : Int} {r : Co} (h : rightC d = true) (hq : q ≠ 0) : ActC d d q wh id r := ⟨h, fun _ => rfl, by omega, fun _ hx _ => hx, fun e => absurd e hq, fun e => absurd e hq, fun e => absurd e hq⟩
theorem filter_one {d : List Co} (h1 : d.Pairwise befC) {id : Int} (h : idIn d id = true) : (d.filter (fun x => !(x.id == id))).length + 1 = d.length := by
  induction d with
  | nil => simp [idIn] at h
  | cons a d ih =>
    rw [List.pairwise_cons] at h1
    rw [List.filter_cons]
    cases hsa : (a.id == id)
    · rw [if_pos (by rfl)]
      simp only [List.length_cons]
      have := ih h1.2 (by unfold idIn at h ⊢; rw [List.any_cons, hsa] at h; simpa using h)
      omega
    · rw [if_neg (by decide)]
      rw [List.filter_eq_self.2 (fun x hx => ?_)]
      · rfl
      · have hl := (h1.1 x hx).2.1
        have : a.id = id := by simpa using hsa
        rw [this] at hl
        simpa using fun e => hl e.symm
end Go.Proofs.Ytfdphpmcgidmiaa.Kc

/- IndexFunc and DeleteFunc at 55-rows, the closure with a state of its own. -/
namespace Go.Proofs.Ytfdphpmcgidmiaa.Kb
open Go.ChangeShapes Go.WideShapes Go.ChangeAt Go.RowKit Go.Sort
set_option linter.unusedSimpArgs false
set_option linter.unusedVariables false
theorem own_same {w w' : World} {base : Nat} {e : TypeId} {size g n c : Nat} {xs : List Value} (h : w.ownsRow base e size (.slice (some ⟨g, 0, none⟩) n c) n xs) (hh : w'.heap[g]? = w.heap[g]?) : w'.ownsRow base e size (.slice (some ⟨g, 0, none⟩) n c) n xs := by
  refine ⟨h.1, ?_⟩
  rcases h.2 with hx | ⟨g', cap, cur, h1, h2, h3, rest⟩
  · exact .inl hx
  · simp only [Value.slice.injEq, Option.some.injEq, Addr.mk.injEq, and_true, true_and] at h1
    obtain ⟨rfl, rfl⟩ := h1
    exact .inr ⟨g, c, cur, rfl, h2, hh.trans h3, rest⟩
/-- A closure that tells p of the k-th of d when it is asked in a world of state k, and leaves one of state k + 1; below base nothing turns, nor does block g0; the state holds on while g0 is written, and behind new blocks. -/
structure PredS (g : FuncId) (lb : Array Value) (g0 base : Nat) (d : List Bk) (p : Bk → Bool) (R : Nat → World → Prop) : Prop where
  run : ∀ vals w, (callFunc g vals).run Try.prog w = .ok (.enter g vals) w
  tells : ∀ k, k < d.length → ∀ W w', R k W → Below W.heap.size W w' → g0 < W.heap.size → base ≤ W.heap.size → Calls Try.prog g (#[.agg #[.int .i64 (gBk d k).id, .int .i64 (gBk d k).ua, .int .i64 (gBk d k).ub, .int .i64 (gBk d k).uc]] ++ lb) w' fun e w'' => e = .returned (.bool (p (gBk d k))) ∧ R (k + 1) w'' ∧ Below base w' w'' ∧ w''.heap[g0]? = w'.heap[g0]? ∧ (∀ b, W.heap.size ≤ b → b < w'.heap.size → w''.heap[b]? = w'.heap[b]?)
  stay : ∀ k w w', R k w → w.grownBy w' (some g0) → R k w'
def qNext (q n : Nat) : Nat := if q < n then q + 1 else n
end Go.Proofs.Ytfdphpmcgidmiaa.Kb

/- BinarySearchFunc at these rows, the target an int. -/
namespace Go.Proofs.Ytfdphpmcgidmiaa.Kb
open Go.ChangeShapes Go.WideShapes Go.ChangeAt Go.RowKit Go.Sort
set_option linter.unusedSimpArgs false
set_option linter.unusedVariables false
/-- A function value that compares with t, as cf says, in whatever world that has grown from W. -/
structure CmpIBk (g : FuncId) (lb : Array Value) (t : Int) (W : World) (cf : Bk → Int) : Prop where
  run : ∀ vals w, (callFunc g vals).run Try.prog w = .ok (.enter g vals) w
  tells : ∀ w', Below W.heap.size W w' → ∀ x : Bk, Calls Try.prog g (#[.agg #[.int .i64 x.id, .int .i64 x.ua, .int .i64 x.ub, .int .i64 x.uc], .int .i64 t] ++ lb) w' fun e w'' => e = .returned (.int .i64 (cf x)) ∧ Below w'.heap.size w' w''
set_option maxHeartbeats 1000000 in
set_option maxRecDepth 100000 in
theorem binaryIBk (A : Option Addr) (n c : Nat) (d : List Bk) (t : Int) (g : FuncId) (lb : Array Value) (cf : Bk → Int) (w : World) (hd : d.length = n) (hn : n ≤ 1000000) (h : Sl w w.heap.size 4 A n c (flatBk d)) (hp : CmpIBk g lb t w cf) :
    Calls Try.prog 95 #[.slice A n c, .int .i64 t, .func (.func g) #[] lb] w fun e w' => ∃ (i : Nat) (b : Bool), e = .returned (.tuple #[.int .i64 i, .bool b]) ∧ i ≤ n ∧ (i = 0 ∨ cf (gBk d (i - 1)) < 0) ∧ (i = n ∨ 0 ≤ cf (gBk d i)) ∧ b = (decide (i < n) && cf (gBk d i) == 0) ∧ Below w.heap.size w w' := by
  have hcf := hp.run
  have HP := Lib.hid hp
  have HD := Lib.hid hd
  clear hp hd
  go_enter Try.func95, Try.ntmps95
  go_wp2
  go_loopw [9, 10] (fun iv jv wr => ∃ i j : Nat, iv = .int .i64 i ∧ jv = .int .i64 j ∧ i ≤ j ∧ j ≤ n ∧ Hid (i = 0 ∨ cf (gBk d (i - 1)) < 0) ∧ Hid (j = n ∨ 0 ≤ cf (gBk d j)) ∧ Below w.heap.size w wr) (fun iv jv _ => (intOf jv - intOf iv).toNat)
  case atStart => exact ⟨0, n, rfl, rfl, by omega, Nat.le_refl _, .inl rfl, .inl rfl, Below.refl _ _⟩
  case round =>
    obtain ⟨i, j, rfl, rfl, hij, hjn, HI, HJ, hB⟩ := hrel
    have hs := hB.size
    by_cases hlt : i < j
    · obtain ⟨m, hm⟩ : ∃ m : Nat, (i + j) / 2 = m := ⟨_, rfl⟩
      have hmi : ((i : Int) + (j : Int)) / 2 = (m : Int) := by omega
      have hm1 : i ≤ m := by omega
      have hm2 : m < j := by omega
      have hmn : m < n := by omega
      have hmI : (m : Int) < (n : Int) := by omega
      clear hm
      obtain ⟨ad, rfl, hab, c0, c1, c2, c3⟩ := (h.below hB).lst.atBk HD.out (k := m) (by omega)
      obtain ⟨x, hx⟩ : ∃ x, gBk d m = x := ⟨_, rfl⟩
      rw [hx] at c0 c1 c2 c3
      have HX := Lib.hid hx
      clear hx
      have ht := HP.out.tells wr hB x
      obtain ⟨y, hy⟩ : ∃ y, cf x = y := ⟨_, rfl⟩
      rw [hy] at ht
      have HT := Lib.hid ht
      have HY := Lib.hid hy
      clear ht hy
      by_cases hneg : y < 0
      · go_wp2_with fail
        refine HT.out.mono ?_
        rintro e w1 ⟨rfl, hbel⟩
        replace hB := hB.trans (hbel.mono hs)
        clear hbel c0 c1 c2 c3 hmi
        go_wp2
        go_roundw
        case rel => exact ⟨m + 1, j, by go_num, rfl, by omega, by omega, (.inr (by rw [Nat.add_sub_cancel, HX.out, HY.out]; exact hneg)), HJ, hB⟩
        case measure => simp [intOf]; omega
      · go_wp2_with fail
        refine HT.out.mono ?_
        rintro e w1 ⟨rfl, hbel⟩
        replace hB := hB.trans (hbel.mono hs)
        clear hbel c0 c1 c2 c3 hmi
        go_wp2
        go_roundw
        case rel => exact ⟨i, m, rfl, rfl, by omega, by omega, HI, (.inr (by rw [HX.out, HY.out]; omega)), hB⟩
        case measure => simp [intOf]; omega
    · obtain rfl : i = j := by omega
      by_cases hin : i < n
      · obtain ⟨ad, rfl, hab, c0, c1, c2, c3⟩ := (h.below hB).lst.atBk HD.out (k := i) (by omega)
        obtain ⟨x, hx⟩ : ∃ x, gBk d i = x := ⟨_, rfl⟩
        rw [hx] at c0 c1 c2 c3
        have HX := Lib.hid hx
        clear hx
        have hini : (i : Int) < (n : Int) := by omega
        have ht := HP.out.tells wr hB x
        obtain ⟨y, hy⟩ : ∃ y, cf x = y := ⟨_, rfl⟩
        rw [hy] at ht
        have HT := Lib.hid ht
        have HY := Lib.hid hy
        clear ht hy
        go_wp2_with fail
        refine HT.out.mono ?_
        rintro e w1 ⟨rfl, hbel⟩
        replace hB := hB.trans (hbel.mono hs)
        clear hbel c0 c1 c2 c3
        go_wp2
        go_ret2
        refine ⟨i, (y == 0), rfl, hjn, HI.out, HJ.out, ?_, hB⟩
        rw [HX.out, HY.out, decide_eq_true hin]; simp
      · have hdn : decide ((i : Int) < (n : Int)) = false := by simp; omega
        go_wp2
        go_ret2
        refine ⟨i, false, rfl, hjn, HI.out, HJ.out, ?_, hB⟩
        rw [decide_eq_false hin]; simp
end Go.Proofs.Ytfdphpmcgidmiaa.Kb

/- Package ledger: the order of a ledger, find, Used, isClass. No condition. -/
namespace Go.Proofs.Ytfdphpmcgidmiaa.Kb
open Go.ChangeShapes Go.WideShapes Go.ChangeAt Go.RowKit Go.Sort
set_option linter.unusedSimpArgs false
set_option linter.unusedVariables false
def SortB (d : List Bk) : Prop := d.Pairwise (fun a b => a.id < b.id)
/-- Where the row of that ID stands, or would. -/
def pl (d : List Bk) (id : Int) : Nat := (d.filter (fun x => decide (x.id < id))).length
def hit (d : List Bk) (id : Int) : Bool := d.any (fun x => x.id == id)
/-- The row of that ID, or one of nothing. -/
def rowB (d : List Bk) (id : Int) : Bk := if hit d id = true then gBk d (pl d id) else ⟨id, 0, 0, 0⟩
theorem mem_gBk {d : List Bk} {y : Bk} (h : y ∈ d) : ∃ j, j < d.length ∧ gBk d j = y := by
  obtain ⟨j, hj, e⟩ := List.mem_iff_getElem.1 h
  exact ⟨j, hj, by rw [gBk_eq hj, e]⟩
theorem SortB.at_ {d : List Bk} (h : SortB d) {i j : Nat} (hij : i < j) (hj : j < d.length) : (gBk d i).id < (gBk d j).id := by
  have := List.pairwise_iff_getElem.1 h i j (by omega) hj hij
  rw [gBk_eq hj, gBk_eq (by omega : i < d.length)]
  exact this
theorem pl_of {d : List Bk} {id : Int} {i : Nat} (hs : SortB d) (hi : i ≤ d.length) (h1 : i = 0 ∨ (gBk d (i - 1)).id < id) (h2 : i = d.length ∨ id ≤ (gBk d i).id) : pl d id = i := by
  unfold pl
  have e1 : (d.take i).filter (fun x => decide (x.id < id)) = d.take i := List.filter_eq_self.2 (fun x hx => by
    obtain ⟨j, hj, rfl⟩ := List.mem_take_iff_getElem.1 hx
    rw [decide_eq_true_eq]
    rcases h1 with h1 | h1
    · omega
    · by_cases e : j = i - 1
      · rw [gBk_eq (by omega)] at h1
        subst e
        exact h1
      · have := hs.at_ (i := j) (j := i - 1) (by omega) (by omega)
        rw [gBk_eq (by omega : j < d.length)] at this
        omega)
  have e2 : (d.drop i).filter (fun x => decide (x.id < id)) = [] := List.filter_eq_nil_iff.2 (fun x hx => by
    obtain ⟨j, hj', rfl⟩ := List.mem_drop_iff_getElem.1 hx
    have hj : i + j < d.length := by omega
    rw [decide_eq_true_eq]
    rcases h2 with h2 | h2
    · omega
    · by_cases e : j = 0
      · subst e
        rw [gBk_eq (by omega)] at h2
        simp only [Nat.add_zero]
        omega
      · have := hs.at_ (i := i) (j := i + j) (by omega) hj
        rw [gBk_eq hj] at this
        omega)
  conv => lhs; rw [← List.take_append_drop i d]
  rw [List.filter_append, e1, e2, List.append_nil, List.length_take]
  omega
theorem pl_le (d : List Bk) (id : Int) : pl d id ≤ d.length := List.length_filter_le _ _
theorem hit_iff {d : List Bk} {id : Int} {i : Nat} (hs : SortB d) (hi : i ≤ d.length) (h1 : i = 0 ∨ (gBk d (i - 1)).id < id) (h2 : i = d.length ∨ id ≤ (gBk d i).id) : hit d id = (decide (i < d.length) && ((gBk d i).id == id)) := by
  unfold hit
  rw [Bool.eq_iff_iff]
  simp only [List.any_eq_true, beq_iff_eq, Bool.and_eq_true, decide_eq_true_eq]
  constructor
  · rintro ⟨x, hx, rfl⟩
    obtain ⟨j, hj, rfl⟩ := mem_gBk hx
    have h3 : ¬ j < i := fun hlt => by
      rcases h1 with h1 | h1
      · omega
      · by_cases e : j = i - 1
        · rw [← e] at h1; omega
        · have := hs.at_ (i := j) (j := i - 1) (by omega) (by omega)
          omega
    rcases h2 with h2 | h2
    · omega
    · by_cases e : j = i
      · subst e; exact ⟨hj, rfl⟩
      · have := hs.at_ (i := i) (j := j) (by omega) hj
        omega
  · rintro ⟨hi2, he⟩
    exact ⟨_, gBk_mem hi2, he⟩
theorem hit_at {d : List Bk} {id : Int} (hs : SortB d) (h : hit d id = true) : pl d id < d.length ∧ (gBk d (pl d id)).id = id := by
  unfold hit at h
  obtain ⟨x, hx, he⟩ := List.any_eq_true.1 h
  obtain ⟨j, hj, rfl⟩ := mem_gBk hx
  have he : (gBk d j).id = id := by simpa using he
  have : pl d id = j := pl_of hs (by omega) (by
    by_cases e : j = 0
    · exact .inl e
    · right
      have := hs.at_ (i := j - 1) (j := j) (by omega) hj
      omega) (.inr (by omega))
  rw [this]
  exact ⟨hj, he⟩
set_option maxHeartbeats 1000000 in
set_option maxRecDepth 100000 in
theorem find1_any (x : Bk) (id : Int) (w : World) : Calls Try.prog 96 #[.agg #[.int .i64 x.id, .int .i64 x.ua, .int .i64 x.ub, .int .i64 x.uc], .int .i64 id] w fun e w' => e = .returned (.int .i64 (cmpI x.id id)) ∧ Below w.heap.size w w' := by
  obtain ⟨p, hp⟩ : ∃ p, cmpI x.id id = p := ⟨_, rfl⟩
  have HP := Lib.hid hp
  rw [hp]
  clear hp
  go_enter Try.func96, Try.ntmps96
  go_wp2_with fail
  refine (HP.out ▸ cmp_any x.id id _).mono ?_
  rintro e w3 ⟨rfl, rfl⟩
  go_wp2
  go_ret
  exact ⟨rfl, by (repeat (first | exact Below.refl _ _ | refine Below.alloc ?_ (by first | omega | (simp; done) | (simp; omega)) _ | refine Below.setCell ?_ (by first | omega | (simp; done) | (simp; omega)) _ | refine Below.drew ?_))⟩
theorem cmpI_neg {a b : Int} : cmpI a b < 0 ↔ a < b := by
  rcases Int.lt_trichotomy a b with h | h | h
  · rw [cmpI_lt h]; omega
  · rw [cmpI_zero.2 h]; omega
  · rw [cmpI_gt h]; omega
theorem cmp_bk (t : Int) (w : World) : CmpIBk 96 #[] t w (fun x => cmpI x.id t) :=
  ⟨enter_run Try.func96 rfl rfl, fun w' _ x => find1_any x t w'⟩
set_option maxRecDepth 100000 in
theorem find_any (A : Option Addr) (n c : Nat) (d : List Bk) (id : Int) (w : World) (hd : d.length = n) (hn : n ≤ 1000000) (h : Sl w w.heap.size 4 A n c (flatBk d)) (hs : SortB d) (i : Nat) (b : Bool) (hi : pl d id = i) (hb : hit d id = b) :
    Calls Try.prog 83 #[.slice A n c, .int .i64 id] w fun e w' => e = .returned (.tuple #[.int .i64 i, .bool b]) ∧ Below w.heap.size w w' := by
  have hc := (binaryIBk A n c d id _ _ _ w hd hn h (cmp_bk id w)).mono (fun e w' ⟨j, b', he, hj, h1, h2, hb', hB⟩ => (show e = Ending.returned (.tuple #[.int .i64 i, .bool b]) ∧ Below w.heap.size w w' from by
    have h1' : j = 0 ∨ (gBk d (j - 1)).id < id := h1.imp (fun h => h) (fun h => cmpI_neg.1 h)
    have h2' : j = d.length ∨ id ≤ (gBk d j).id := h2.imp (fun h => by omega) (fun h => by
      by_cases e : (gBk d j).id < id
      · have := cmpI_neg.2 e
        omega
      · omega)
    have e1 : j = i := by rw [← hi]; exact (pl_of hs (by omega) h1' h2').symm
    have e2 : b' = b := by
      rw [hb', ← hb, hit_iff hs (by omega) h1' h2', hd]
      congr 1
      rw [Bool.eq_iff_iff, beq_iff_eq, beq_iff_eq, cmpI_zero]
    rw [he, e1, e2]
    exact ⟨rfl, hB⟩))
  have HC := Lib.hid hc
  clear hc hi hb hs
  go_enter Try.func83, Try.ntmps83
  go_wp2_with fail
  refine HC.out.mono ?_
  rintro e w1 ⟨rfl, hB⟩
  go_wp2
  go_ret2
  exact ⟨rfl, hB⟩
set_option maxHeartbeats 1000000 in
set_option maxRecDepth 100000 in
theorem used_any (A : Option Addr) (n c : Nat) (d : List Bk) (id : Int) (w : World) (hd : d.length = n) (hn : n ≤ 1000000) (h : Sl w w.heap.size 4 A n c (flatBk d)) (hs : SortB d) (x : Bk) (hx : rowB d id = x) :
    Calls Try.prog 67 #[.slice A n c, .int .i64 id] w fun e w' => e = .returned (.agg #[.int .i64 x.ua, .int .i64 x.ub, .int .i64 x.uc]) ∧ Below w.heap.size w w' := by
  obtain ⟨b, hb⟩ : ∃ b, hit d id = b := ⟨_, rfl⟩
  have hBa : Below w.heap.size w (w.alloc (.cells #[.int .i64 0, .int .i64 0, .int .i64 0] 53)) := by (repeat (first | exact Below.refl _ _ | refine Below.alloc ?_ (by first | omega | (simp; done) | (simp; omega)) _ | refine Below.setCell ?_ (by first | omega | (simp; done) | (simp; omega)) _ | refine Below.drew ?_))
  have hX := Blok.new w 53 #[.int .i64 0, .int .i64 0, .int .i64 0]
  have hl := h.up hBa
  cases b with
  | false =>
    have hz : x = ⟨id, 0, 0, 0⟩ := by rw [← hx]; unfold rowB; rw [if_neg (by rw [hb]; simp)]
    subst hz
    have HF := Lib.hid (find_any A n c d id _ hd hn hl hs _ false rfl hb)
    clear hx hb h hl
    go_enter Try.func67, Try.ntmps67
    go_wp2_with fail
    generalize w.alloc (.cells #[.int .i64 0, .int .i64 0, .int .i64 0] 53) = w2 at *
    refine HF.out.mono ?_
    rintro e w5 ⟨rfl, hb5⟩
    replace hX := hX.below hb5 hX.lt
    replace hBa := hBa.trans (hb5.mono hBa.size)
    clear hb5 HF
    have r0 : w5.cell? ⟨w.heap.size, 0, none⟩ = some (.int .i64 0) := hX.cell 0
    have r1 : w5.cell? ⟨w.heap.size, 1, none⟩ = some (.int .i64 0) := hX.cell 1
    have r2 : w5.cell? ⟨w.heap.size, 2, none⟩ = some (.int .i64 0) := hX.cell 2
    have f0 := hX.free 0
    have f1 := hX.free 1
    have f2 := hX.free 2
    have hlt := hX.lt
    have HXX := Lib.hid hX
    clear hX
    go_wp2
    have hX := HXX.out
    clear r0 r1 r2
    have hF : Blok (((w5.setCell ⟨w.heap.size, 0, none⟩ (.int .i64 0)).setCell ⟨w.heap.size, 1, none⟩ (.int .i64 0)).setCell ⟨w.heap.size, 2, none⟩ (.int .i64 0)) w.heap.size 53 #[.int .i64 0, .int .i64 0, .int .i64 0] := by have h := (((hX.set_ 0 (.int .i64 0)).set_ 1 (.int .i64 0)).set_ 2 (.int .i64 0)); simpa using h
    have hle0 : w.heap.size ≤ w.heap.size := by first | exact Nat.le_refl _ | omega
    have hWf : Below w.heap.size w (((w5.setCell ⟨w.heap.size, 0, none⟩ (.int .i64 0)).setCell ⟨w.heap.size, 1, none⟩ (.int .i64 0)).setCell ⟨w.heap.size, 2, none⟩ (.int .i64 0)) := (((hBa.setCell (p := ⟨w.heap.size, 0, none⟩) hle0 (.int .i64 0)).setCell (p := ⟨w.heap.size, 1, none⟩) hle0 (.int .i64 0)).setCell (p := ⟨w.heap.size, 2, none⟩) hle0 (.int .i64 0))
    have hlF := hF.lt
    generalize (((w5.setCell ⟨w.heap.size, 0, none⟩ (.int .i64 0)).setCell ⟨w.heap.size, 1, none⟩ (.int .i64 0)).setCell ⟨w.heap.size, 2, none⟩ (.int .i64 0)) = wf at *
    have r0 : wf.cell? ⟨w.heap.size, 0, none⟩ = some (.int .i64 0) := hF.cell 0
    have r1 : wf.cell? ⟨w.heap.size, 1, none⟩ = some (.int .i64 0) := hF.cell 1
    have r2 : wf.cell? ⟨w.heap.size, 2, none⟩ = some (.int .i64 0) := hF.cell 2
    refine bodyPost_ret (v := .agg #[.int .i64 0, .int .i64 0, .int .i64 0]) (by simp [results, Try.results67, go_sem, r0, r1, r2, hlF]) rfl ?_
    exact ⟨rfl, hWf⟩
  | true =>
    obtain ⟨hp, _⟩ := hit_at hs hb
    have hxg : gBk d (pl d id) = x := by rw [← hx]; unfold rowB; rw [if_pos hb]
    obtain ⟨q, hq⟩ : ∃ q, pl d id = q := ⟨_, rfl⟩
    rw [hq] at hp hxg
    have hqn : q < n := by omega
    obtain ⟨ad, rfl, -⟩ := h.lst.atBk hd hqn
    have hcap := h.cap
    have HF := Lib.hid (find_any (some ad) n c d id _ hd hn hl hs q true hq hb)
    have HX := Lib.hid hxg
    have HD := Lib.hid hd
    clear hx hb h hq hp hxg hd hs
    go_enter Try.func67, Try.ntmps67
    go_wp2_with fail
    generalize w.alloc (.cells #[.int .i64 0, .int .i64 0, .int .i64 0] 53) = w2 at *
    refine HF.out.mono ?_
    rintro e w5 ⟨rfl, hb5⟩
    replace hl := hl.up hb5
    replace hX := hX.below hb5 hX.lt
    replace hBa := hBa.trans (hb5.mono hBa.size)
    clear hb5 HF
    obtain ⟨ad', he, hab, c0, c1, c2, c3⟩ := hl.lst.atBk HD.out hqn
    injection he with he
    subst he
    rw [HX.out] at c0 c1 c2 c3
    have r0 : w5.cell? ⟨w.heap.size, 0, none⟩ = some (.int .i64 0) := hX.cell 0
    have r1 : w5.cell? ⟨w.heap.size, 1, none⟩ = some (.int .i64 0) := hX.cell 1
    have r2 : w5.cell? ⟨w.heap.size, 2, none⟩ = some (.int .i64 0) := hX.cell 2
    have f0 := hX.free 0
    have f1 := hX.free 1
    have f2 := hX.free 2
    have hlt := hX.lt
    have hq0 : (0 : Int) ≤ (q : Int) := by omega
    have hqI : (q : Int) < (n : Int) := by omega
    have HXX := Lib.hid hX
    clear hl hX
    go_wp2
    have hX := HXX.out
    clear r0 r1 r2
    have hF : Blok (((w5.setCell ⟨w.heap.size, 0, none⟩ (.int .i64 x.ua)).setCell ⟨w.heap.size, 1, none⟩ (.int .i64 x.ub)).setCell ⟨w.heap.size, 2, none⟩ (.int .i64 x.uc)) w.heap.size 53 #[.int .i64 x.ua, .int .i64 x.ub, .int .i64 x.uc] := by have h := (((hX.set_ 0 (.int .i64 x.ua)).set_ 1 (.int .i64 x.ub)).set_ 2 (.int .i64 x.uc)); simpa using h
    have hle0 : w.heap.size ≤ w.heap.size := by first | exact Nat.le_refl _ | omega
    have hWf : Below w.heap.size w (((w5.setCell ⟨w.heap.size, 0, none⟩ (.int .i64 x.ua)).setCell ⟨w.heap.size, 1, none⟩ (.int .i64 x.ub)).setCell ⟨w.heap.size, 2, none⟩ (.int .i64 x.uc)) := (((hBa.setCell (p := ⟨w.heap.size, 0, none⟩) hle0 (.int .i64 x.ua)).setCell (p := ⟨w.heap.size, 1, none⟩) hle0 (.int .i64 x.ub)).setCell (p := ⟨w.heap.size, 2, none⟩) hle0 (.int .i64 x.uc))
    have hlF := hF.lt
    generalize (((w5.setCell ⟨w.heap.size, 0, none⟩ (.int .i64 x.ua)).setCell ⟨w.heap.size, 1, none⟩ (.int .i64 x.ub)).setCell ⟨w.heap.size, 2, none⟩ (.int .i64 x.uc)) = wf at *
    have r0 : wf.cell? ⟨w.heap.size, 0, none⟩ = some (.int .i64 x.ua) := hF.cell 0
    have r1 : wf.cell? ⟨w.heap.size, 1, none⟩ = some (.int .i64 x.ub) := hF.cell 1
    have r2 : wf.cell? ⟨w.heap.size, 2, none⟩ = some (.int .i64 x.uc) := hF.cell 2
    refine bodyPost_ret (v := .agg #[.int .i64 x.ua, .int .i64 x.ub, .int .i64 x.uc]) (by simp [results, Try.results67, go_sem, r0, r1, r2, hlF]) rfl ?_
    exact ⟨rfl, hWf⟩
theorem class_any (cl : Int) (w : World) (b : Bool) (hb : inB cl 0 2 = b) :
    Calls Try.prog 66 #[.int .i64 cl] w fun e w' => e = .returned (.bool b) ∧ w = w' := by
  have HB := Lib.hid hb
  clear hb
  go_enter Try.func66, Try.ntmps66
  go_wp2_with fail
  refine (in_is b HB.out w).mono ?_
  rintro e w1 ⟨rfl, rfl⟩
  go_wp2
  go_ret
  exact ⟨rfl, rfl⟩
end Go.Proofs.Ytfdphpmcgidmiaa.Kb

/- Package ledger: Backlog, Room, Same. No condition. -/
namespace Go.Proofs.Ytfdphpmcgidmiaa.Kb
open Go.ChangeShapes Go.WideShapes Go.ChangeAt Go.RowKit Go.Sort
set_option linter.unusedSimpArgs false
set_option linter.unusedVariables false
def capAdd (t n : Int) : Int := t + min n (4611686018427387904 - t)
def okU (x : Bk) : Prop := 0 ≤ x.ua ∧ x.ua ≤ 4611686018427387904 ∧ 0 ≤ x.ub ∧ x.ub ≤ 4611686018427387904 ∧ 0 ≤ x.uc ∧ x.uc ≤ 4611686018427387904
def backF (x : Bk) (cl : Int) : Int := if cl = 0 then capAdd (capAdd (capAdd 0 x.ua) x.ub) x.uc else if cl = 1 then capAdd (capAdd 0 x.ub) x.uc else if cl = 2 then capAdd 0 x.uc else 0
theorem capAdd_ok {t n : Int} (h1 : 0 ≤ t) (h2 : t ≤ 4611686018427387904) (h3 : 0 ≤ n) : 0 ≤ capAdd t n ∧ capAdd t n ≤ 4611686018427387904 := by unfold capAdd; omega
theorem backF_ok {x : Bk} (h : okU x) (cl : Int) : 0 ≤ backF x cl ∧ backF x cl ≤ 4611686018427387904 := by
  obtain ⟨h1, h2, h3, h4, h5, h6⟩ := h
  unfold backF
  have a0 := capAdd_ok (t := 0) (n := x.ua) (by omega) (by omega) h1
  have a1 := capAdd_ok (t := 0) (n := x.ub) (by omega) (by omega) h3
  have a2 := capAdd_ok (t := 0) (n := x.uc) (by omega) (by omega) h5
  have b1 := capAdd_ok a0.1 a0.2 h3
  have b2 := capAdd_ok a1.1 a1.2 h5
  have c2 := capAdd_ok b1.1 b1.2 h5
  split
  · exact c2
  · split
    · exact b2
    · split
      · exact a2
      · omega

set_option maxHeartbeats 2000000 in
set_option maxRecDepth 100000 in
theorem backlog0 (A : Option Addr) (n c : Nat) (d : List Bk) (id : Int) (w : World) (hd : d.length = n) (hn : n ≤ 1000000) (h : Sl w w.heap.size 4 A n c (flatBk d)) (hs : SortB d) (x : Bk) (hx : rowB d id = x) (hok : okU x) (v : Int) (hv : backF x 0 = v) :
    Calls Try.prog 35 #[.slice A n c, .int .i64 id, .int .i64 0] w fun e w' => e = .returned (.int .i64 v) ∧ Below w.heap.size w w' := by
  have HU := Lib.hid (used_any A n c d id w hd hn h hs x hx)
  obtain ⟨a0, a1, b0, b1, c0, c1⟩ := hok
  obtain ⟨q1, hq1⟩ : ∃ q, min x.ua (4611686018427387904 - 0) = q := ⟨_, rfl⟩
  obtain ⟨s1, hs1⟩ : ∃ s, 0 + q1 = s := ⟨_, rfl⟩
  have r1 : 0 ≤ s1 ∧ s1 ≤ 4611686018427387904 := by omega
  have z1 : 0 ≤ q1 ∧ q1 ≤ 4611686018427387904 := by omega
  obtain ⟨q2, hq2⟩ : ∃ q, min x.ub (4611686018427387904 - s1) = q := ⟨_, rfl⟩
  obtain ⟨s2, hs2⟩ : ∃ s, s1 + q2 = s := ⟨_, rfl⟩
  have r2 : 0 ≤ s2 ∧ s2 ≤ 4611686018427387904 := by omega
  have z2 : 0 ≤ q2 ∧ q2 ≤ 4611686018427387904 := by omega
  obtain ⟨q3, hq3⟩ : ∃ q, min x.uc (4611686018427387904 - s2) = q := ⟨_, rfl⟩
  obtain ⟨s3, hs3⟩ : ∃ s, s2 + q3 = s := ⟨_, rfl⟩
  have r3 : 0 ≤ s3 ∧ s3 ≤ 4611686018427387904 := by omega
  have z3 : 0 ≤ q3 ∧ q3 ≤ 4611686018427387904 := by omega
  have hvs : v = s3 := by rw [← hv]; unfold backF capAdd; simp; omega
  obtain ⟨r1a, r1b⟩ := r1
  obtain ⟨z1a, z1b⟩ := z1
  obtain ⟨r2a, r2b⟩ := r2
  obtain ⟨z2a, z2b⟩ := z2
  obtain ⟨r3a, r3b⟩ := r3
  obtain ⟨z3a, z3b⟩ := z3
  rw [hvs]
  clear hv hvs hx hs h hd
  have HQ1 := Lib.hid hq1
  have HS1 := Lib.hid hs1
  clear hq1 hs1
  have HQ2 := Lib.hid hq2
  have HS2 := Lib.hid hs2
  clear hq2 hs2
  have HQ3 := Lib.hid hq3
  have HS3 := Lib.hid hs3
  clear hq3 hs3
  go_enter Try.func35, Try.ntmps35
  go_wp2_with fail
  refine (class_any 0 w true (by decide +kernel)).mono ?_
  rintro e w1 ⟨rfl, rfl⟩
  go_wp2_with fail
  refine HU.out.mono ?_
  rintro e w2 ⟨rfl, hB⟩
  have hX := Blok.new w2 53 #[.int .i64 x.ua, .int .i64 x.ub, .int .i64 x.uc]
  have hB3 : Below w.heap.size w (w2.alloc (.cells #[.int .i64 x.ua, .int .i64 x.ub, .int .i64 x.uc] 53)) := hB.alloc hB.size _
  go_wp2_with fail
  generalize w2.alloc (.cells #[.int .i64 x.ua, .int .i64 x.ub, .int .i64 x.uc] 53) = w3 at *
  generalize w2.heap.size = bb at *
  have x0 : w3.cell? ⟨bb, 0, none⟩ = some (.int .i64 x.ua) := hX.cell 0
  have x1 : w3.cell? ⟨bb, 1, none⟩ = some (.int .i64 x.ub) := hX.cell 1
  have x2 : w3.cell? ⟨bb, 2, none⟩ = some (.int .i64 x.uc) := hX.cell 2
  have hlt := hX.lt
  clear hX hB HU
  go_loop [8, 20] (fun tv iv => (iv = .int .i64 0 ∧ tv = .int .i64 0) ∨ (iv = .int .i64 1 ∧ tv = .int .i64 s1) ∨ (iv = .int .i64 2 ∧ tv = .int .i64 s2) ∨ (iv = .int .i64 3 ∧ tv = .int .i64 s3)) (fun _ iv => 3 - (intOf iv).toNat)
  case atStart => exact .inl ⟨rfl, rfl⟩
  case round =>
    rcases hrel with ⟨rfl, rfl⟩ | ⟨rfl, rfl⟩ | ⟨rfl, rfl⟩ | ⟨rfl, rfl⟩
    · have e1 := HQ1.out
      have e2 := HS1.out
      have HE := Lib.hid (And.intro e1 e2)
      clear e1 e2
      go_wp2
      go_round
      case rel =>
        have e1 := HE.out.1
        have e2 := HE.out.2
        exact .inr (.inl ⟨rfl, congrArg (Value.int .i64) (by first | omega | (split <;> omega))⟩)
      case measure => simp [intOf]
    · have e1 := HQ2.out
      have e2 := HS2.out
      have HE := Lib.hid (And.intro e1 e2)
      clear e1 e2
      go_wp2
      go_round
      case rel =>
        have e1 := HE.out.1
        have e2 := HE.out.2
        exact .inr (.inr (.inl ⟨rfl, congrArg (Value.int .i64) (by first | omega | (split <;> omega))⟩))
      case measure => simp [intOf]
    · have e1 := HQ3.out
      have e2 := HS3.out
      have HE := Lib.hid (And.intro e1 e2)
      clear e1 e2
      go_wp2
      go_round
      case rel =>
        have e1 := HE.out.1
        have e2 := HE.out.2
        exact .inr (.inr (.inr (⟨rfl, congrArg (Value.int .i64) (by first | omega | (split <;> omega))⟩)))
      case measure => simp [intOf]
    · go_wp2
      go_ret
      exact ⟨rfl, hB3⟩
set_option maxHeartbeats 2000000 in
set_option maxRecDepth 100000 in
theorem backlog1 (A : Option Addr) (n c : Nat) (d : List Bk) (id : Int) (w : World) (hd : d.length = n) (hn : n ≤ 1000000) (h : Sl w w.heap.size 4 A n c (flatBk d)) (hs : SortB d) (x : Bk) (hx : rowB d id = x) (hok : okU x) (v : Int) (hv : backF x 1 = v) :
    Calls Try.prog 35 #[.slice A n c, .int .i64 id, .int .i64 1] w fun e w' => e = .returned (.int .i64 v) ∧ Below w.heap.size w w' := by
  have HU := Lib.hid (used_any A n c d id w hd hn h hs x hx)
  obtain ⟨a0, a1, b0, b1, c0, c1⟩ := hok
  obtain ⟨q1, hq1⟩ : ∃ q, min x.ub (4611686018427387904 - 0) = q := ⟨_, rfl⟩
  obtain ⟨s1, hs1⟩ : ∃ s, 0 + q1 = s := ⟨_, rfl⟩
  have r1 : 0 ≤ s1 ∧ s1 ≤ 4611686018427387904 := by omega
  have z1 : 0 ≤ q1 ∧ q1 ≤ 4611686018427387904 := by omega
  obtain ⟨q2, hq2⟩ : ∃ q, min x.uc (4611686018427387904 - s1) = q := ⟨_, rfl⟩
  obtain ⟨s2, hs2⟩ : ∃ s, s1 + q2 = s := ⟨_, rfl⟩
  have r2 : 0 ≤ s2 ∧ s2 ≤ 4611686018427387904 := by omega
  have z2 : 0 ≤ q2 ∧ q2 ≤ 4611686018427387904 := by omega
  have hvs : v = s2 := by rw [← hv]; unfold backF capAdd; simp; omega
  obtain ⟨r1a, r1b⟩ := r1
  obtain ⟨z1a, z1b⟩ := z1
  obtain ⟨r2a, r2b⟩ := r2
  obtain ⟨z2a, z2b⟩ := z2
  rw [hvs]
  clear hv hvs hx hs h hd
  have HQ1 := Lib.hid hq1
  have HS1 := Lib.hid hs1
  clear hq1 hs1
  have HQ2 := Lib.hid hq2
  have HS2 := Lib.hid hs2
  clear hq2 hs2
  go_enter Try.func35, Try.ntmps35
  go_wp2_with fail
  refine (class_any 1 w true (by decide +kernel)).mono ?_
  rintro e w1 ⟨rfl, rfl⟩
  go_wp2_with fail
  refine HU.out.mono ?_
  rintro e w2 ⟨rfl, hB⟩
  have hX := Blok.new w2 53 #[.int .i64 x.ua, .int .i64 x.ub, .int .i64 x.uc]
  have hB3 : Below w.heap.size w (w2.alloc (.cells #[.int .i64 x.ua, .int .i64 x.ub, .int .i64 x.uc] 53)) := hB.alloc hB.size _
  go_wp2_with fail
  generalize w2.alloc (.cells #[.int .i64 x.ua, .int .i64 x.ub, .int .i64 x.uc] 53) = w3 at *
  generalize w2.heap.size = bb at *
  have x0 : w3.cell? ⟨bb, 0, none⟩ = some (.int .i64 x.ua) := hX.cell 0
  have x1 : w3.cell? ⟨bb, 1, none⟩ = some (.int .i64 x.ub) := hX.cell 1
  have x2 : w3.cell? ⟨bb, 2, none⟩ = some (.int .i64 x.uc) := hX.cell 2
  have hlt := hX.lt
  clear hX hB HU
  go_loop [8, 20] (fun tv iv => (iv = .int .i64 0 ∧ tv = .int .i64 0) ∨ (iv = .int .i64 1 ∧ tv = .int .i64 s1) ∨ (iv = .int .i64 2 ∧ tv = .int .i64 s2)) (fun _ iv => 2 - (intOf iv).toNat)
  case atStart => exact .inl ⟨rfl, rfl⟩
  case round =>
    rcases hrel with ⟨rfl, rfl⟩ | ⟨rfl, rfl⟩ | ⟨rfl, rfl⟩
    · have e1 := HQ1.out
      have e2 := HS1.out
      have HE := Lib.hid (And.intro e1 e2)
      clear e1 e2
      go_wp2
      go_round
      case rel =>
        have e1 := HE.out.1
        have e2 := HE.out.2
        exact .inr (.inl ⟨rfl, congrArg (Value.int .i64) (by first | omega | (split <;> omega))⟩)
      case measure => simp [intOf]
    · have e1 := HQ2.out
      have e2 := HS2.out
      have HE := Lib.hid (And.intro e1 e2)
      clear e1 e2
      go_wp2
      go_round
      case rel =>
        have e1 := HE.out.1
        have e2 := HE.out.2
        exact .inr (.inr (⟨rfl, congrArg (Value.int .i64) (by first | omega | (split <;> omega))⟩))
      case measure => simp [intOf]
    · go_wp2
      go_ret
      exact ⟨rfl, hB3⟩
set_option maxHeartbeats 2000000 in
set_option maxRecDepth 100000 in
theorem backlog2 (A : Option Addr) (n c : Nat) (d : List Bk) (id : Int) (w : World) (hd : d.length = n) (hn : n ≤ 1000000) (h : Sl w w.heap.size 4 A n c (flatBk d)) (hs : SortB d) (x : Bk) (hx : rowB d id = x) (hok : okU x) (v : Int) (hv : backF x 2 = v) :
    Calls Try.prog 35 #[.slice A n c, .int .i64 id, .int .i64 2] w fun e w' => e = .returned (.int .i64 v) ∧ Below w.heap.size w w' := by
  have HU := Lib.hid (used_any A n c d id w hd hn h hs x hx)
  obtain ⟨a0, a1, b0, b1, c0, c1⟩ := hok
  obtain ⟨q1, hq1⟩ : ∃ q, min x.uc (4611686018427387904 - 0) = q := ⟨_, rfl⟩
  obtain ⟨s1, hs1⟩ : ∃ s, 0 + q1 = s := ⟨_, rfl⟩
  have r1 : 0 ≤ s1 ∧ s1 ≤ 4611686018427387904 := by omega
  have z1 : 0 ≤ q1 ∧ q1 ≤ 4611686018427387904 := by omega
  have hvs : v = s1 := by rw [← hv]; unfold backF capAdd; simp; omega
  obtain ⟨r1a, r1b⟩ := r1
  obtain ⟨z1a, z1b⟩ := z1
  rw [hvs]
  clear hv hvs hx hs h hd
  have HQ1 := Lib.hid hq1
  have HS1 := Lib.hid hs1
  clear hq1 hs1
  go_enter Try.func35, Try.ntmps35
  go_wp2_with fail
  refine (class_any 2 w true (by decide +kernel)).mono ?_
  rintro e w1 ⟨rfl, rfl⟩
  go_wp2_with fail
  refine HU.out.mono ?_
  rintro e w2 ⟨rfl, hB⟩
  have hX := Blok.new w2 53 #[.int .i64 x.ua, .int .i64 x.ub, .int .i64 x.uc]
  have hB3 : Below w.heap.size w (w2.alloc (.cells #[.int .i64 x.ua, .int .i64 x.ub, .int .i64 x.uc] 53)) := hB.alloc hB.size _
  go_wp2_with fail
  generalize w2.alloc (.cells #[.int .i64 x.ua, .int .i64 x.ub, .int .i64 x.uc] 53) = w3 at *
  generalize w2.heap.size = bb at *
  have x0 : w3.cell? ⟨bb, 0, none⟩ = some (.int .i64 x.ua) := hX.cell 0
  have x1 : w3.cell? ⟨bb, 1, none⟩ = some (.int .i64 x.ub) := hX.cell 1
  have x2 : w3.cell? ⟨bb, 2, none⟩ = some (.int .i64 x.uc) := hX.cell 2
  have hlt := hX.lt
  clear hX hB HU
  go_loop [8, 20] (fun tv iv => (iv = .int .i64 0 ∧ tv = .int .i64 0) ∨ (iv = .int .i64 1 ∧ tv = .int .i64 s1)) (fun _ iv => 1 - (intOf iv).toNat)
  case atStart => exact .inl ⟨rfl, rfl⟩
  case round =>
    rcases hrel with ⟨rfl, rfl⟩ | ⟨rfl, rfl⟩
    · have e1 := HQ1.out
      have e2 := HS1.out
      have HE := Lib.hid (And.intro e1 e2)
      clear e1 e2
      go_wp2
      go_round
      case rel =>
        have e1 := HE.out.1
        have e2 := HE.out.2
        exact .inr (⟨rfl, congrArg (Value.int .i64) (by first | omega | (split <;> omega))⟩)
      case measure => simp [intOf]
    · go_wp2
      go_ret
      exact ⟨rfl, hB3⟩
theorem backlog_any (A : Option Addr) (n c : Nat) (d : List Bk) (id cl : Int) (w : World) (hd : d.length = n) (hn : n ≤ 1000000) (h : Sl w w.heap.size 4 A n c (flatBk d)) (hs : SortB d) (x : Bk) (hx : rowB d id = x) (hok : okU x) (v : Int) (hv : backF x cl = v) :
    Calls Try.prog 35 #[.slice A n c, .int .i64 id, .int .i64 cl] w fun e w' => e = .returned (.int .i64 v) ∧ Below w.heap.size w w' := by
  by_cases h0 : cl = 0
  · subst h0; exact backlog0 A n c d id w hd hn h hs x hx hok v hv
  · by_cases h1 : cl = 1
    · subst h1; exact backlog1 A n c d id w hd hn h hs x hx hok v hv
    · by_cases h2 : cl = 2
      · subst h2; exact backlog2 A n c d id w hd hn h hs x hx hok v hv
      · have hv0 : v = 0 := by rw [← hv]; unfold backF; rw [if_neg h0, if_neg h1, if_neg h2]
        have hb : inB cl 0 2 = false := by unfold inB; simp; omega
        have HB := Lib.hid hb
        subst hv0
        clear hv hb h0 h1 h2 hx hs h hd
        go_enter Try.func35, Try.ntmps35
        go_wp2_with fail
        refine (class_any cl w false HB.out).mono ?_
        rintro e w1 ⟨rfl, rfl⟩
        go_wp2
        go_ret
        exact ⟨rfl, Below.refl _ _⟩
end Go.Proofs.Ytfdphpmcgidmiaa.Kb

/- Package ledger: Room, Same, more. No condition. -/
namespace Go.Proofs.Ytfdphpmcgidmiaa.Kb
open Go.ChangeShapes Go.WideShapes Go.ChangeAt Go.RowKit Go.Sort
set_option linter.unusedSimpArgs false
set_option linter.unusedVariables false
structure Ct where
  id : Int
  fr : Int
  tn : Int
  st : Int
  en : Int
  rt : Int
def volC (c : Ct) : Int := volumeF c.id c.fr c.tn c.st c.en c.rt
def okC (c : Ct) : Bool := contactB c.id c.fr c.tn c.st c.en c.rt
theorem volC_ok (c : Ct) : 0 ≤ volC c ∧ volC c ≤ 4611686014132420609 := by
  unfold volC volumeF
  split
  · rename_i h
    have := volume_bounds h
    omega
  · omega
def roomF (c : Ct) (x : Bk) (cl : Int) : Int := if inB cl 0 2 = true then max 0 (volC c - backF x cl) else 0
set_option maxHeartbeats 2000000 in
set_option maxRecDepth 100000 in
theorem room_any (A : Option Addr) (n k : Nat) (d : List Bk) (c : Ct) (cl : Int) (w : World) (hd : d.length = n) (hn : n ≤ 1000000) (h : Sl w w.heap.size 4 A n k (flatBk d)) (hs : SortB d) (x : Bk) (hx : rowB d c.id = x) (hok : okU x) (v : Int) (hv : roomF c x cl = v) :
    Calls Try.prog 36 #[.slice A n k, .agg #[.int .i64 c.id, .int .i64 c.fr, .int .i64 c.tn, .int .i64 c.st, .int .i64 c.en, .int .i64 c.rt], .int .i64 cl] w fun e w' => e = .returned (.int .i64 v) ∧ Below w.heap.size w w' := by
  have hBa : Below w.heap.size w (w.alloc (.cells #[.int .i64 c.id, .int .i64 c.fr, .int .i64 c.tn, .int .i64 c.st, .int .i64 c.en, .int .i64 c.rt] 28)) := by (repeat (first | exact Below.refl _ _ | refine Below.alloc ?_ (by first | omega | (simp; done) | (simp; omega)) _ | refine Below.setCell ?_ (by first | omega | (simp; done) | (simp; omega)) _ | refine Below.drew ?_))
  have hX := Blok.new w 28 #[.int .i64 c.id, .int .i64 c.fr, .int .i64 c.tn, .int .i64 c.st, .int .i64 c.en, .int .i64 c.rt]
  have hl := h.up hBa
  obtain ⟨b, hb⟩ : ∃ b, inB cl 0 2 = b := ⟨_, rfl⟩
  have HC := Lib.hid hb
  cases b with
  | false =>
    have hv0 : v = 0 := by rw [← hv]; unfold roomF; rw [if_neg (by rw [hb]; simp)]
    subst hv0
    clear hv hb hl hX h hs hx
    go_enter Try.func36, Try.ntmps36
    go_wp2_with fail
    refine (class_any cl _ false HC.out).mono ?_
    rintro e w1 ⟨rfl, rfl⟩
    go_wp2
    go_ret
    exact ⟨rfl, hBa⟩
  | true =>
    obtain ⟨p, hp⟩ : ∃ p, volC c = p := ⟨_, rfl⟩
    obtain ⟨q, hq⟩ : ∃ q, backF x cl = q := ⟨_, rfl⟩
    have hp1 := volC_ok c
    have hq1 := backF_ok hok cl
    rw [hp] at hp1
    rw [hq] at hq1
    have hvm : v = max 0 (p - q) := by rw [← hv]; unfold roomF; rw [if_pos hb, hp, hq]
    obtain ⟨p1, p2⟩ := hp1
    obtain ⟨q1, q2⟩ := hq1
    have hvol : volumeF c.id c.fr c.tn c.st c.en c.rt = p := hp
    have HP := Lib.hid hvol
    clear hvol
    have HVM := Lib.hid hvm
    have ht : ∀ w', Below (w.alloc (.cells #[.int .i64 c.id, .int .i64 c.fr, .int .i64 c.tn, .int .i64 c.st, .int .i64 c.en, .int .i64 c.rt] 28)).heap.size (w.alloc (.cells #[.int .i64 c.id, .int .i64 c.fr, .int .i64 c.tn, .int .i64 c.st, .int .i64 c.en, .int .i64 c.rt] 28)) w' → Calls Try.prog 35 #[.slice A n k, .int .i64 c.id, .int .i64 cl] w' fun e w'' => e = .returned (.int .i64 q) ∧ Below w'.heap.size w' w'' :=
      fun w' hb' => backlog_any A n k d c.id cl w' hd hn (hl.up hb') hs x hx hok q hq
    have HT := Lib.hid ht
    clear hv hb hl h hs hx hp hq hvm ht hd
    go_enter Try.func36, Try.ntmps36
    go_wp2_with fail
    generalize w.alloc (.cells #[.int .i64 c.id, .int .i64 c.fr, .int .i64 c.tn, .int .i64 c.st, .int .i64 c.en, .int .i64 c.rt] 28) = w2 at *
    refine (class_any cl _ true HC.out).mono ?_
    rintro e w3 ⟨rfl, rfl⟩
    have hs2 := hBa.size
    have c0 : w2.cell? ⟨w.heap.size, 0, none⟩ = some (.int .i64 c.id) := hX.cell 0
    have c1 : w2.cell? ⟨w.heap.size, 1, none⟩ = some (.int .i64 c.fr) := hX.cell 1
    have c2 : w2.cell? ⟨w.heap.size, 2, none⟩ = some (.int .i64 c.tn) := hX.cell 2
    have c3 : w2.cell? ⟨w.heap.size, 3, none⟩ = some (.int .i64 c.st) := hX.cell 3
    have c4 : w2.cell? ⟨w.heap.size, 4, none⟩ = some (.int .i64 c.en) := hX.cell 4
    have c5 : w2.cell? ⟨w.heap.size, 5, none⟩ = some (.int .i64 c.rt) := hX.cell 5
    have hlt := hX.lt
    clear hX
    go_wp2_with fail
    have q_c0 := fun d os => cell_regrown c0 d os
    have q_c1 := fun d os => cell_regrown c1 d os
    have q_c2 := fun d os => cell_regrown c2 d os
    have q_c3 := fun d os => cell_regrown c3 d os
    have q_c4 := fun d os => cell_regrown c4 d os
    have q_c5 := fun d os => cell_regrown c5 d os
    try simp only [List.append]
    first | refine wp_region_text_below ?_ | refine wp_region_quiet_below (by kernel_rfl) (by kernel_rfl) ?_
    repeat (go_big_quiet_step ((first | (go_at_call 29; with_reducible exact Calls.regrown_of (volume_is p HP.out _)) | (go_at_call 35; with_reducible exact Calls.regrown_of (HT.out _ (below_regrown _ _ _))))))
    refine wpQuiet_nil ?_
    intro _ hqw
    obtain ⟨pq, hqw⟩ := hqw
    subst hqw
    clear q_c0 q_c1 q_c2 q_c3 q_c4 q_c5
    have hB2 := hBa.trans ((below_regrown w2 pq.d pq.os).mono hs2)
    clear c0 c1 c2 c3 c4 c5 hBa HT
    generalize grow (redrawn w2 pq.d) pq.os = wq at *
    go_wp2
    all_goals go_ret
    all_goals exact ⟨congrArg (fun t => Ending.returned (.int .i64 t)) (by have := HVM.out; omega), hB2⟩
def bump (x : Bk) (cl sz : Int) : Bk := if cl = 0 then ⟨x.id, x.ua + sz, x.ub, x.uc⟩ else if cl = 1 then ⟨x.id, x.ua, x.ub + sz, x.uc⟩ else ⟨x.id, x.ua, x.ub, x.uc + sz⟩
def zeroU (y : Bk) : Bool := decide (y.ua = 0 ∧ y.ub = 0 ∧ y.uc = 0)
/-- The ledger with that row in its place, or without it, if it is of nothing. -/
def moreB (d : List Bk) (id : Int) (y : Bk) : List Bk := d.take (pl d id) ++ (if zeroU y = true then [] else [y]) ++ d.drop (pl d id + if hit d id = true then 1 else 0)
theorem rowB_id {d : List Bk} {id : Int} (hs : SortB d) : (rowB d id).id = id := by
  unfold rowB
  split
  · rename_i h
    exact (hit_at hs h).2
  · rfl
end Go.Proofs.Ytfdphpmcgidmiaa.Kb

/- Package ledger: Book, Release. No condition. -/
namespace Go.Proofs.Ytfdphpmcgidmiaa.Kb
open Go.ChangeShapes Go.WideShapes Go.ChangeAt Go.RowKit Go.Sort
set_option linter.unusedSimpArgs false
set_option linter.unusedVariables false
def getU (x : Bk) (cl : Int) : Int := if cl = 0 then x.ua else if cl = 1 then x.ub else x.uc
set_option maxRecDepth 100000 in
theorem index3 (a b c : Int) (k : Nat) (hk : k < 3) (w : World) : (Instr.index 53 (.agg #[.int .i64 a, .int .i64 b, .int .i64 c]) (.int .i64 k)).run Try.prog w = .ok (if k = 0 then .int .i64 a else if k = 1 then .int .i64 b else .int .i64 c) w := by
  have u3 := Try.underlying53
  have z3 := Try.sizeOf3
  have a3 := Try.isAgg3
  rcases (by omega : k = 0 ∨ k = 1 ∨ k = 2) with rfl | rfl | rfl
  all_goals
    unfold Instr.index
    go_simp
theorem index3_0 (a b c : Int) (w : World) : (Instr.index 53 (.agg #[.int .i64 a, .int .i64 b, .int .i64 c]) (.int .i64 0)).run Try.prog w = .ok (.int .i64 a) w := index3 a b c 0 (by decide) w
theorem index3_1 (a b c : Int) (w : World) : (Instr.index 53 (.agg #[.int .i64 a, .int .i64 b, .int .i64 c]) (.int .i64 1)).run Try.prog w = .ok (.int .i64 b) w := index3 a b c 1 (by decide) w
theorem index3_2 (a b c : Int) (w : World) : (Instr.index 53 (.agg #[.int .i64 a, .int .i64 b, .int .i64 c]) (.int .i64 2)).run Try.prog w = .ok (.int .i64 c) w := index3 a b c 2 (by decide) w
theorem class_cases {cl : Int} (h : inB cl 0 2 = true) : cl = 0 ∨ cl = 1 ∨ cl = 2 := by
  unfold inB at h
  simp at h
  omega
def bookB (d : List Bk) (c : Ct) (cl sz : Int) : Bool := okC c && (inB cl 0 2 && inB sz 0 (roomF c (rowB d c.id) cl))
theorem capAdd_ge {t n : Int} (h1 : 0 ≤ t) (h2 : t ≤ 4611686018427387904) (h3 : 0 ≤ n) (h4 : n ≤ 4611686018427387904) : t ≤ capAdd t n ∧ n ≤ capAdd t n := by unfold capAdd; omega
theorem back_ge {x : Bk} (h : okU x) {cl : Int} (hc : inB cl 0 2 = true) : getU x cl ≤ backF x cl := by
  obtain ⟨h1, h2, h3, h4, h5, h6⟩ := h
  have a0 := capAdd_ok (t := 0) (n := x.ua) (by omega) (by omega) h1
  have a1 := capAdd_ok (t := 0) (n := x.ub) (by omega) (by omega) h3
  have b1 := capAdd_ok a0.1 a0.2 h3
  have g0 := capAdd_ge (t := 0) (n := x.ua) (by omega) (by omega) h1 h2
  have g1 := capAdd_ge (t := 0) (n := x.ub) (by omega) (by omega) h3 h4
  have g2 := capAdd_ge (t := 0) (n := x.uc) (by omega) (by omega) h5 h6
  have g3 := capAdd_ge a0.1 a0.2 h3 h4
  have g4 := capAdd_ge b1.1 b1.2 h5 h6
  have g5 := capAdd_ge a1.1 a1.2 h5 h6
  rcases class_cases hc with rfl | rfl | rfl
  · simp only [getU, backF, if_true]; omega
  · simp [getU, backF]; omega
  · simp [getU, backF]; omega
theorem getU_ok {x : Bk} (h : okU x) (cl : Int) : 0 ≤ getU x cl ∧ getU x cl ≤ 4611686018427387904 := by
  obtain ⟨h1, h2, h3, h4, h5, h6⟩ := h
  unfold getU
  split
  · omega
  · split <;> omega
def relB (d : List Bk) (id cl sz : Int) : Bool := inB cl 0 2 && inB sz 0 (getU (rowB d id) cl)
end Go.Proofs.Ytfdphpmcgidmiaa.Kb

/- Package ledger: Right. No condition. -/
namespace Go.Proofs.Ytfdphpmcgidmiaa.Kb
open Go.ChangeShapes Go.WideShapes Go.ChangeAt Go.RowKit Go.Sort
set_option linter.unusedSimpArgs false
set_option linter.unusedVariables false
def inM (v : Int) : Bool := inB v 0 4611686018427387904
def stepR (d : List Bk) (i : Nat) : Bool := inB (gBk d i).id 1 1048576 && ((i == 0 || decide ((gBk d (i - 1)).id < (gBk d i).id)) && (!zeroU (gBk d i) && (inM (gBk d i).ua && (inM (gBk d i).ub && inM (gBk d i).uc))))
def rightB (d : List Bk) : Bool := (List.range d.length).all (stepR d)
theorem rightB_true {d : List Bk} : rightB d = true ↔ ∀ i, i < d.length → stepR d i = true := by
  simp [rightB, List.all_eq_true]
theorem rightB_false {d : List Bk} {i : Nat} (hi : i < d.length) (h : stepR d i = false) : rightB d = false := by
  rw [Bool.eq_false_iff]
  intro e
  rw [rightB_true.1 e i hi] at h
  cases h
set_option maxHeartbeats 4000000 in
set_option maxRecDepth 100000 in
theorem right_any (A : Option Addr) (n c : Nat) (d : List Bk) (w : World) (hd : d.length = n) (hn : n ≤ 1000000) (h : Sl w w.heap.size 4 A n c (flatBk d)) :
    Calls Try.prog 25 #[.slice A n c] w fun e w' => e = .returned (.bool (rightB d)) ∧ Below w.heap.size w w' := by
  have HD := Lib.hid hd
  have h0 := h
  clear hd h
  go_enter Try.func25, Try.ntmps25
  go_wp2
  go_loopw [9] (fun i wr => ∃ k : Nat, k ≤ n ∧ i = .int .i64 k ∧ Hid (∀ j, j < k → stepR d j = true) ∧ Below w.heap.size w wr ∧ Hid (Sl wr w.heap.size 4 A n c (flatBk d))) (fun i _ => n - (intOf i).toNat)
  case atStart => exact ⟨0, by omega, rfl, (fun j hj => by omega), Below.refl _ _, h0⟩
  case round =>
    clear h0
    obtain ⟨k, hk, rfl, HQ, hB, HL⟩ := hrel
    by_cases hkn : k < n
    · obtain ⟨ad, rfl, hab, c0, c1, c2, c3⟩ := HL.out.lst.atBk HD.out hkn
      have hsw := hB.size
      obtain ⟨x, hx⟩ : ∃ x, gBk d k = x := ⟨_, rfl⟩
      rw [hx] at c0 c1 c2 c3
      have HX := Lib.hid hx
      clear hx
      have hBa : Below wr.heap.size wr (wr.alloc (.cells #[.int .i64 x.id, .int .i64 x.ua, .int .i64 x.ub, .int .i64 x.uc] 55)) := by (repeat (first | exact Below.refl _ _ | refine Below.alloc ?_ (by first | omega | (simp; done) | (simp; omega)) _ | refine Below.setCell ?_ (by first | omega | (simp; done) | (simp; omega)) _ | refine Below.drew ?_))
      have hX := Blok.new wr 55 #[.int .i64 x.id, .int .i64 x.ua, .int .i64 x.ub, .int .i64 x.uc]
      have hB2 := hB.trans (hBa.mono hB.size)
      have hL2 := HL.out.below (hBa.mono hB.size)
      go_wp2_with fail
      clear c0 c1 c2 c3 hB HL hBa
      generalize wr.alloc (.cells #[.int .i64 x.id, .int .i64 x.ua, .int .i64 x.ub, .int .i64 x.uc] 55) = w3 at *
      generalize wr.heap.size = bb at *
      have hs3 := hB2.size
      have hbl := hX.lt
      have habw : ad.block < w3.heap.size := by omega
      obtain ⟨p, hp⟩ : ∃ p, inB x.id 1 1048576 = p := ⟨_, rfl⟩
      obtain ⟨z, hz⟩ : ∃ z, zeroU x = z := ⟨_, rfl⟩
      obtain ⟨qa, hqa⟩ : ∃ b, inM x.ua = b := ⟨_, rfl⟩
      obtain ⟨qb, hqb⟩ : ∃ b, inM x.ub = b := ⟨_, rfl⟩
      obtain ⟨qc, hqc⟩ : ∃ b, inM x.uc = b := ⟨_, rfl⟩
      have hst : stepR d k = (p && ((k == 0 || decide ((gBk d (k - 1)).id < x.id)) && (!z && (qa && (qb && qc))))) := by unfold stepR; rw [HX.out, hp, hz, hqa, hqb, hqc]
      have HP := Lib.hid hp
      have HZ := Lib.hid hz
      have hqa' : inB x.ua 0 4611686018427387904 = qa := hqa
      have hqb' : inB x.ub 0 4611686018427387904 = qb := hqb
      have hqc' : inB x.uc 0 4611686018427387904 = qc := hqc
      have HA := Lib.hid hqa'
      have HBb := Lib.hid hqb'
      have HC := Lib.hid hqc'
      have HST := Lib.hid hst
      have hzz := hz
      unfold zeroU at hzz
      have hrun := eql3 x.ua x.ub x.uc 0 0 0
      rw [hzz] at hrun
      clear hp hz hqa hqb hqc hqa' hqb' hqc' hst hzz
      have x0 : w3.cell? ⟨bb, 0, none⟩ = some (.int .i64 x.id) := hX.cell 0
      have x1 : w3.cell? ⟨bb, 1, none⟩ = some (.int .i64 x.ua) := hX.cell 1
      have x2 : w3.cell? ⟨bb, 2, none⟩ = some (.int .i64 x.ub) := hX.cell 2
      have x3 : w3.cell? ⟨bb, 3, none⟩ = some (.int .i64 x.uc) := hX.cell 3

      cases p with
      | false =>
        have hf : rightB d = false := rightB_false (i := k) (by have := HD.out; omega) (by rw [HST.out]; rfl)
        have HF := Lib.hid hf
        clear hf
        have HL2 := Lib.hid hL2
        clear hL2
        clear hX
        have q_x0 := fun d os => cell_regrown x0 d os
        have q_x1 := fun d os => cell_regrown x1 d os
        have q_x2 := fun d os => cell_regrown x2 d os
        have q_x3 := fun d os => cell_regrown x3 d os
        try simp only [List.append]
        first | refine wp_region_text_below ?_ | refine wp_region_quiet_below (by kernel_rfl) (by kernel_rfl) ?_
        repeat (go_big_quiet_step (((go_at_call 48; with_reducible exact Calls.regrown_same (in_is false HP.out _)))))
        refine wpQuiet_nil ?_
        intro _ hqw
        obtain ⟨pq, hqw⟩ := hqw
        subst hqw
        clear q_x0 q_x1 q_x2 q_x3
        have hbel := below_regrown w3 pq.d pq.os
        replace hB2 := hB2.trans (hbel.mono hs3)
        replace HL2 := Lib.hid (HL2.out.below (hbel.mono hs3))
        clear hbel x0 x1 x2 x3
        generalize grow (redrawn w3 pq.d) pq.os = wq at *
        go_wp2
        go_ret
        exact ⟨by rw [HF.out]; rfl, hB2⟩
      | true =>
        have hcase : k = 0 ∨ ∃ p, k = p + 1 := by cases k with | zero => exact .inl rfl | succ p => exact .inr ⟨p, rfl⟩
        rcases hcase with rfl | ⟨p, rfl⟩
        · have hd0 : decide (((0 : Nat) : Int) > 0) = false := by simp
          cases z with
          | true =>
            have hf : rightB d = false := rightB_false (i := 0) (by have := HD.out; omega) (by rw [HST.out]; simp)
            have HF := Lib.hid hf
            clear hf
            have HL2 := Lib.hid hL2
            clear hL2
            clear hX
            have q_x0 := fun d os => cell_regrown x0 d os
            have q_x1 := fun d os => cell_regrown x1 d os
            have q_x2 := fun d os => cell_regrown x2 d os
            have q_x3 := fun d os => cell_regrown x3 d os
            try simp only [List.append]
            first | refine wp_region_text_below ?_ | refine wp_region_quiet_below (by kernel_rfl) (by kernel_rfl) ?_
            repeat (go_big_quiet_step (((go_at_call 48; with_reducible exact Calls.regrown_same (in_is true HP.out _)))))
            refine wpQuiet_nil ?_
            intro _ hqw
            obtain ⟨pq, hqw⟩ := hqw
            subst hqw
            clear q_x0 q_x1 q_x2 q_x3
            have hbel := below_regrown w3 pq.d pq.os
            replace hB2 := hB2.trans (hbel.mono hs3)
            replace HL2 := Lib.hid (HL2.out.below (hbel.mono hs3))
            clear hbel x0 x1 x2 x3
            generalize grow (redrawn w3 pq.d) pq.os = wq at *
            go_wp2
            go_ret
            exact ⟨by rw [HF.out]; rfl, hB2⟩
          | false =>
            replace HST : Hid (stepR d 0 = (qa && (qb && qc))) := Lib.hid (by rw [HST.out]; simp)
            have HL2 := Lib.hid hL2
            clear hL2
            have q_x0 := fun d os => cell_regrown x0 d os
            have q_x1 := fun d os => cell_regrown x1 d os
            have q_x2 := fun d os => cell_regrown x2 d os
            have q_x3 := fun d os => cell_regrown x3 d os
            try simp only [List.append]
            first | refine wp_region_text_below ?_ | refine wp_region_quiet_below (by kernel_rfl) (by kernel_rfl) ?_
            repeat (go_big_quiet_step (((go_at_call 48; with_reducible exact Calls.regrown_same (in_is true HP.out _)))))
            refine wpQuiet_nil ?_
            intro _ hqw
            obtain ⟨pq, hqw⟩ := hqw
            subst hqw
            clear q_x0 q_x1 q_x2 q_x3
            have hbel := below_regrown w3 pq.d pq.os
            replace hB2 := hB2.trans (hbel.mono hs3)
            replace HL2 := Lib.hid (HL2.out.below (hbel.mono hs3))
            replace hX := hX.below hbel hbl
            clear hbel x0 x1 x2 x3
            generalize grow (redrawn w3 pq.d) pq.os = wq at *
            have x0 : wq.cell? ⟨bb, 0, none⟩ = some (.int .i64 x.id) := hX.cell 0
            have x1 : wq.cell? ⟨bb, 1, none⟩ = some (.int .i64 x.ua) := hX.cell 1
            have x2 : wq.cell? ⟨bb, 2, none⟩ = some (.int .i64 x.ub) := hX.cell 2
            have x3 : wq.cell? ⟨bb, 3, none⟩ = some (.int .i64 x.uc) := hX.cell 3
            have hbl2 := hX.lt
            go_wp2
            clear x0 x1 x2 x3
            try simp only [Int.natCast_add, Int.natCast_zero, Int.natCast_one, Nat.zero_mul, Addr.add_zero']
            go_loop [41] (fun iv => iv = .int .i64 0 ∨ (iv = .int .i64 1 ∧ Hid (qa = true)) ∨ (iv = .int .i64 2 ∧ Hid (qa = true) ∧ Hid (qb = true)) ∨ (iv = .int .i64 3 ∧ Hid (qa = true) ∧ Hid (qb = true) ∧ Hid (qc = true))) (fun iv => 3 - (intOf iv).toNat)
            case atStart => exact .inl rfl
            case round =>
              rcases hrel with rfl | ⟨rfl, h1⟩ | ⟨rfl, h1, h2⟩ | ⟨rfl, h1, h2, h3⟩
              · go_wp2_with fail
                rw [index3_0]
                go_wp2_with fail
                cases qa with
                | false =>
                  have hf : rightB d = false := rightB_false (i := 0) (by have := HD.out; omega) (by rw [HST.out]; simp)
                  have HF := Lib.hid hf
                  clear hf
                  refine (in_is false HA.out _).mono ?_
                  rintro e w7 ⟨rfl, rfl⟩
                  go_wp2
                  go_ret
                  exact ⟨by rw [HF.out]; rfl, hB2⟩
                | true =>
                  refine (in_is true HA.out _).mono ?_
                  rintro e w7 ⟨rfl, rfl⟩
                  go_wp2
                  go_round
                  case rel => exact .inr (.inl ⟨rfl, trivial⟩)
                  case measure => simp [intOf]
              · go_wp2_with fail
                rw [index3_1]
                go_wp2_with fail
                cases qb with
                | false =>
                  have hf : rightB d = false := rightB_false (i := 0) (by have := HD.out; omega) (by rw [HST.out]; simp)
                  have HF := Lib.hid hf
                  clear hf
                  refine (in_is false HBb.out _).mono ?_
                  rintro e w7 ⟨rfl, rfl⟩
                  go_wp2
                  go_ret
                  exact ⟨by rw [HF.out]; rfl, hB2⟩
                | true =>
                  refine (in_is true HBb.out _).mono ?_
                  rintro e w7 ⟨rfl, rfl⟩
                  go_wp2
                  go_round
                  case rel => exact .inr (.inr (.inl ⟨rfl, h1, trivial⟩))
                  case measure => simp [intOf]
              · go_wp2_with fail
                rw [index3_2]
                go_wp2_with fail
                cases qc with
                | false =>
                  have hf : rightB d = false := rightB_false (i := 0) (by have := HD.out; omega) (by rw [HST.out]; simp)
                  have HF := Lib.hid hf
                  clear hf
                  refine (in_is false HC.out _).mono ?_
                  rintro e w7 ⟨rfl, rfl⟩
                  go_wp2
                  go_ret
                  exact ⟨by rw [HF.out]; rfl, hB2⟩
                | true =>
                  refine (in_is true HC.out _).mono ?_
                  rintro e w7 ⟨rfl, rfl⟩
                  go_wp2
                  go_round
                  case rel => exact .inr (.inr (.inr ⟨rfl, h1, h2, trivial⟩))
                  case measure => simp [intOf]
              · have hN : ∀ j, j < 0 + 1 → stepR d j = true := fun j hj => by
                  by_cases e : j = 0
                  · rw [e, HST.out, h1.out, h2.out, h3.out]; rfl
                  · exact HQ.out j (by omega)
                have HN := Lib.hid hN
                clear hN
                go_wp2
                go_roundw
                case rel => exact ⟨0 + 1, by omega, by go_num, HN.out, hB2, HL2.out⟩
                case measure => simp [intOf]; omega
        · have hd0 : decide (((p + 1 : Nat) : Int) > 0) = true := decide_eq_true (by omega)
          obtain ⟨ad', hae, hab', z0, z1, z2, z3⟩ := hL2.lst.atBk HD.out (k := p) (by omega)
          injection hae with hae
          subst hae
          obtain ⟨y, hy⟩ : ∃ y, gBk d p = y := ⟨_, rfl⟩
          rw [hy] at z0 z1 z2 z3
          have hst2 : stepR d (p + 1) = (decide (y.id < x.id) && (!z && (qa && (qb && qc)))) := by rw [HST.out, Nat.add_sub_cancel, hy]; simp
          replace HST := Lib.hid hst2
          clear hst2 hy
          by_cases hlt : y.id < x.id
          · have hdy : decide (x.id ≤ y.id) = false := by simp; omega
            replace HST : Hid (stepR d (p + 1) = (!z && (qa && (qb && qc)))) := Lib.hid (by rw [HST.out, decide_eq_true hlt]; simp)
            clear hlt
            cases z with
            | true =>
              have hf : rightB d = false := rightB_false (i := p + 1) (by have := HD.out; omega) (by rw [HST.out]; simp)
              have HF := Lib.hid hf
              clear hf
              have HL2 := Lib.hid hL2
              clear hL2
              clear hX
              have q_x0 := fun d os => cell_regrown x0 d os
              have q_x1 := fun d os => cell_regrown x1 d os
              have q_x2 := fun d os => cell_regrown x2 d os
              have q_x3 := fun d os => cell_regrown x3 d os
              have q_z0 := fun d os => cell_regrown z0 d os
              have q_z1 := fun d os => cell_regrown z1 d os
              have q_z2 := fun d os => cell_regrown z2 d os
              have q_z3 := fun d os => cell_regrown z3 d os
              try simp only [List.append]
              first | refine wp_region_text_below ?_ | refine wp_region_quiet_below (by kernel_rfl) (by kernel_rfl) ?_
              repeat (go_big_quiet_step (((go_at_call 48; with_reducible exact Calls.regrown_same (in_is true HP.out _)))))
              refine wpQuiet_nil ?_
              intro _ hqw
              obtain ⟨pq, hqw⟩ := hqw
              subst hqw
              clear q_x0 q_x1 q_x2 q_x3 q_z0 q_z1 q_z2 q_z3
              have hbel := below_regrown w3 pq.d pq.os
              replace hB2 := hB2.trans (hbel.mono hs3)
              replace HL2 := Lib.hid (HL2.out.below (hbel.mono hs3))
              clear hbel x0 x1 x2 x3 z0 z1 z2 z3
              generalize grow (redrawn w3 pq.d) pq.os = wq at *
              go_wp2
              go_ret
              exact ⟨by rw [HF.out]; rfl, hB2⟩
            | false =>
              replace HST : Hid (stepR d (p + 1) = (qa && (qb && qc))) := Lib.hid (by rw [HST.out]; simp)
              have HL2 := Lib.hid hL2
              clear hL2
              have q_x0 := fun d os => cell_regrown x0 d os
              have q_x1 := fun d os => cell_regrown x1 d os
              have q_x2 := fun d os => cell_regrown x2 d os
              have q_x3 := fun d os => cell_regrown x3 d os
              have q_z0 := fun d os => cell_regrown z0 d os
              have q_z1 := fun d os => cell_regrown z1 d os
              have q_z2 := fun d os => cell_regrown z2 d os
              have q_z3 := fun d os => cell_regrown z3 d os
              try simp only [List.append]
              first | refine wp_region_text_below ?_ | refine wp_region_quiet_below (by kernel_rfl) (by kernel_rfl) ?_
              repeat (go_big_quiet_step (((go_at_call 48; with_reducible exact Calls.regrown_same (in_is true HP.out _)))))
              refine wpQuiet_nil ?_
              intro _ hqw
              obtain ⟨pq, hqw⟩ := hqw
              subst hqw
              clear q_x0 q_x1 q_x2 q_x3 q_z0 q_z1 q_z2 q_z3
              have hbel := below_regrown w3 pq.d pq.os
              replace hB2 := hB2.trans (hbel.mono hs3)
              replace HL2 := Lib.hid (HL2.out.below (hbel.mono hs3))
              replace hX := hX.below hbel hbl
              clear hbel x0 x1 x2 x3 z0 z1 z2 z3
              generalize grow (redrawn w3 pq.d) pq.os = wq at *
              have x0 : wq.cell? ⟨bb, 0, none⟩ = some (.int .i64 x.id) := hX.cell 0
              have x1 : wq.cell? ⟨bb, 1, none⟩ = some (.int .i64 x.ua) := hX.cell 1
              have x2 : wq.cell? ⟨bb, 2, none⟩ = some (.int .i64 x.ub) := hX.cell 2
              have x3 : wq.cell? ⟨bb, 3, none⟩ = some (.int .i64 x.uc) := hX.cell 3
              have hbl2 := hX.lt
              go_wp2
              clear x0 x1 x2 x3
              try simp only [Int.natCast_add, Int.natCast_zero, Int.natCast_one, Nat.zero_mul, Addr.add_zero']
              go_loop [41] (fun iv => iv = .int .i64 0 ∨ (iv = .int .i64 1 ∧ Hid (qa = true)) ∨ (iv = .int .i64 2 ∧ Hid (qa = true) ∧ Hid (qb = true)) ∨ (iv = .int .i64 3 ∧ Hid (qa = true) ∧ Hid (qb = true) ∧ Hid (qc = true))) (fun iv => 3 - (intOf iv).toNat)
              case atStart => exact .inl rfl
              case round =>
                rcases hrel with rfl | ⟨rfl, h1⟩ | ⟨rfl, h1, h2⟩ | ⟨rfl, h1, h2, h3⟩
                · go_wp2_with fail
                  rw [index3_0]
                  go_wp2_with fail
                  cases qa with
                  | false =>
                    have hf : rightB d = false := rightB_false (i := p + 1) (by have := HD.out; omega) (by rw [HST.out]; simp)
                    have HF := Lib.hid hf
                    clear hf
                    refine (in_is false HA.out _).mono ?_
                    rintro e w7 ⟨rfl, rfl⟩
                    go_wp2
                    go_ret
                    exact ⟨by rw [HF.out]; rfl, hB2⟩
                  | true =>
                    refine (in_is true HA.out _).mono ?_
                    rintro e w7 ⟨rfl, rfl⟩
                    go_wp2
                    go_round
                    case rel => exact .inr (.inl ⟨rfl, trivial⟩)
                    case measure => simp [intOf]
                · go_wp2_with fail
                  rw [index3_1]
                  go_wp2_with fail
                  cases qb with
                  | false =>
                    have hf : rightB d = false := rightB_false (i := p + 1) (by have := HD.out; omega) (by rw [HST.out]; simp)
                    have HF := Lib.hid hf
                    clear hf
                    refine (in_is false HBb.out _).mono ?_
                    rintro e w7 ⟨rfl, rfl⟩
                    go_wp2
                    go_ret
                    exact ⟨by rw [HF.out]; rfl, hB2⟩
                  | true =>
                    refine (in_is true HBb.out _).mono ?_
                    rintro e w7 ⟨rfl, rfl⟩
                    go_wp2
                    go_round
                    case rel => exact .inr (.inr (.inl ⟨rfl, h1, trivial⟩))
                    case measure => simp [intOf]
                · go_wp2_with fail
                  rw [index3_2]
                  go_wp2_with fail
                  cases qc with
                  | false =>
                    have hf : rightB d = false := rightB_false (i := p + 1) (by have := HD.out; omega) (by rw [HST.out]; simp)
                    have HF := Lib.hid hf
                    clear hf
                    refine (in_is false HC.out _).mono ?_
                    rintro e w7 ⟨rfl, rfl⟩
                    go_wp2
                    go_ret
                    exact ⟨by rw [HF.out]; rfl, hB2⟩
                  | true =>
                    refine (in_is true HC.out _).mono ?_
                    rintro e w7 ⟨rfl, rfl⟩
                    go_wp2
                    go_round
                    case rel => exact .inr (.inr (.inr ⟨rfl, h1, h2, trivial⟩))
                    case measure => simp [intOf]
                · have hN : ∀ j, j < p + 1 + 1 → stepR d j = true := fun j hj => by
                    by_cases e : j = p + 1
                    · rw [e, HST.out, h1.out, h2.out, h3.out]; rfl
                    · exact HQ.out j (by omega)
                  have HN := Lib.hid hN
                  clear hN
                  go_wp2
                  go_roundw
                  case rel => exact ⟨p + 1 + 1, by omega, by go_num, HN.out, hB2, HL2.out⟩
                  case measure => simp [intOf]; omega
          · have hdy : decide (x.id ≤ y.id) = true := by simp; omega
            have hf : rightB d = false := rightB_false (i := p + 1) (by have := HD.out; omega) (by rw [HST.out]; simp [hlt])
            have HF := Lib.hid hf
            clear hf
            have HL2 := Lib.hid hL2
            clear hL2
            clear hX
            have q_x0 := fun d os => cell_regrown x0 d os
            have q_x1 := fun d os => cell_regrown x1 d os
            have q_x2 := fun d os => cell_regrown x2 d os
            have q_x3 := fun d os => cell_regrown x3 d os
            have q_z0 := fun d os => cell_regrown z0 d os
            have q_z1 := fun d os => cell_regrown z1 d os
            have q_z2 := fun d os => cell_regrown z2 d os
            have q_z3 := fun d os => cell_regrown z3 d os
            try simp only [List.append]
            first | refine wp_region_text_below ?_ | refine wp_region_quiet_below (by kernel_rfl) (by kernel_rfl) ?_
            repeat (go_big_quiet_step (((go_at_call 48; with_reducible exact Calls.regrown_same (in_is true HP.out _)))))
            refine wpQuiet_nil ?_
            intro _ hqw
            obtain ⟨pq, hqw⟩ := hqw
            subst hqw
            clear q_x0 q_x1 q_x2 q_x3 q_z0 q_z1 q_z2 q_z3
            have hbel := below_regrown w3 pq.d pq.os
            replace hB2 := hB2.trans (hbel.mono hs3)
            replace HL2 := Lib.hid (HL2.out.below (hbel.mono hs3))
            clear hbel x0 x1 x2 x3 z0 z1 z2 z3
            generalize grow (redrawn w3 pq.d) pq.os = wq at *
            go_wp2
            go_ret
            exact ⟨by rw [HF.out]; rfl, hB2⟩
    · obtain rfl : k = n := by omega
      have hr : rightB d = true := rightB_true.2 (fun i hi => HQ.out i (by have := HD.out; omega))
      have HR := Lib.hid hr
      clear hr
      go_wp2
      go_ret
      exact ⟨by rw [HR.out]; rfl, hB⟩
end Go.Proofs.Ytfdphpmcgidmiaa.Kb

/- Package ledger: Drop. No condition. -/
namespace Go.Proofs.Ytfdphpmcgidmiaa.Kb
open Go.ChangeShapes Go.WideShapes Go.ChangeAt Go.RowKit Go.Sort
set_option linter.unusedSimpArgs false
set_option linter.unusedVariables false
theorem run_makeMap_hint {P : Program} (t k e : TypeId) (kd : IntKind) (n : Int) (ht : P.underlying t = some (.map k e)) (w : World) :
    (Instr.makeMap t (some (.int kd n))).run P w = .ok (.map (some w.heap.size)) (w.alloc (.map #[] 0)) := by
  simp [Instr.makeMap, run_underlying ht]; rfl
theorem intAt {l : List Int} {k : Nat} (h : k < l.length) : (l.map (Value.int .i64))[k]? = some (.int .i64 (l.getD k 0)) := by
  simp [List.getD_eq_getElem?_getD, List.getElem?_eq_getElem h]
theorem Lst.atI {w : World} {B : Nat} {A : Option Addr} {n : Nat} {l : List Int} (h : Lst w B 1 A n (l.map (Value.int .i64))) (hl : l.length = n) {k : Nat} (hk : k < n) : ∃ ad, A = some ad ∧ ad.block < B ∧ w.cell? (ad.add k) = some (.int .i64 (l.getD k 0)) := by
  obtain ⟨ad, e, hb, hc⟩ := h.at_ (by omega)
  exact ⟨ad, e, hb, hc _ _ (intAt (by omega))⟩
def inL (l : List Int) (x : Int) : Bool := l.any (fun j => j == x)
theorem inL_next {l : List Int} {k : Nat} (h : k < l.length) (j : Int) : inL (l.take (k + 1)) j = (if j = l.getD k 0 then true else inL (l.take k) j) := by
  have e : l.take (k + 1) = l.take k ++ [l.getD k 0] := by
    rw [List.take_add_one, List.getD_eq_getElem?_getD, List.getElem?_eq_getElem h]; rfl
  unfold inL
  rw [e, List.any_append]
  by_cases e : j = l.getD k 0
  · subst e; simp
  · rw [if_neg e]; simp; intro e2; exact absurd e2.symm e
def dropL (d : List Bk) (l : List Int) : List Bk := d.filter (fun x => !inL l x.id)
def DropR (b0 b1 m : Nat) (S : Int → Bool) (_ : Nat) (w : World) : Prop := Blok w b1 85 #[.map (some b0)] ∧ SetW w b0 m S
end Go.Proofs.Ytfdphpmcgidmiaa.Kb

/- Ledgers as lists: what is right, what Book, Release and Drop make of the rows. No condition. -/
namespace Go.Proofs.Ytfdphpmcgidmiaa.Kb
open Go.ChangeShapes Go.WideShapes Go.ChangeAt Go.RowKit Go.Sort
set_option linter.unusedSimpArgs false
set_option linter.unusedVariables false
def okRow (x : Bk) : Bool := inB x.id 1 1048576 && (!zeroU x && (inM x.ua && (inM x.ub && inM x.uc)))
theorem okRow_ok {x : Bk} (h : okRow x = true) : okU x ∧ (1 ≤ x.id ∧ x.id ≤ 1048576) ∧ zeroU x = false := by
  unfold okRow inM inB at h
  simp only [Bool.and_eq_true, decide_eq_true_eq, Bool.not_eq_true'] at h
  unfold okU
  exact ⟨by omega, by omega, h.2.1⟩
theorem okRow_of {x : Bk} (h : okU x) (h1 : 1 ≤ x.id) (h2 : x.id ≤ 1048576) (h3 : zeroU x = false) : okRow x = true := by
  unfold okU at h
  unfold okRow inM inB
  simp only [Bool.and_eq_true, decide_eq_true_eq, Bool.not_eq_true']
  exact ⟨by omega, h3, by omega, by omega, by omega⟩
theorem right_iff {d : List Bk} : rightB d = true ↔ SortB d ∧ ∀ x ∈ d, okRow x = true := by
  rw [rightB_true]
  constructor
  · intro h
    have hstep : ∀ i, i + 1 < d.length → (gBk d i).id < (gBk d (i + 1)).id := fun i hi => by
      have := h (i + 1) hi
      unfold stepR at this
      simp only [Bool.and_eq_true, Bool.or_eq_true, Nat.add_sub_cancel, decide_eq_true_eq, beq_iff_eq] at this
      rcases this.2.1 with e | e
      · omega
      · exact e
    have hlt : ∀ k i, i + k + 1 < d.length → (gBk d i).id < (gBk d (i + k + 1)).id := by
      intro k
      induction k with
      | zero => intro i hi; exact hstep i hi
      | succ k ih =>
        intro i hi
        have e1 := ih i (by omega)
        have e2 := hstep (i + k + 1) (by omega)
        rw [show i + (k + 1) + 1 = i + k + 1 + 1 from by omega]
        omega
    refine ⟨List.pairwise_iff_getElem.2 (fun i j hi hj hij => ?_), fun x hx => ?_⟩
    · have := hlt (j - i - 1) i (by omega)
      rw [show i + (j - i - 1) + 1 = j from by omega, gBk_eq hi, gBk_eq hj] at this
      exact this
    · obtain ⟨j, hj, rfl⟩ := mem_gBk hx
      have := h j hj
      unfold stepR at this
      unfold okRow
      simp only [Bool.and_eq_true] at this ⊢
      exact ⟨this.1, this.2.2⟩
  · rintro ⟨hs, h⟩ i hi
    have := h _ (gBk_mem hi)
    unfold okRow at this
    unfold stepR
    simp only [Bool.and_eq_true, Bool.or_eq_true, beq_iff_eq, decide_eq_true_eq] at this ⊢
    refine ⟨this.1, ?_, this.2⟩
    by_cases e : i = 0
    · exact .inl e
    · exact .inr (hs.at_ (i := i - 1) (j := i) (by omega) hi)
theorem right_sort {d : List Bk} (h : rightB d = true) : SortB d := (right_iff.1 h).1
theorem rowB_none {d : List Bk} {j : Int} (h : ∀ y ∈ d, y.id ≠ j) : rowB d j = ⟨j, 0, 0, 0⟩ := by
  have : hit d j = false := by unfold hit; rw [List.any_eq_false]; intro y hy; simpa using h y hy
  unfold rowB
  rw [if_neg (by rw [this]; simp)]
theorem rowB_mem {d : List Bk} (hs : SortB d) {x : Bk} (hx : x ∈ d) : rowB d x.id = x := by
  have hh : hit d x.id = true := by unfold hit; rw [List.any_eq_true]; exact ⟨x, hx, by simp⟩
  unfold rowB
  rw [if_pos hh]
  obtain ⟨h1, h2⟩ := hit_at hs hh
  obtain ⟨j, hj, e⟩ := mem_gBk hx
  by_cases e2 : pl d x.id = j
  · rw [e2, e]
  · exfalso
    rcases Nat.lt_or_gt_of_ne e2 with h3 | h3
    · have := hs.at_ h3 hj; rw [e, h2] at this; omega
    · have := hs.at_ h3 h1; rw [e, h2] at this; omega
theorem rowB_cases {d : List Bk} (hs : SortB d) (j : Int) : (rowB d j ∈ d ∧ (rowB d j).id = j) ∨ ((∀ y ∈ d, y.id ≠ j) ∧ rowB d j = ⟨j, 0, 0, 0⟩) := by
  by_cases h : ∃ y ∈ d, y.id = j
  · obtain ⟨y, hy, rfl⟩ := h
    rw [rowB_mem hs hy]
    exact .inl ⟨hy, rfl⟩
  · have h' : ∀ y ∈ d, y.id ≠ j := fun y hy e => h ⟨y, hy, e⟩
    exact .inr ⟨h', rowB_none h'⟩
theorem right_ok {d : List Bk} (h : rightB d = true) (j : Int) : okU (rowB d j) := by
  obtain ⟨hs, ho⟩ := right_iff.1 h
  rcases rowB_cases hs j with ⟨h1, _⟩ | ⟨_, h2⟩
  · exact (okRow_ok (ho _ h1)).1
  · rw [h2]; unfold okU; simp
theorem right_wf {d : List Bk} (h : rightB d = true) : ∀ x ∈ d, (Lit.int .i64 x.id).wf = true := fun x hx => by
  have := (okRow_ok ((right_iff.1 h).2 x hx)).2.1
  exact wfI (by omega)
theorem right_filter {d : List Bk} (h : rightB d = true) (p : Bk → Bool) : rightB (d.filter p) = true := by
  obtain ⟨hs, ho⟩ := right_iff.1 h
  exact right_iff.2 ⟨List.Pairwise.filter _ hs, fun x hx => ho x (List.mem_filter.1 hx).1⟩
/-- Two right ledgers that tell the same of each ID are one. -/
theorem sort_ext : ∀ {d e : List Bk}, SortB d → SortB e → (∀ x, x ∈ d ↔ x ∈ e) → d = e
  | [], [], _, _, _ => rfl
  | [], b :: t, _, _, h => absurd ((h b).2 (by simp)) (by simp)
  | a :: s, [], _, _, h => absurd ((h a).1 (by simp)) (by simp)
  | a :: s, b :: t, hd, he, h => by
    obtain ⟨d1, d2⟩ := List.pairwise_cons.1 hd
    obtain ⟨e1, e2⟩ := List.pairwise_cons.1 he
    have hab : a = b := by
      rcases List.mem_cons.1 ((h a).1 (by simp)) with e | e
      · exact e
      · rcases List.mem_cons.1 ((h b).2 (by simp)) with f | f
        · exact f.symm
        · have g1 := e1 a e
          have g2 := d1 b f
          omega
    subst hab
    rw [sort_ext d2 e2 (fun x => ⟨fun hx => by
      rcases List.mem_cons.1 ((h x).1 (by simp [hx])) with e | e
      · subst e; have := d1 x hx; omega
      · exact e, fun hx => by
      rcases List.mem_cons.1 ((h x).2 (by simp [hx])) with e | e
      · subst e; have := e1 x hx; omega
      · exact e⟩)]
theorem right_ext {d e : List Bk} (hd : rightB d = true) (he : rightB e = true) (h : ∀ j, rowB d j = rowB e j) : d = e := by
  obtain ⟨s1, o1⟩ := right_iff.1 hd
  obtain ⟨s2, o2⟩ := right_iff.1 he
  have key : ∀ {a b : List Bk}, SortB a → SortB b → (∀ x ∈ a, okRow x = true) → (∀ j, rowB a j = rowB b j) → ∀ x, x ∈ a → x ∈ b := fun ha hb oa h x hx => by
    have e1 := h x.id
    rw [rowB_mem ha hx] at e1
    rcases rowB_cases hb x.id with ⟨h1, _⟩ | ⟨_, h2⟩
    · rw [← e1] at h1; exact h1
    · rw [h2] at e1
      have := (okRow_ok (oa x hx)).2.2
      rw [e1] at this
      simp [zeroU] at this
  exact sort_ext s1 s2 (fun x => ⟨key s1 s2 o1 h x, key s2 s1 o2 (fun j => (h j).symm) x⟩)
theorem more_parts : ∀ {d : List Bk} (id : Int), SortB d → d.take (pl d id) = d.filter (fun x => decide (x.id < id)) ∧ d.drop (pl d id + if hit d id = true then 1 else 0) = d.filter (fun x => decide (id < x.id))
  | [], id, _ => by simp [pl, hit]
  | a :: s, id, hd => by
    obtain ⟨d1, d2⟩ := List.pairwise_cons.1 hd
    obtain ⟨i1, i2⟩ := more_parts (d := s) id d2
    by_cases h1 : a.id < id
    · have e1 : pl (a :: s) id = pl s id + 1 := by simp [pl, h1]
      have e2 : hit (a :: s) id = hit s id := by
        have : (a.id == id) = false := by simp; omega
        simp [hit, this]
      rw [e1, e2, List.take_succ_cons, i1, show pl s id + 1 + (if hit s id = true then 1 else 0) = (pl s id + if hit s id = true then 1 else 0) + 1 from by omega, List.drop_succ_cons, i2]
      refine ⟨?_, ?_⟩
      · rw [List.filter_cons_of_pos (by simpa using h1)]
      · rw [List.filter_cons_of_neg (by simp; omega)]
    · have hge : ∀ x ∈ s, ¬ x.id < id := fun x hx => by have := d1 x hx; omega
      have hgt : s.filter (fun x => decide (id < x.id)) = s := List.filter_eq_self.2 (fun x hx => by have := d1 x hx; simp; omega)
      have hf0 : (a :: s).filter (fun x => decide (x.id < id)) = [] := List.filter_eq_nil_iff.2 (fun x hx => by
        rcases List.mem_cons.1 hx with rfl | hx
        · simpa using h1
        · simpa using hge x hx)
      have e1 : pl (a :: s) id = 0 := by unfold pl; rw [hf0]; rfl
      rw [e1, hf0]
      refine ⟨rfl, ?_⟩
      by_cases h2 : a.id = id
      · have e2 : hit (a :: s) id = true := by simp [hit, h2]
        rw [e2, List.filter_cons_of_neg (by simp; omega), hgt]
        rfl
      · have e2 : hit (a :: s) id = false := by
          unfold hit
          rw [List.any_eq_false]
          intro x hx
          rcases List.mem_cons.1 hx with rfl | hx
          · simpa using h2
          · have := d1 x hx; simp; omega
        rw [e2, List.filter_cons_of_pos (by simp; omega), hgt]
        rfl
theorem more_mem {d : List Bk} {id : Int} {y : Bk} (hs : SortB d) {x : Bk} : x ∈ moreB d id y ↔ (zeroU y = false ∧ x = y) ∨ (x ∈ d ∧ x.id ≠ id) := by
  obtain ⟨e1, e2⟩ := more_parts id hs
  unfold moreB
  rw [e1, e2]
  cases hz : zeroU y
  · simp only [List.mem_append, List.mem_filter, decide_eq_true_eq, Bool.false_eq_true, if_false, List.mem_singleton]
    constructor
    · rintro ((⟨h1, h2⟩ | h1) | ⟨h1, h2⟩)
      · exact .inr ⟨h1, by omega⟩
      · exact .inl ⟨trivial, h1⟩
      · exact .inr ⟨h1, by omega⟩
    · rintro (⟨_, h⟩ | ⟨h1, h2⟩)
      · exact .inl (.inr h)
      · rcases Int.lt_or_gt_of_ne h2 with h | h
        · exact .inl (.inl ⟨h1, h⟩)
        · exact .inr ⟨h1, h⟩
  · simp only [List.mem_append, List.mem_filter, decide_eq_true_eq, if_true, List.append_nil]
    constructor
    · rintro (⟨h1, h2⟩ | ⟨h1, h2⟩)
      · exact .inr ⟨h1, by omega⟩
      · exact .inr ⟨h1, by omega⟩
    · rintro (⟨h, _⟩ | ⟨h1, h2⟩)
      · cases h
      · rcases Int.lt_or_gt_of_ne h2 with h | h
        · exact .inl ⟨h1, h⟩
        · exact .inr ⟨h1, h⟩
theorem more_sort {d : List Bk} {id : Int} {y : Bk} (hs : SortB d) (hy : y.id = id) : SortB (moreB d id y) := by
  obtain ⟨e1, e2⟩ := more_parts id hs
  unfold moreB
  rw [e1, e2]
  have f1 : SortB (d.filter (fun x => decide (x.id < id))) := List.Pairwise.filter _ hs
  have f2 : SortB (d.filter (fun x => decide (id < x.id))) := List.Pairwise.filter _ hs
  unfold SortB at *
  cases hz : zeroU y
  · simp only [Bool.false_eq_true, if_false]
    rw [List.pairwise_append, List.pairwise_append]
    refine ⟨⟨f1, by simp, fun a ha b hb => ?_⟩, f2, fun a ha b hb => ?_⟩
    · have := (List.mem_filter.1 ha).2
      obtain rfl : b = y := by simpa using hb
      simp at this; omega
    · have h2 := (List.mem_filter.1 hb).2
      simp at h2
      rcases List.mem_append.1 ha with ha | ha
      · have := (List.mem_filter.1 ha).2
        simp at this; omega
      · obtain rfl : a = y := by simpa using ha
        omega
  · simp only [if_true, List.append_nil]
    rw [List.pairwise_append]
    refine ⟨f1, f2, fun a ha b hb => ?_⟩
    have h1 := (List.mem_filter.1 ha).2
    have h2 := (List.mem_filter.1 hb).2
    simp at h1 h2; omega
theorem more_right {d : List Bk} {id : Int} {y : Bk} (h : rightB d = true) (hy : y.id = id) (h1 : zeroU y = true ∨ okRow y = true) : rightB (moreB d id y) = true := by
  obtain ⟨hs, ho⟩ := right_iff.1 h
  refine right_iff.2 ⟨more_sort hs hy, fun x hx => ?_⟩
  rcases (more_mem hs).1 hx with ⟨h2, rfl⟩ | ⟨h2, _⟩
  · rcases h1 with h1 | h1
    · rw [h1] at h2; cases h2
    · exact h1
  · exact ho x h2
theorem more_row {d : List Bk} {id : Int} {y : Bk} (hs : SortB d) (hy : y.id = id) (j : Int) : rowB (moreB d id y) j = if j = id then y else rowB d j := by
  have hm := more_sort hs hy
  split
  · rename_i e
    subst e
    cases hz : zeroU y
    · have : y ∈ moreB d j y := (more_mem hs).2 (.inl ⟨hz, rfl⟩)
      rw [← hy] at this ⊢
      exact rowB_mem (by rw [hy] at *; exact hm) this
    · rw [rowB_none (fun x hx => by
        rcases (more_mem hs).1 hx with ⟨h2, _⟩ | ⟨_, h2⟩
        · rw [hz] at h2; cases h2
        · exact h2)]
      unfold zeroU at hz
      simp at hz
      cases y
      simp_all
  · rename_i e
    rcases rowB_cases hs j with ⟨h1, h2⟩ | ⟨h1, h2⟩
    · have : rowB d j ∈ moreB d id y := (more_mem hs).2 (.inr ⟨h1, by rw [h2]; exact e⟩)
      have h3 := rowB_mem hm this
      rw [h2] at h3
      exact h3
    · rw [h2]
      exact rowB_none (fun x hx => by
        rcases (more_mem hs).1 hx with ⟨_, rfl⟩ | ⟨h3, _⟩
        · rw [hy]; exact fun e2 => e e2.symm
        · exact h1 x h3)
theorem drop_row {d : List Bk} {l : List Int} (hs : SortB d) (j : Int) : rowB (dropL d l) j = if inL l j = true then ⟨j, 0, 0, 0⟩ else rowB d j := by
  have hm : SortB (dropL d l) := List.Pairwise.filter _ hs
  have mem : ∀ x, x ∈ dropL d l ↔ x ∈ d ∧ inL l x.id = false := fun x => by unfold dropL; rw [List.mem_filter]; simp
  split
  · rename_i e
    exact rowB_none (fun x hx e2 => by have := ((mem x).1 hx).2; rw [e2, e] at this; cases this)
  · rename_i e
    rcases rowB_cases hs j with ⟨h1, h2⟩ | ⟨h1, h2⟩
    · have : rowB d j ∈ dropL d l := (mem _).2 ⟨h1, by rw [h2]; simpa using e⟩
      have h3 := rowB_mem hm this
      rw [h2] at h3
      exact h3
    · rw [h2]
      exact rowB_none (fun x hx => h1 x ((mem x).1 hx).1)
theorem drop_right {d : List Bk} {l : List Int} (h : rightB d = true) : rightB (dropL d l) = true := right_filter h _
theorem drop_twice (d : List Bk) (l : List Int) : dropL (dropL d l) l = dropL d l := by unfold dropL; rw [List.filter_filter]; simp
theorem bump_id (x : Bk) (cl sz : Int) : (bump x cl sz).id = x.id := by
  unfold bump
  split
  · rfl
  · split <;> rfl
theorem more_len (d : List Bk) (id : Int) (y : Bk) : (moreB d id y).length ≤ d.length + 1 := by
  unfold moreB
  have := pl_le d id
  rw [List.length_append, List.length_append, List.length_take, List.length_drop]
  split <;> simp <;> omega
def bookL (d : List Bk) (c : Ct) (cl sz : Int) : List Bk := if bookB d c cl sz = true then moreB d c.id (bump (rowB d c.id) cl sz) else d
def relL (d : List Bk) (id cl sz : Int) : List Bk := if relB d id cl sz = true then moreB d id (bump (rowB d id) cl (-sz)) else d
theorem bookL_len (d : List Bk) (c : Ct) (cl sz : Int) : (bookL d c cl sz).length ≤ d.length + 1 := by
  unfold bookL
  split
  · exact more_len _ _ _
  · omega
theorem relL_len (d : List Bk) (id cl sz : Int) : (relL d id cl sz).length ≤ d.length + 1 := by
  unfold relL
  split
  · exact more_len _ _ _
  · omega
theorem okC_id {c : Ct} (h : okC c = true) : 1 ≤ c.id ∧ c.id ≤ 1048576 := by
  unfold okC contactB inB at h
  simp only [Bool.and_eq_true, decide_eq_true_eq] at h
  omega
theorem bump_ok {x : Bk} {cl sz : Int} (hx : okU x) (hc : inB cl 0 2 = true) (h0 : 0 ≤ getU x cl + sz) (h1 : getU x cl + sz ≤ 4611686018427387904) : okU (bump x cl sz) := by
  unfold okU at hx
  unfold getU at h0 h1
  unfold bump
  rcases class_cases hc with rfl | rfl | rfl
  · simp at h0 h1 ⊢; unfold okU; simp only; omega
  · simp at h0 h1 ⊢; unfold okU; simp only; omega
  · simp at h0 h1 ⊢; unfold okU; simp only; omega
theorem book_facts {d : List Bk} {c : Ct} {cl sz : Int} (hr : rightB d = true) (hb : bookB d c cl sz = true) : okC c = true ∧ inB cl 0 2 = true ∧ 0 ≤ sz ∧ sz ≤ roomF c (rowB d c.id) cl ∧ roomF c (rowB d c.id) cl = max 0 (volC c - backF (rowB d c.id) cl) := by
  unfold bookB at hb
  simp only [Bool.and_eq_true] at hb
  obtain ⟨h1, h2, h3⟩ := hb
  have h4 : 0 ≤ sz ∧ sz ≤ roomF c (rowB d c.id) cl := by unfold inB at h3; simpa using h3
  exact ⟨h1, h2, h4.1, h4.2, by unfold roomF; rw [if_pos h2]⟩
theorem book_bump {d : List Bk} {c : Ct} {cl sz : Int} (hr : rightB d = true) (hb : bookB d c cl sz = true) : okU (bump (rowB d c.id) cl sz) := by
  obtain ⟨h1, h2, h3, h4, h5⟩ := book_facts hr hb
  have hok := right_ok hr c.id
  have hvc := volC_ok c
  have hge := back_ge hok h2
  have hgu := getU_ok hok cl
  exact bump_ok hok h2 (by omega) (by omega)
theorem book_right {d : List Bk} {c : Ct} {cl sz : Int} (hr : rightB d = true) : rightB (bookL d c cl sz) = true := by
  unfold bookL
  split
  · rename_i hb
    have hok := book_bump hr hb
    have hid : (bump (rowB d c.id) cl sz).id = c.id := by rw [bump_id, rowB_id (right_sort hr)]
    have hci := okC_id (book_facts hr hb).1
    refine more_right hr hid ?_
    cases hz : zeroU (bump (rowB d c.id) cl sz)
    · exact .inr (okRow_of hok (by omega) (by omega) hz)
    · exact .inl rfl
  · exact hr
theorem book_row {d : List Bk} {c : Ct} {cl sz : Int} (hr : rightB d = true) (j : Int) : rowB (bookL d c cl sz) j = if bookB d c cl sz = true ∧ j = c.id then bump (rowB d c.id) cl sz else rowB d j := by
  unfold bookL
  split
  · rename_i hb
    rw [more_row (right_sort hr) (by rw [bump_id, rowB_id (right_sort hr)])]
    simp [hb]
  · rename_i hb
    rw [if_neg (fun h => hb h.1)]
theorem book_same {d e : List Bk} {c : Ct} {cl sz : Int} (h : rowB d c.id = rowB e c.id) : bookB d c cl sz = bookB e c cl sz := by unfold bookB; rw [h]
theorem rel_facts {d : List Bk} {id cl sz : Int} (hb : relB d id cl sz = true) : inB cl 0 2 = true ∧ 0 ≤ sz ∧ sz ≤ getU (rowB d id) cl := by
  unfold relB at hb
  simp only [Bool.and_eq_true] at hb
  obtain ⟨h2, h3⟩ := hb
  have h4 : 0 ≤ sz ∧ sz ≤ getU (rowB d id) cl := by unfold inB at h3; simpa using h3
  exact ⟨h2, h4⟩
theorem rel_bump {d : List Bk} {id cl sz : Int} (hr : rightB d = true) (hb : relB d id cl sz = true) : okU (bump (rowB d id) cl (-sz)) := by
  obtain ⟨h2, h3, h4⟩ := rel_facts hb
  have hok := right_ok hr id
  have hgu := getU_ok hok cl
  exact bump_ok hok h2 (by omega) (by omega)
theorem bump_zero (x : Bk) (cl : Int) : bump x cl 0 = x := by
  unfold bump
  split
  · simp
  · split <;> simp
theorem rel_right {d : List Bk} {id cl sz : Int} (hr : rightB d = true) : rightB (relL d id cl sz) = true := by
  unfold relL
  split
  · rename_i hb
    have hok := rel_bump hr hb
    have hid : (bump (rowB d id) cl (-sz)).id = id := by rw [bump_id, rowB_id (right_sort hr)]
    refine more_right hr hid ?_
    cases hz : zeroU (bump (rowB d id) cl (-sz))
    · right
      have hci : 1 ≤ id ∧ id ≤ 1048576 := by
        rcases rowB_cases (right_sort hr) id with ⟨h1, h2⟩ | ⟨_, h2⟩
        · have := (okRow_ok ((right_iff.1 hr).2 _ h1)).2.1
          rw [h2] at this
          exact this
        · exfalso
          obtain ⟨h3, h4, h5⟩ := rel_facts hb
          have h6 : getU (rowB d id) cl = 0 := by rw [h2]; unfold getU; simp
          have h7 : sz = 0 := by omega
          rw [h7, Int.neg_zero, bump_zero, h2] at hz
          simp [zeroU] at hz
      exact okRow_of hok (by omega) (by omega) hz
    · exact .inl rfl
  · exact hr
theorem rel_row {d : List Bk} {id cl sz : Int} (hr : rightB d = true) (j : Int) : rowB (relL d id cl sz) j = if relB d id cl sz = true ∧ j = id then bump (rowB d id) cl (-sz) else rowB d j := by
  unfold relL
  split
  · rename_i hb
    rw [more_row (right_sort hr) (by rw [bump_id, rowB_id (right_sort hr)])]
    simp [hb]
  · rename_i hb
    rw [if_neg (fun h => hb h.1)]
end Go.Proofs.Ytfdphpmcgidmiaa.Kb

/- Package ranges: compareWays. -/
namespace Go.Proofs.Ytfdphpmcgidmiaa.Kr
open Go.ChangeShapes Go.WideShapes Go.ChangeAt Go.RowKit Go.Sort
set_option linter.unusedSimpArgs false
set_option linter.unusedVariables false
def waysI (a b : Rg) : Int := orF [cmpI a.fr b.fr, cmpI a.tn b.tn]
set_option maxHeartbeats 1000000 in
set_option maxRecDepth 100000 in
theorem ways_any (a b : Rg) (w : World) : Calls Try.prog 58 #[.agg #[.int .i64 a.fr, .int .i64 a.tn, .int .i64 a.st, .int .i64 a.en, .int .i64 a.ow], .agg #[.int .i64 b.fr, .int .i64 b.tn, .int .i64 b.st, .int .i64 b.en, .int .i64 b.ow]] w fun e w' => e = .returned (.int .i64 (waysI a b)) ∧ Below w.heap.size w w' := by
  obtain ⟨p, hp⟩ : ∃ p, cmpI a.fr b.fr = p := ⟨_, rfl⟩
  obtain ⟨q, hq⟩ : ∃ q, cmpI a.tn b.tn = q := ⟨_, rfl⟩
  have hfin : waysI a b = orF [p, q] := by rw [← hp, ← hq]; rfl
  have HP := Lib.hid hp
  have HQ := Lib.hid hq
  rw [hfin]
  clear hp hq hfin
  go_enter Try.func58, Try.ntmps58
  go_wp2_with fail
  refine wp_region_still_tail 10 (by kernel_rfl) (by kernel_rfl) ?_
  change wpStill _ _ (World.drew _) (fun a' => wpList _ _ _ _ a' (World.drew _)) _ _
  simp only [List.take_succ_cons, List.take_zero, List.drop_succ_cons, List.drop_zero]
  repeat still_step
  still_call ((HP.out ▸ cmp_any a.fr b.fr _).mono fun _ _ h => ⟨h.1, h.2.symm⟩)
  repeat still_step
  still_call ((HQ.out ▸ cmp_any a.tn b.tn _).mono fun _ _ h => ⟨h.1, h.2.symm⟩)
  refine wpStill_nil ?_
  have hB : Below w.heap.size w (((w.alloc (.cells #[.int .i64 a.fr, .int .i64 a.tn, .int .i64 a.st, .int .i64 a.en, .int .i64 a.ow] 59)).alloc (.cells #[.int .i64 b.fr, .int .i64 b.tn, .int .i64 b.st, .int .i64 b.en, .int .i64 b.ow] 59)).drew) := by (repeat (first | exact Below.refl _ _ | refine Below.alloc ?_ (by first | omega | (simp; done) | (simp; omega)) _ | refine Below.setCell ?_ (by first | omega | (simp; done) | (simp; omega)) _ | refine Below.drew ?_))
  have hs := hB.size
  generalize (((w.alloc (.cells #[.int .i64 a.fr, .int .i64 a.tn, .int .i64 a.st, .int .i64 a.en, .int .i64 a.ow] 59)).alloc (.cells #[.int .i64 b.fr, .int .i64 b.tn, .int .i64 b.st, .int .i64 b.en, .int .i64 b.ow] 59)).drew) = w2 at *
  go_wp2_with fail
  have hX := Blok.new w2 3 #[.int .i64 p, .int .i64 q]
  refine (or_any w2.heap.size 2 2 [p, q] _ rfl (by omega) (fun k hk => by
    have hc := hX.cell k
    have hk2 : k = 0 ∨ k = 1 := by omega
    rcases hk2 with rfl | rfl <;> exact hc)).mono ?_
  rintro e w3 ⟨rfl, rfl⟩
  go_wp2
  go_ret
  exact ⟨rfl, hB.alloc hs _⟩
def cmpR (a b : Rg) : Int := orF [waysI a b, cmpI a.st b.st]
set_option maxHeartbeats 2000000 in
set_option maxRecDepth 100000 in
theorem cmpR_any (a b : Rg) (w : World) : Calls Try.prog 78 #[.agg #[.int .i64 a.fr, .int .i64 a.tn, .int .i64 a.st, .int .i64 a.en, .int .i64 a.ow], .agg #[.int .i64 b.fr, .int .i64 b.tn, .int .i64 b.st, .int .i64 b.en, .int .i64 b.ow]] w fun e w' => e = .returned (.int .i64 (cmpR a b)) ∧ Below w.heap.size w w' := by
  obtain ⟨p, hp⟩ : ∃ p, waysI a b = p := ⟨_, rfl⟩
  obtain ⟨q, hq⟩ : ∃ q, cmpI a.st b.st = q := ⟨_, rfl⟩
  have hfin : cmpR a b = orF [p, q] := by rw [← hp, ← hq]; rfl
  have HP := Lib.hid hp
  have HQ := Lib.hid hq
  rw [hfin]
  clear hp hq hfin
  go_enter Try.func78, Try.ntmps78
  go_wp2_with fail
  have hB : Below w.heap.size w ((w.alloc (.cells #[.int .i64 a.fr, .int .i64 a.tn, .int .i64 a.st, .int .i64 a.en, .int .i64 a.ow] 59)).alloc (.cells #[.int .i64 b.fr, .int .i64 b.tn, .int .i64 b.st, .int .i64 b.en, .int .i64 b.ow] 59)) := by (repeat (first | exact Below.refl _ _ | refine Below.alloc ?_ (by first | omega | (simp; done) | (simp; omega)) _ | refine Below.setCell ?_ (by first | omega | (simp; done) | (simp; omega)) _ | refine Below.drew ?_))
  have hXa := (Blok.new w 59 #[.int .i64 a.fr, .int .i64 a.tn, .int .i64 a.st, .int .i64 a.en, .int .i64 a.ow]).alloc (.cells #[.int .i64 b.fr, .int .i64 b.tn, .int .i64 b.st, .int .i64 b.en, .int .i64 b.ow] 59)
  have hXb := Blok.new (w.alloc (.cells #[.int .i64 a.fr, .int .i64 a.tn, .int .i64 a.st, .int .i64 a.en, .int .i64 a.ow] 59)) 59 #[.int .i64 b.fr, .int .i64 b.tn, .int .i64 b.st, .int .i64 b.en, .int .i64 b.ow]
  simp only [World.size_alloc] at hXb
  generalize ((w.alloc (.cells #[.int .i64 a.fr, .int .i64 a.tn, .int .i64 a.st, .int .i64 a.en, .int .i64 a.ow] 59)).alloc (.cells #[.int .i64 b.fr, .int .i64 b.tn, .int .i64 b.st, .int .i64 b.en, .int .i64 b.ow] 59)) = w2 at *
  have hs := hB.size
  have hla := hXa.lt
  have hlb := hXb.lt
  have ha0 : w2.cell? ⟨w.heap.size, 0, none⟩ = some (.int .i64 a.fr) := hXa.cell 0
  have ha1 : w2.cell? ⟨w.heap.size, 1, none⟩ = some (.int .i64 a.tn) := hXa.cell 1
  have ha2 : w2.cell? ⟨w.heap.size, 2, none⟩ = some (.int .i64 a.st) := hXa.cell 2
  have ha3 : w2.cell? ⟨w.heap.size, 3, none⟩ = some (.int .i64 a.en) := hXa.cell 3
  have ha4 : w2.cell? ⟨w.heap.size, 4, none⟩ = some (.int .i64 a.ow) := hXa.cell 4
  have hb0 : w2.cell? ⟨w.heap.size + 1, 0, none⟩ = some (.int .i64 b.fr) := hXb.cell 0
  have hb1 : w2.cell? ⟨w.heap.size + 1, 1, none⟩ = some (.int .i64 b.tn) := hXb.cell 1
  have hb2 : w2.cell? ⟨w.heap.size + 1, 2, none⟩ = some (.int .i64 b.st) := hXb.cell 2
  have hb3 : w2.cell? ⟨w.heap.size + 1, 3, none⟩ = some (.int .i64 b.en) := hXb.cell 3
  have hb4 : w2.cell? ⟨w.heap.size + 1, 4, none⟩ = some (.int .i64 b.ow) := hXb.cell 4
  go_region_held3 (fun w' => w'.cell? ⟨w.heap.size, 0, none⟩ = some (.int .i64 a.fr) ∧ w'.cell? ⟨w.heap.size, 1, none⟩ = some (.int .i64 a.tn) ∧ w'.cell? ⟨w.heap.size, 2, none⟩ = some (.int .i64 a.st) ∧ w'.cell? ⟨w.heap.size, 3, none⟩ = some (.int .i64 a.en) ∧ w'.cell? ⟨w.heap.size, 4, none⟩ = some (.int .i64 a.ow) ∧ w'.cell? ⟨w.heap.size + 1, 0, none⟩ = some (.int .i64 b.fr) ∧ w'.cell? ⟨w.heap.size + 1, 1, none⟩ = some (.int .i64 b.tn) ∧ w'.cell? ⟨w.heap.size + 1, 2, none⟩ = some (.int .i64 b.st) ∧ w'.cell? ⟨w.heap.size + 1, 3, none⟩ = some (.int .i64 b.en) ∧ w'.cell? ⟨w.heap.size + 1, 4, none⟩ = some (.int .i64 b.ow))
    (first | go_keep | (refine ⟨?_, ?_, ?_, ?_, ?_, ?_, ?_, ?_, ?_, ?_⟩ <;> first | assumption | (rw [hc _ _ (by simp; omega)]; assumption)))
    (first
      | (go_at_call 58; (with_reducible refine Calls.mono (HP.out ▸ ways_any a b _) ?_); rintro e w3 ⟨rfl, hb3⟩; obtain ⟨hc, hf⟩ := bcell hb3)
      | (go_at_call 44; (with_reducible refine Calls.mono (HQ.out ▸ cmp_any a.st b.st _) ?_); rintro e w3 ⟨rfl, rfl⟩)
      | (go_at_call 82; (with_reducible refine Calls.mono (or_any _ 2 2 [p, q] _ rfl (by omega) (fun k hk => by
            have hk2 : k = 0 ∨ k = 1 := by omega
            rcases hk2 with rfl | rfl <;> simp)) ?_); rintro e w4 ⟨rfl, rfl⟩))
  go_wp2
  go_ret
  exact ⟨rfl, (hB.drew.trans (hb3.mono hs)).alloc (by have := hb3.size; simp at this; omega) _⟩
theorem waysI_zero {a b : Rg} : waysI a b = 0 ↔ a.fr = b.fr ∧ a.tn = b.tn := by
  unfold waysI orF
  split
  · rename_i h
    rw [cmpI_zero] at h
    unfold orF
    split
    · rename_i h2; rw [cmpI_zero] at h2; simp [h, h2, orF]
    · rename_i h2; rw [cmpI_zero] at h2; constructor
      · intro e; exact absurd (cmpI_zero.1 e) h2
      · intro e; exact absurd e.2 h2
  · rename_i h
    rw [cmpI_zero] at h
    constructor
    · intro e; exact absurd (cmpI_zero.1 e) h
    · intro e; exact absurd e.1 h
def ltR (a b : Rg) : Prop := a.fr < b.fr ∨ a.fr = b.fr ∧ (a.tn < b.tn ∨ a.tn = b.tn ∧ a.st < b.st)
theorem cmpI_spec (a b : Int) : (a < b ∧ cmpI a b = -1) ∨ (a = b ∧ cmpI a b = 0) ∨ (b < a ∧ cmpI a b = 1) := by
  rcases Int.lt_trichotomy a b with h | h | h
  · exact .inl ⟨h, cmpI_lt h⟩
  · exact .inr (.inl ⟨h, cmpI_zero.2 h⟩)
  · exact .inr (.inr ⟨h, cmpI_gt h⟩)
theorem cmpR_spec (a b : Rg) : (ltR a b ∧ cmpR a b = -1) ∨ (a.fr = b.fr ∧ a.tn = b.tn ∧ a.st = b.st ∧ cmpR a b = 0) ∨ (ltR b a ∧ cmpR a b = 1) := by
  unfold cmpR waysI ltR
  rcases cmpI_spec a.fr b.fr with ⟨h1, e1⟩ | ⟨h1, e1⟩ | ⟨h1, e1⟩ <;> rcases cmpI_spec a.tn b.tn with ⟨h2, e2⟩ | ⟨h2, e2⟩ | ⟨h2, e2⟩ <;> rcases cmpI_spec a.st b.st with ⟨h3, e3⟩ | ⟨h3, e3⟩ | ⟨h3, e3⟩ <;>
    simp only [e1, e2, e3, orF] <;> simp <;> omega
def overR (a b : Rg) : Bool := decide (a.fr = b.fr ∧ a.tn = b.tn ∧ a.st < b.en ∧ b.st < a.en)
def sameR (a b : Rg) : Bool := decide (a.fr = b.fr ∧ a.tn = b.tn ∧ a.st = b.st)
theorem cmpR_zero {a b : Rg} : cmpR a b = 0 ↔ a.fr = b.fr ∧ a.tn = b.tn ∧ a.st = b.st := by
  rcases cmpR_spec a b with ⟨h, e⟩ | ⟨h1, h2, h3, e⟩ | ⟨h, e⟩
  · rw [e]; unfold ltR at h; constructor
    · intro h'; omega
    · intro h'; omega
  · simp [h1, h2, h3, e]
  · rw [e]; unfold ltR at h; constructor
    · intro h'; omega
    · intro h'; omega
set_option maxHeartbeats 1000000 in
set_option maxRecDepth 100000 in
theorem over_any (a b : Rg) (w : World) : Calls Try.prog 79 #[.agg #[.int .i64 a.fr, .int .i64 a.tn, .int .i64 a.st, .int .i64 a.en, .int .i64 a.ow], .agg #[.int .i64 b.fr, .int .i64 b.tn, .int .i64 b.st, .int .i64 b.en, .int .i64 b.ow]] w fun e w' => e = .returned (.bool (overR a b)) ∧ Below w.heap.size w w' := by
  have hB : Below w.heap.size w ((w.alloc (.cells #[.int .i64 a.fr, .int .i64 a.tn, .int .i64 a.st, .int .i64 a.en, .int .i64 a.ow] 59)).alloc (.cells #[.int .i64 b.fr, .int .i64 b.tn, .int .i64 b.st, .int .i64 b.en, .int .i64 b.ow] 59)) := by (repeat (first | exact Below.refl _ _ | refine Below.alloc ?_ (by first | omega | (simp; done) | (simp; omega)) _ | refine Below.setCell ?_ (by first | omega | (simp; done) | (simp; omega)) _ | refine Below.drew ?_))
  have hXa := (Blok.new w 59 #[.int .i64 a.fr, .int .i64 a.tn, .int .i64 a.st, .int .i64 a.en, .int .i64 a.ow]).alloc (.cells #[.int .i64 b.fr, .int .i64 b.tn, .int .i64 b.st, .int .i64 b.en, .int .i64 b.ow] 59)
  have hXb := Blok.new (w.alloc (.cells #[.int .i64 a.fr, .int .i64 a.tn, .int .i64 a.st, .int .i64 a.en, .int .i64 a.ow] 59)) 59 #[.int .i64 b.fr, .int .i64 b.tn, .int .i64 b.st, .int .i64 b.en, .int .i64 b.ow]
  have hs := hB.size
  simp only [World.size_alloc] at hXb
  by_cases h0 : waysI a b = 0
  · have h0' := waysI_zero.1 h0
    by_cases h1 : a.st < b.en
    all_goals
      by_cases h2 : b.st < a.en
      all_goals
        have hres : overR a b = (decide (a.st < b.en) && decide (b.st < a.en)) := by simp [overR, h0'.1, h0'.2]
        rw [hres]
        have H0 := Lib.hid h0
        clear h0 h0' hres
        go_enter Try.func79, Try.ntmps79
        go_wp2_with fail
        generalize ((w.alloc (.cells #[.int .i64 a.fr, .int .i64 a.tn, .int .i64 a.st, .int .i64 a.en, .int .i64 a.ow] 59)).alloc (.cells #[.int .i64 b.fr, .int .i64 b.tn, .int .i64 b.st, .int .i64 b.en, .int .i64 b.ow] 59)) = w2 at *
        refine (H0.out ▸ ways_any a b w2).mono ?_
        rintro e w3 ⟨rfl, hb3⟩
        replace hXa := hXa.below hb3 hXa.lt
        replace hXb := hXb.below hb3 hXb.lt
        have ha2 : w3.cell? ⟨w.heap.size, 2, none⟩ = some (.int .i64 a.st) := hXa.cell 2
        have ha3 : w3.cell? ⟨w.heap.size, 3, none⟩ = some (.int .i64 a.en) := hXa.cell 3
        have hb2 : w3.cell? ⟨w.heap.size + 1, 2, none⟩ = some (.int .i64 b.st) := hXb.cell 2
        have hb3' : w3.cell? ⟨w.heap.size + 1, 3, none⟩ = some (.int .i64 b.en) := hXb.cell 3
        replace hB := hB.trans (hb3.mono hs)
        clear hXa hXb hb3
        go_wp2
        go_ret
        exact ⟨by simp [h1, h2], hB⟩
  · have hz : (waysI a b == 0) = false := by simpa using h0
    have hres : overR a b = false := by
      have h3 := fun h => h0 (waysI_zero.2 h)
      simp only [overR, decide_eq_false_iff_not]
      intro h; exact h3 ⟨h.1, h.2.1⟩
    rw [hres]
    generalize hy : waysI a b = y at *
    have HY := Lib.hid hy
    clear h0 hres hy
    go_enter Try.func79, Try.ntmps79
    go_wp2_with fail
    generalize ((w.alloc (.cells #[.int .i64 a.fr, .int .i64 a.tn, .int .i64 a.st, .int .i64 a.en, .int .i64 a.ow] 59)).alloc (.cells #[.int .i64 b.fr, .int .i64 b.tn, .int .i64 b.st, .int .i64 b.en, .int .i64 b.ow] 59)) = w2 at *
    refine (HY.out ▸ ways_any a b w2).mono ?_
    rintro e w3 ⟨rfl, hb3⟩
    replace hB := hB.trans (hb3.mono hs)
    clear hXa hXb hb3
    go_wp2
    go_ret
    exact ⟨rfl, hB⟩
theorem cmp_ranges (t : Rg) (w : World) : CmpRg 78 #[] t w (fun x => cmpR x t) :=
  ⟨enter_run Try.func78 rfl rfl, fun w' _ x => cmpR_any x t w'⟩
end Go.Proofs.Ytfdphpmcgidmiaa.Kr

/- Package ranges: begins, mayAdd, Add, Delete, Change, Expire, Same. -/
namespace Go.Proofs.Ytfdphpmcgidmiaa.Kr
open Go.ChangeShapes Go.WideShapes Go.ChangeAt Go.RowKit Go.Sort
set_option linter.unusedSimpArgs false
set_option linter.unusedVariables false
def delCode (q n : Nat) : Int := if q = n then 6 else 0
end Go.Proofs.Ytfdphpmcgidmiaa.Kr

/- Package ranges: mayAdd, Add, Change. -/
namespace Go.Proofs.Ytfdphpmcgidmiaa.Kr
open Go.ChangeShapes Go.WideShapes Go.ChangeAt Go.RowKit Go.Sort
set_option linter.unusedSimpArgs false
set_option linter.unusedVariables false
def okR (r : Rg) : Bool := rangeB r.fr r.tn r.st r.en r.ow
def mayF (d : List Rg) (r : Rg) : Int := if okR r = false then 1 else if 4096 ≤ d.length then 3 else if d.any (fun o => overR o r) = true then 5 else 0
theorem okR_call (r : Rg) (w : World) (b : Bool) (h : okR r = b) : Calls Try.prog 77 #[.agg #[.int .i64 r.fr, .int .i64 r.tn, .int .i64 r.st, .int .i64 r.en, .int .i64 r.ow]] w fun e w' => e = .returned (.bool b) ∧ Below w.heap.size w w' := range_is b h w
end Go.Proofs.Ytfdphpmcgidmiaa.Kr

/- Package ranges: Change, Right. -/
namespace Go.Proofs.Ytfdphpmcgidmiaa.Kr
open Go.ChangeShapes Go.WideShapes Go.ChangeAt Go.RowKit Go.Sort
set_option linter.unusedSimpArgs false
set_option linter.unusedVariables false
def withOw (p : Rg) (x : Int) : Rg := ⟨p.fr, p.tn, p.st, p.en, x⟩
theorem flatRg_ow : ∀ (d : List Rg) (i : Nat) (x : Int), i < d.length → (flatRg d).set (i * 5 + 4) (.int .i64 x) = flatRg (d.set i (withOw (gRg d i) x))
  | p :: d, 0, x, _ => rfl
  | p :: d, i + 1, x, h => by
    rw [flatRg_cons, show (i + 1) * 5 + 4 = i * 5 + 4 + 1 + 1 + 1 + 1 + 1 from by omega]
    simp only [List.set_cons_succ]
    rw [flatRg_ow d i x (by simpa using h)]
    rfl
end Go.Proofs.Ytfdphpmcgidmiaa.Kr

/- Package ranges: Right. -/
namespace Go.Proofs.Ytfdphpmcgidmiaa.Kr
open Go.ChangeShapes Go.WideShapes Go.ChangeAt Go.RowKit Go.Sort
set_option linter.unusedSimpArgs false
set_option linter.unusedVariables false
def stepB (d : List Rg) (i : Nat) : Bool := okR (gRg d i) && (i == 0 || (decide (cmpR (gRg d (i - 1)) (gRg d i) < 0) && !overR (gRg d (i - 1)) (gRg d i)))
def rightB (d : List Rg) : Bool := decide (d.length ≤ 4096) && (List.range d.length).all (stepB d)
theorem rightB_true {d : List Rg} : rightB d = true ↔ d.length ≤ 4096 ∧ ∀ i, i < d.length → stepB d i = true := by
  simp [rightB, List.all_eq_true]
theorem rightB_false {d : List Rg} {i : Nat} (hi : i < d.length) (h : stepB d i = false) : rightB d = false := by
  rw [Bool.eq_false_iff]
  intro e
  rw [(rightB_true.1 e).2 i hi] at h
  cases h
set_option maxHeartbeats 4000000 in
set_option maxRecDepth 100000 in
theorem right_any (A : Option Addr) (n c : Nat) (d : List Rg) (w : World) (hd : d.length = n) (hn : n ≤ 1000000) (h : Sl w w.heap.size 5 A n c (flatRg d)) :
    Calls Try.prog 47 #[.slice A n c] w fun e w' => e = .returned (.bool (rightB d)) ∧ Below w.heap.size w w' := by
  have HD := Lib.hid hd
  by_cases hbig : 4096 < n
  · have hf : rightB d = false := by
      rw [Bool.eq_false_iff]; intro e; have := (rightB_true.1 e).1; omega
    have HF := Lib.hid hf
    clear hf hd
    go_enter Try.func47, Try.ntmps47
    go_wp2
    go_ret
    exact ⟨by rw [HF.out]; rfl, Below.refl _ _⟩
  · clear hd
    go_enter Try.func47, Try.ntmps47
    go_wp2
    go_loopw [10] (fun i wr => ∃ k : Nat, k ≤ n ∧ i = .int .i64 k ∧ Hid (∀ j, j < k → stepB d j = true) ∧ Below w.heap.size w wr) (fun i _ => n - (intOf i).toNat)
    case atStart => exact ⟨0, by omega, rfl, (fun j hj => by omega), Below.refl _ _⟩
    case round =>
      obtain ⟨k, hk, rfl, HQ, hB⟩ := hrel
      by_cases hkn : k < n
      · obtain ⟨ad, rfl, hab, c0, c1, c2, c3, c4⟩ := (h.below hB).lst.atRg HD.out hkn
        obtain ⟨x, hx⟩ : ∃ x, gRg d k = x := ⟨_, rfl⟩
        rw [hx] at c0 c1 c2 c3 c4
        have HX := Lib.hid hx
        clear hx
        have hBa : Below wr.heap.size wr (wr.alloc (.cells #[.int .i64 x.fr, .int .i64 x.tn, .int .i64 x.st, .int .i64 x.en, .int .i64 x.ow] 59)) := by (repeat (first | exact Below.refl _ _ | refine Below.alloc ?_ (by first | omega | (simp; done) | (simp; omega)) _ | refine Below.setCell ?_ (by first | omega | (simp; done) | (simp; omega)) _ | refine Below.drew ?_))
        have hX := Blok.new wr 59 #[.int .i64 x.fr, .int .i64 x.tn, .int .i64 x.st, .int .i64 x.en, .int .i64 x.ow]
        have hB2 := hB.trans (hBa.mono hB.size)
        have hsx := hB2.size
        have hbb : wr.heap.size < (wr.alloc (.cells #[.int .i64 x.fr, .int .i64 x.tn, .int .i64 x.st, .int .i64 x.en, .int .i64 x.ow] 59)).heap.size := by simp
        have habw : ad.block < (wr.alloc (.cells #[.int .i64 x.fr, .int .i64 x.tn, .int .i64 x.st, .int .i64 x.en, .int .i64 x.ow] 59)).heap.size := by have := hB.size; simp; omega
        clear hBa
        go_wp2_with fail
        clear c0 c1 c2 c3 c4 hB
        have hB := hB2
        clear hB2
        generalize wr.alloc (.cells #[.int .i64 x.fr, .int .i64 x.tn, .int .i64 x.st, .int .i64 x.en, .int .i64 x.ow] 59) = wx at *
        generalize wr.heap.size = bb at *
        have x0 : wx.cell? ⟨bb, 0, none⟩ = some (.int .i64 x.fr) := hX.cell 0
        have x1 : wx.cell? ⟨bb, 1, none⟩ = some (.int .i64 x.tn) := hX.cell 1
        have x2 : wx.cell? ⟨bb, 2, none⟩ = some (.int .i64 x.st) := hX.cell 2
        have x3 : wx.cell? ⟨bb, 3, none⟩ = some (.int .i64 x.en) := hX.cell 3
        have x4 : wx.cell? ⟨bb, 4, none⟩ = some (.int .i64 x.ow) := hX.cell 4
        clear hX
        cases ho : okR x with
        | false =>
          have HO := Lib.hid ho
          have hf : rightB d = false := rightB_false (i := k) (by have := HD.out; omega) (by unfold stepB; rw [HX.out, ho]; rfl)
          have HF := Lib.hid hf
          clear ho hf
          go_wp2_with fail
          have q_x0 := fun d os => cell_regrown x0 d os
          have q_x1 := fun d os => cell_regrown x1 d os
          have q_x2 := fun d os => cell_regrown x2 d os
          have q_x3 := fun d os => cell_regrown x3 d os
          have q_x4 := fun d os => cell_regrown x4 d os
          try simp only [List.append]
          first | refine wp_region_text_below ?_ | refine wp_region_quiet_below (by kernel_rfl) (by kernel_rfl) ?_
          repeat (go_big_quiet_step ((first | (go_at_call 77; with_reducible exact Calls.regrown_of (okR_call x _ _ HO.out)) | (go_at_call 78; with_reducible exact Calls.regrown_of (HY.out ▸ cmpR_any z x _)) | (go_at_call 79; with_reducible exact Calls.regrown_of (HV.out ▸ over_any z x _)))))
          refine wpQuiet_nil ?_
          intro _ hqw
          obtain ⟨pq, hqw⟩ := hqw
          subst hqw
          clear q_x0 q_x1 q_x2 q_x3 q_x4
          have hbel := below_regrown wx pq.d pq.os
          replace hB := hB.trans (hbel.mono hsx)
          clear hbel x0 x1 x2 x3 x4
          generalize grow (redrawn wx pq.d) pq.os = wq at *
          go_wp2
          go_ret
          exact ⟨by rw [HF.out]; rfl, hB⟩
        | true =>
          have HO := Lib.hid ho
          clear ho
          have hcase : k = 0 ∨ ∃ p, k = p + 1 := by cases k with | zero => exact .inl rfl | succ p => exact .inr ⟨p, rfl⟩
          rcases hcase with rfl | ⟨p, rfl⟩
          · have hd0 : decide (((0 : Nat) : Int) > 0) = false := by simp
            have hN : ∀ j, j < 0 + 1 → stepB d j = true := fun j hj => by
              obtain rfl : j = 0 := by omega
              unfold stepB
              rw [HX.out, HO.out]; rfl
            have HN := Lib.hid hN
            clear hN
            go_wp2_with fail
            have q_x0 := fun d os => cell_regrown x0 d os
            have q_x1 := fun d os => cell_regrown x1 d os
            have q_x2 := fun d os => cell_regrown x2 d os
            have q_x3 := fun d os => cell_regrown x3 d os
            have q_x4 := fun d os => cell_regrown x4 d os
            try simp only [List.append]
            first | refine wp_region_text_below ?_ | refine wp_region_quiet_below (by kernel_rfl) (by kernel_rfl) ?_
            repeat (go_big_quiet_step ((first | (go_at_call 77; with_reducible exact Calls.regrown_of (okR_call x _ _ HO.out)) | (go_at_call 78; with_reducible exact Calls.regrown_of (HY.out ▸ cmpR_any z x _)) | (go_at_call 79; with_reducible exact Calls.regrown_of (HV.out ▸ over_any z x _)))))
            refine wpQuiet_nil ?_
            intro _ hqw
            obtain ⟨pq, hqw⟩ := hqw
            subst hqw
            clear q_x0 q_x1 q_x2 q_x3 q_x4
            have hbel := below_regrown wx pq.d pq.os
            replace hB := hB.trans (hbel.mono hsx)
            clear hbel x0 x1 x2 x3 x4
            generalize grow (redrawn wx pq.d) pq.os = wq at *
            go_wp2
            go_roundw
            case rel => exact ⟨0 + 1, by omega, by go_num, HN.out, hB⟩
            case measure => simp [intOf]; omega
          · have hd0 : decide (((p + 1 : Nat) : Int) > 0) = true := decide_eq_true (by omega)
            obtain ⟨ad', hae, hab', z0, z1, z2, z3, z4⟩ := (h.below hB).lst.atRg HD.out (k := p) (by omega)
            injection hae with hae
            subst hae
            obtain ⟨z, hz⟩ : ∃ z, gRg d p = z := ⟨_, rfl⟩
            rw [hz] at z0 z1 z2 z3 z4
            obtain ⟨y, hy⟩ : ∃ y, cmpR z x = y := ⟨_, rfl⟩
            obtain ⟨v, hv⟩ : ∃ v, overR z x = v := ⟨_, rfl⟩
            have hst : stepB d (p + 1) = (decide (y < 0) && !v) := by
              unfold stepB
              rw [Nat.add_sub_cancel, HX.out, hz, hy, hv, HO.out]; simp
            have HY := Lib.hid hy
            have HV := Lib.hid hv
            have HST := Lib.hid hst
            clear hz hy hv hst
            by_cases hy0 : y < 0
            · have hdy : decide (0 ≤ y) = false := by simp; omega
              cases v
              · have hN : ∀ j, j < p + 1 + 1 → stepB d j = true := fun j hj => by
                  by_cases e : j = p + 1
                  · rw [e, HST.out]; simp [hy0]
                  · exact HQ.out j (by omega)
                have HN := Lib.hid hN
                clear hN
                go_wp2_with fail
                have q_x0 := fun d os => cell_regrown x0 d os
                have q_x1 := fun d os => cell_regrown x1 d os
                have q_x2 := fun d os => cell_regrown x2 d os
                have q_x3 := fun d os => cell_regrown x3 d os
                have q_x4 := fun d os => cell_regrown x4 d os
                have q_z0 := fun d os => cell_regrown z0 d os
                have q_z1 := fun d os => cell_regrown z1 d os
                have q_z2 := fun d os => cell_regrown z2 d os
                have q_z3 := fun d os => cell_regrown z3 d os
                have q_z4 := fun d os => cell_regrown z4 d os
                try simp only [List.append]
                first | refine wp_region_text_below ?_ | refine wp_region_quiet_below (by kernel_rfl) (by kernel_rfl) ?_
                repeat (go_big_quiet_step ((first | (go_at_call 77; with_reducible exact Calls.regrown_of (okR_call x _ _ HO.out)) | (go_at_call 78; with_reducible exact Calls.regrown_of (HY.out ▸ cmpR_any z x _)) | (go_at_call 79; with_reducible exact Calls.regrown_of (HV.out ▸ over_any z x _)))))
                refine wpQuiet_nil ?_
                intro _ hqw
                obtain ⟨pq, hqw⟩ := hqw
                subst hqw
                clear q_x0 q_x1 q_x2 q_x3 q_x4 q_z0 q_z1 q_z2 q_z3 q_z4
                have hbel := below_regrown wx pq.d pq.os
                replace hB := hB.trans (hbel.mono hsx)
                clear hbel x0 x1 x2 x3 x4 z0 z1 z2 z3 z4
                generalize grow (redrawn wx pq.d) pq.os = wq at *
                go_wp2
                go_roundw
                case rel => exact ⟨(p + 1) + 1, by omega, by go_num, HN.out, hB⟩
                case measure => simp [intOf]; omega
              · have hf : rightB d = false := rightB_false (i := p + 1) (by have := HD.out; omega) (by rw [HST.out]; simp)
                have HF := Lib.hid hf
                clear hf
                go_wp2_with fail
                have q_x0 := fun d os => cell_regrown x0 d os
                have q_x1 := fun d os => cell_regrown x1 d os
                have q_x2 := fun d os => cell_regrown x2 d os
                have q_x3 := fun d os => cell_regrown x3 d os
                have q_x4 := fun d os => cell_regrown x4 d os
                have q_z0 := fun d os => cell_regrown z0 d os
                have q_z1 := fun d os => cell_regrown z1 d os
                have q_z2 := fun d os => cell_regrown z2 d os
                have q_z3 := fun d os => cell_regrown z3 d os
                have q_z4 := fun d os => cell_regrown z4 d os
                try simp only [List.append]
                first | refine wp_region_text_below ?_ | refine wp_region_quiet_below (by kernel_rfl) (by kernel_rfl) ?_
                repeat (go_big_quiet_step ((first | (go_at_call 77; with_reducible exact Calls.regrown_of (okR_call x _ _ HO.out)) | (go_at_call 78; with_reducible exact Calls.regrown_of (HY.out ▸ cmpR_any z x _)) | (go_at_call 79; with_reducible exact Calls.regrown_of (HV.out ▸ over_any z x _)))))
                refine wpQuiet_nil ?_
                intro _ hqw
                obtain ⟨pq, hqw⟩ := hqw
                subst hqw
                clear q_x0 q_x1 q_x2 q_x3 q_x4 q_z0 q_z1 q_z2 q_z3 q_z4
                have hbel := below_regrown wx pq.d pq.os
                replace hB := hB.trans (hbel.mono hsx)
                clear hbel x0 x1 x2 x3 x4 z0 z1 z2 z3 z4
                generalize grow (redrawn wx pq.d) pq.os = wq at *
                go_wp2
                go_ret
                exact ⟨by rw [HF.out]; rfl, hB⟩
            · have hdy : decide (0 ≤ y) = true := by simp; omega
              have hf : rightB d = false := rightB_false (i := p + 1) (by have := HD.out; omega) (by rw [HST.out]; simp; omega)
              have HF := Lib.hid hf
              clear hf
              go_wp2_with fail
              have q_x0 := fun d os => cell_regrown x0 d os
              have q_x1 := fun d os => cell_regrown x1 d os
              have q_x2 := fun d os => cell_regrown x2 d os
              have q_x3 := fun d os => cell_regrown x3 d os
              have q_x4 := fun d os => cell_regrown x4 d os
              have q_z0 := fun d os => cell_regrown z0 d os
              have q_z1 := fun d os => cell_regrown z1 d os
              have q_z2 := fun d os => cell_regrown z2 d os
              have q_z3 := fun d os => cell_regrown z3 d os
              have q_z4 := fun d os => cell_regrown z4 d os
              try simp only [List.append]
              first | refine wp_region_text_below ?_ | refine wp_region_quiet_below (by kernel_rfl) (by kernel_rfl) ?_
              repeat (go_big_quiet_step ((first | (go_at_call 77; with_reducible exact Calls.regrown_of (okR_call x _ _ HO.out)) | (go_at_call 78; with_reducible exact Calls.regrown_of (HY.out ▸ cmpR_any z x _)) | (go_at_call 79; with_reducible exact Calls.regrown_of (HV.out ▸ over_any z x _)))))
              refine wpQuiet_nil ?_
              intro _ hqw
              obtain ⟨pq, hqw⟩ := hqw
              subst hqw
              clear q_x0 q_x1 q_x2 q_x3 q_x4 q_z0 q_z1 q_z2 q_z3 q_z4
              have hbel := below_regrown wx pq.d pq.os
              replace hB := hB.trans (hbel.mono hsx)
              clear hbel x0 x1 x2 x3 x4 z0 z1 z2 z3 z4
              generalize grow (redrawn wx pq.d) pq.os = wq at *
              go_wp2
              go_ret
              exact ⟨by rw [HF.out]; rfl, hB⟩
      · obtain rfl : k = n := by omega
        have hf : rightB d = true := rightB_true.2 ⟨by have := HD.out; omega, fun i hi => HQ.out i (by have := HD.out; omega)⟩
        have HF := Lib.hid hf
        clear hf
        go_wp2
        go_ret
        exact ⟨by rw [HF.out]; rfl, hB⟩
end Go.Proofs.Ytfdphpmcgidmiaa.Kr

/- sort.Search; package ranges: Owlt. -/
namespace Go.Proofs.Ytfdphpmcgidmiaa.Kr
open Go.ChangeShapes Go.WideShapes Go.ChangeAt Go.RowKit Go.Sort
set_option linter.unusedSimpArgs false
set_option linter.unusedVariables false
/-- A function value that tells p of places below n, in whatever world that has grown from W. -/
structure PredI (g : FuncId) (lb : Array Value) (n : Nat) (W : World) (p : Nat → Bool) : Prop where
  run : ∀ vals w, (callFunc g vals).run Try.prog w = .ok (.enter g vals) w
  tells : ∀ w', Below W.heap.size W w' → ∀ i : Nat, i < n → Calls Try.prog g (#[.int .i64 i] ++ lb) w' fun e w'' => e = .returned (.bool (p i)) ∧ Below w'.heap.size w' w''
set_option maxHeartbeats 1000000 in
set_option maxRecDepth 100000 in
theorem search_any (n : Nat) (g : FuncId) (lb : Array Value) (p : Nat → Bool) (w : World) (hn : n ≤ 1000000) (hp : PredI g lb n w p) :
    Calls Try.prog 56 #[.int .i64 n, .func (.func g) #[] lb] w fun e w' => ∃ i : Nat, e = .returned (.int .i64 i) ∧ i ≤ n ∧ (i = 0 ∨ p (i - 1) = false) ∧ (i = n ∨ p i = true) ∧ Below w.heap.size w w' := by
  have hcf := hp.run
  have HP := Lib.hid hp
  clear hp
  go_enter Try.func56, Try.ntmps56
  go_wp2
  go_loopw [5, 6] (fun iv jv wr => ∃ i j : Nat, iv = .int .i64 i ∧ jv = .int .i64 j ∧ i ≤ j ∧ j ≤ n ∧ Hid (i = 0 ∨ p (i - 1) = false) ∧ Hid (j = n ∨ p j = true) ∧ Below w.heap.size w wr) (fun iv jv _ => (intOf jv - intOf iv).toNat)
  case atStart => exact ⟨0, n, rfl, rfl, by omega, Nat.le_refl _, .inl rfl, .inl rfl, Below.refl _ _⟩
  case round =>
    obtain ⟨i, j, rfl, rfl, hij, hjn, HI, HJ, hB⟩ := hrel
    have hs := hB.size
    by_cases hlt : i < j
    · obtain ⟨m, hm⟩ : ∃ m : Nat, (i + j) / 2 = m := ⟨_, rfl⟩
      have hmi : ((i : Int) + (j : Int)) / 2 = (m : Int) := by omega
      have hm1 : i ≤ m := by omega
      have hm2 : m < j := by omega
      have HM := Lib.hid hmi
      clear hm hmi
      have ht := HP.out.tells wr hB m (by omega)
      cases hpm : p m
      all_goals
        rw [hpm] at ht
        have HPM := Lib.hid hpm
        have HT := Lib.hid ht
        clear hpm ht
        go_wp2_with fail
        rw [HM.out]
        refine HT.out.mono ?_
        rintro e w1 ⟨rfl, hb1⟩
        have hB2 := hB.trans (hb1.mono hs)
        clear hb1 hB
        go_wp2
        go_roundw
        case rel => first
          | exact ⟨m + 1, j, by go_num, rfl, by omega, by omega, (.inr (by rw [Nat.add_sub_cancel]; exact HPM.out)), HJ, hB2⟩
          | exact ⟨i, m, rfl, rfl, by omega, by omega, HI, (.inr HPM.out), hB2⟩
        case measure => simp [intOf]; omega
    · obtain rfl : i = j := by omega
      go_wp2
      go_ret
      exact ⟨i, rfl, hjn, HI.out, HJ.out, hB⟩
def passP (d : List Rg) (cf ct ce : Int) (i : Nat) : Bool := decide (0 < waysI (gRg d i) ⟨cf, ct, 0, 0, 0⟩) || (waysI (gRg d i) ⟨cf, ct, 0, 0, 0⟩ == 0 && decide (ce ≤ (gRg d i).en))
set_option maxHeartbeats 1000000 in
set_option maxRecDepth 100000 in
theorem owlt1_any (A : Option Addr) (n c : Nat) (d : List Rg) (ci cf ct cs ce cr : Int) (i gl gw gc : Nat) (w : World) (hd : d.length = n) (hn : n ≤ 1000000) (h : Sl w w.heap.size 5 A n c (flatRg d)) (hi : i < n)
    (hL : Blok w gl 23 #[.slice A n c]) (hW : Blok w gw 59 #[.int .i64 cf, .int .i64 ct, .int .i64 0, .int .i64 0, .int .i64 0]) (hC : Blok w gc 28 #[.int .i64 ci, .int .i64 cf, .int .i64 ct, .int .i64 cs, .int .i64 ce, .int .i64 cr]) :
    Calls Try.prog 57 #[.int .i64 i, .pointer (some ⟨gl, 0, none⟩), .pointer (some ⟨gw, 0, none⟩), .pointer (some ⟨gc, 0, none⟩)] w fun e w' => e = .returned (.bool (passP d cf ct ce i)) ∧ Below w.heap.size w w' := by
  obtain ⟨ad, rfl, hab, c0, c1, c2, c3, c4⟩ := h.lst.atRg hd hi
  obtain ⟨x, hx⟩ : ∃ x, gRg d i = x := ⟨_, rfl⟩
  rw [hx] at c0 c1 c2 c3 c4
  obtain ⟨y, hy⟩ : ∃ y, waysI x ⟨cf, ct, 0, 0, 0⟩ = y := ⟨_, rfl⟩
  have hfin : passP d cf ct ce i = (decide (0 < y) || (y == 0 && decide (ce ≤ x.en))) := by unfold passP; rw [hx, hy]
  rw [hfin]
  have HY := Lib.hid hy
  have l0 : w.cell? ⟨gl, 0, none⟩ = some (.slice (some ad) n c) := hL.cell 0
  have w0 : w.cell? ⟨gw, 0, none⟩ = some (.int .i64 cf) := hW.cell 0
  have w1 : w.cell? ⟨gw, 1, none⟩ = some (.int .i64 ct) := hW.cell 1
  have w2 : w.cell? ⟨gw, 2, none⟩ = some (.int .i64 0) := hW.cell 2
  have w3 : w.cell? ⟨gw, 3, none⟩ = some (.int .i64 0) := hW.cell 3
  have w4 : w.cell? ⟨gw, 4, none⟩ = some (.int .i64 0) := hW.cell 4
  have k4 : w.cell? ⟨gc, 4, none⟩ = some (.int .i64 ce) := hC.cell 4
  have hil : (i : Int) < (n : Int) := by omega
  clear hx hy hfin hd hL hW hC
  go_enter Try.func57, Try.ntmps57
  go_wp2_with fail
  have q_l0 := fun d os => cell_regrown l0 d os
  have q_w0 := fun d os => cell_regrown w0 d os
  have q_w1 := fun d os => cell_regrown w1 d os
  have q_w2 := fun d os => cell_regrown w2 d os
  have q_w3 := fun d os => cell_regrown w3 d os
  have q_w4 := fun d os => cell_regrown w4 d os
  have q_c0 := fun d os => cell_regrown c0 d os
  have q_c1 := fun d os => cell_regrown c1 d os
  have q_c2 := fun d os => cell_regrown c2 d os
  have q_c3 := fun d os => cell_regrown c3 d os
  have q_c4 := fun d os => cell_regrown c4 d os
  try simp only [List.append]
  first | refine wp_region_text_below ?_ | refine wp_region_quiet_below (by kernel_rfl) (by kernel_rfl) ?_
  repeat (go_big_quiet_step ((go_at_call 58; with_reducible exact Calls.regrown_of (HY.out ▸ ways_any x ⟨cf, ct, 0, 0, 0⟩ _))))
  refine wpQuiet_nil ?_
  intro _ hqw
  obtain ⟨pq, hqw⟩ := hqw
  subst hqw
  clear q_l0 q_w0 q_w1 q_w2 q_w3 q_w4 q_c0 q_c1 q_c2 q_c3 q_c4
  have hB := below_regrown w pq.d pq.os
  have l0' : (grow (redrawn w pq.d) pq.os).cell? ⟨gl, 0, none⟩ = some (.slice (some ad) n c) := cell_regrown l0 _ _
  have k4' : (grow (redrawn w pq.d) pq.os).cell? ⟨gc, 4, none⟩ = some (.int .i64 ce) := cell_regrown k4 _ _
  have c3' : (grow (redrawn w pq.d) pq.os).cell? ⟨(ad.add (i * 5)).block, (ad.add (i * 5)).off + 3, none⟩ = some (.int .i64 x.en) := cell_regrown c3 _ _
  clear l0 w0 w1 w2 w3 w4 c0 c1 c2 c3 c4 k4 h
  generalize grow (redrawn w pq.d) pq.os = wq at *
  have hs := hB.size
  by_cases hy1 : 0 < y
  · have hd1 : decide (0 < y) = true := by simpa using hy1
    go_wp2_with fail
    have q_l0' := fun d os => cell_regrown l0' d os
    have q_k4' := fun d os => cell_regrown k4' d os
    have q_c3' := fun d os => cell_regrown c3' d os
    try simp only [List.append]
    first | refine wp_region_text_below ?_ | refine wp_region_quiet_below (by kernel_rfl) (by kernel_rfl) ?_
    repeat (go_big_quiet_step ((fail)))
    refine wpQuiet_nil ?_
    intro _ hqw
    obtain ⟨pq, hqw⟩ := hqw
    subst hqw
    clear q_l0' q_k4' q_c3'
    have hb2 := below_regrown wq pq.d pq.os
    go_wp2
    go_ret
    exact ⟨by simp [hd1], hB.trans (hb2.mono hs)⟩
  · have hd1 : decide (0 < y) = false := by simpa using hy1
    by_cases hy0 : y = 0
    · have hd2 : (y == 0) = true := by simpa using hy0
      go_wp2_with fail
      have q_l0' := fun d os => cell_regrown l0' d os
      have q_k4' := fun d os => cell_regrown k4' d os
      have q_c3' := fun d os => cell_regrown c3' d os
      try simp only [List.append]
      first | refine wp_region_text_below ?_ | refine wp_region_quiet_below (by kernel_rfl) (by kernel_rfl) ?_
      repeat (go_big_quiet_step ((fail)))
      refine wpQuiet_nil ?_
      intro _ hqw
      obtain ⟨pq, hqw⟩ := hqw
      subst hqw
      clear q_l0' q_k4' q_c3'
      have hb2 := below_regrown wq pq.d pq.os
      go_wp2
      go_ret
      exact ⟨by simp [hd1, hd2], hB.trans (hb2.mono hs)⟩
    · have hd2 : (y == 0) = false := by simpa using hy0
      go_wp2_with fail
      have q_l0' := fun d os => cell_regrown l0' d os
      have q_k4' := fun d os => cell_regrown k4' d os
      have q_c3' := fun d os => cell_regrown c3' d os
      try simp only [List.append]
      first | refine wp_region_text_below ?_ | refine wp_region_quiet_below (by kernel_rfl) (by kernel_rfl) ?_
      repeat (go_big_quiet_step ((fail)))
      refine wpQuiet_nil ?_
      intro _ hqw
      obtain ⟨pq, hqw⟩ := hqw
      subst hqw
      clear q_l0' q_k4' q_c3'
      have hb2 := below_regrown wq pq.d pq.os
      go_wp2
      go_ret
      exact ⟨by simp [hd1, hd2], hB.trans (hb2.mono hs)⟩
theorem pred_owlt (A : Option Addr) (n c : Nat) (d : List Rg) (ci cf ct cs ce cr : Int) (gl gw gc : Nat) (w : World) (hd : d.length = n) (hn : n ≤ 1000000) (h : Sl w w.heap.size 5 A n c (flatRg d))
    (hL : Blok w gl 23 #[.slice A n c]) (hW : Blok w gw 59 #[.int .i64 cf, .int .i64 ct, .int .i64 0, .int .i64 0, .int .i64 0]) (hC : Blok w gc 28 #[.int .i64 ci, .int .i64 cf, .int .i64 ct, .int .i64 cs, .int .i64 ce, .int .i64 cr]) :
    PredI 57 #[.pointer (some ⟨gl, 0, none⟩), .pointer (some ⟨gw, 0, none⟩), .pointer (some ⟨gc, 0, none⟩)] n w (passP d cf ct ce) :=
  ⟨enter_run Try.func57 rfl rfl, fun w' hb i hi => owlt1_any A n c d ci cf ct cs ce cr i gl gw gc w' hd hn (h.up hb) hi (hL.below hb hL.lt) (hW.below hb hW.lt) (hC.below hb hC.lt)⟩
end Go.Proofs.Ytfdphpmcgidmiaa.Kr

/- Package ranges: Owlt. -/
namespace Go.Proofs.Ytfdphpmcgidmiaa.Kr
open Go.ChangeShapes Go.WideShapes Go.ChangeAt Go.RowKit Go.Sort
set_option linter.unusedSimpArgs false
set_option linter.unusedVariables false
def owR (d : List Rg) (cf ct cs : Int) (n i : Nat) : Int × Bool := if i = n ∨ waysI (gRg d i) ⟨cf, ct, 0, 0, 0⟩ ≠ 0 ∨ cs < (gRg d i).st then (0, false) else ((gRg d i).ow, true)
/-- The place that is asked. -/
def AskAt (d : List Rg) (cf ct ce : Int) (n i : Nat) : Prop := i ≤ n ∧ (i = 0 ∨ passP d cf ct ce (i - 1) = false) ∧ (i = n ∨ passP d cf ct ce i = true)
set_option maxHeartbeats 2000000 in
set_option maxRecDepth 100000 in
theorem owlt_any (A : Option Addr) (n c : Nat) (d : List Rg) (ci cf ct cs ce cr : Int) (w : World) (hd : d.length = n) (hn : n ≤ 1000000) (h : Sl w w.heap.size 5 A n c (flatRg d)) :
    Calls Try.prog 28 #[.slice A n c, .agg #[.int .i64 ci, .int .i64 cf, .int .i64 ct, .int .i64 cs, .int .i64 ce, .int .i64 cr]] w fun e w' => ∃ i o b, e = .returned (.tuple #[.int .i64 o, .bool b]) ∧ AskAt d cf ct ce n i ∧ owR d cf ct cs n i = (o, b) ∧ Below w.heap.size w w' := by
  have HD := Lib.hid hd
  have hB : Below w.heap.size w (((w.alloc (.cells #[.slice A n c] 23)).alloc (.cells #[.int .i64 ci, .int .i64 cf, .int .i64 ct, .int .i64 cs, .int .i64 ce, .int .i64 cr] 28)).alloc (.cells #[.int .i64 cf, .int .i64 ct, .int .i64 0, .int .i64 0, .int .i64 0] 59)) := by (repeat (first | exact Below.refl _ _ | refine Below.alloc ?_ (by first | omega | (simp; done) | (simp; omega)) _ | refine Below.setCell ?_ (by first | omega | (simp; done) | (simp; omega)) _ | refine Below.drew ?_))
  have hL := ((Blok.new w 23 #[.slice A n c]).alloc (.cells #[.int .i64 ci, .int .i64 cf, .int .i64 ct, .int .i64 cs, .int .i64 ce, .int .i64 cr] 28)).alloc (.cells #[.int .i64 cf, .int .i64 ct, .int .i64 0, .int .i64 0, .int .i64 0] 59)
  have hC := (Blok.new (w.alloc (.cells #[.slice A n c] 23)) 28 #[.int .i64 ci, .int .i64 cf, .int .i64 ct, .int .i64 cs, .int .i64 ce, .int .i64 cr]).alloc (.cells #[.int .i64 cf, .int .i64 ct, .int .i64 0, .int .i64 0, .int .i64 0] 59)
  have hW := Blok.new ((w.alloc (.cells #[.slice A n c] 23)).alloc (.cells #[.int .i64 ci, .int .i64 cf, .int .i64 ct, .int .i64 cs, .int .i64 ce, .int .i64 cr] 28)) 59 #[.int .i64 cf, .int .i64 ct, .int .i64 0, .int .i64 0, .int .i64 0]
  simp only [World.size_alloc] at hC hW
  have hs := h.up hB
  have hz := hB.size
  clear h hd
  go_enter Try.func28, Try.ntmps28
  go_wp2_with fail
  generalize (((w.alloc (.cells #[.slice A n c] 23)).alloc (.cells #[.int .i64 ci, .int .i64 cf, .int .i64 ct, .int .i64 cs, .int .i64 ce, .int .i64 cr] 28)).alloc (.cells #[.int .i64 cf, .int .i64 ct, .int .i64 0, .int .i64 0, .int .i64 0] 59)) = w2 at *
  refine (search_any n _ _ _ w2 hn (pred_owlt A n c d ci cf ct cs ce cr _ _ _ w2 HD.out hn hs hL hW hC)).mono ?_
  rintro e w3 ⟨i, rfl, hi, h1, h2, hb3⟩
  have HA : Hid (AskAt d cf ct ce n i) := ⟨hi, h1, h2⟩
  replace hL := hL.below hb3 hL.lt
  replace hC := hC.below hb3 hC.lt
  replace hW := hW.below hb3 hW.lt
  replace hs := hs.up hb3
  replace hB := hB.trans (hb3.mono hz)
  replace hz := hB.size
  clear hb3 h1 h2
  have l0 : w3.cell? ⟨w.heap.size, 0, none⟩ = some (.slice A n c) := hL.cell 0
  by_cases hin : i = n
  · subst hin
    have hib : ((i : Int) == (i : Int)) = true := by simp
    have hr : owR d cf ct cs i i = (0, false) := by unfold owR; rw [if_pos (.inl rfl)]
    have HR := Lib.hid hr
    clear hr hL hC hW hs
    go_wp2_with fail
    have q_l0 := fun d os => cell_regrown l0 d os
    try simp only [List.append]
    first | refine wp_region_text_below ?_ | refine wp_region_quiet_below (by kernel_rfl) (by kernel_rfl) ?_
    repeat (go_big_quiet_step ((fail)))
    refine wpQuiet_nil ?_
    intro _ hqw
    obtain ⟨pq, hqw⟩ := hqw
    subst hqw
    clear q_l0
    have hb4 := below_regrown w3 pq.d pq.os
    go_wp2
    go_ret2
    exact ⟨i, 0, false, rfl, HA.out, HR.out, hB.trans (hb4.mono hz)⟩
  · have hib : ((i : Int) == (n : Int)) = false := beq_eq_false_iff_ne.2 (by omega)
    have hil : i < n := by omega
    have hilI : (i : Int) < (n : Int) := by omega
    obtain ⟨ad, rfl, hab, c0, c1, c2, c3, c4⟩ := hs.lst.atRg HD.out hil
    obtain ⟨x, hx⟩ : ∃ x, gRg d i = x := ⟨_, rfl⟩
    rw [hx] at c0 c1 c2 c3 c4
    obtain ⟨y, hy⟩ : ∃ y, waysI x ⟨cf, ct, 0, 0, 0⟩ = y := ⟨_, rfl⟩
    have w0 : w3.cell? ⟨w.heap.size + 1 + 1, 0, none⟩ = some (.int .i64 cf) := hW.cell 0
    have w1 : w3.cell? ⟨w.heap.size + 1 + 1, 1, none⟩ = some (.int .i64 ct) := hW.cell 1
    have w2' : w3.cell? ⟨w.heap.size + 1 + 1, 2, none⟩ = some (.int .i64 0) := hW.cell 2
    have w3' : w3.cell? ⟨w.heap.size + 1 + 1, 3, none⟩ = some (.int .i64 0) := hW.cell 3
    have w4' : w3.cell? ⟨w.heap.size + 1 + 1, 4, none⟩ = some (.int .i64 0) := hW.cell 4
    have k3 : w3.cell? ⟨w.heap.size + 1, 3, none⟩ = some (.int .i64 cs) := hC.cell 3
    have HX := Lib.hid hx
    have HY := Lib.hid hy
    clear hL hC hW
    by_cases hy0 : y = 0
    · have hyb : (y != 0) = false := by simp [hy0]
      by_cases hst : cs < x.st
      · have hdst : decide (cs < x.st) = true := by simpa using hst
        have hr : owR d cf ct cs n i = (0, false) := by unfold owR; rw [if_pos (.inr (.inr (by rw [hx]; exact hst)))]
        have HR := Lib.hid hr
        clear hr hx hy hy0 hs
        go_wp2_with fail
        have q_l0 := fun d os => cell_regrown l0 d os
        have q_w0 := fun d os => cell_regrown w0 d os
        have q_w1 := fun d os => cell_regrown w1 d os
        have q_w2' := fun d os => cell_regrown w2' d os
        have q_w3' := fun d os => cell_regrown w3' d os
        have q_w4' := fun d os => cell_regrown w4' d os
        have q_k3 := fun d os => cell_regrown k3 d os
        have q_c0 := fun d os => cell_regrown c0 d os
        have q_c1 := fun d os => cell_regrown c1 d os
        have q_c2 := fun d os => cell_regrown c2 d os
        have q_c3 := fun d os => cell_regrown c3 d os
        have q_c4 := fun d os => cell_regrown c4 d os
        try simp only [List.append]
        first | refine wp_region_text_below ?_ | refine wp_region_quiet_below (by kernel_rfl) (by kernel_rfl) ?_
        repeat (go_big_quiet_step ((go_at_call 58; with_reducible exact Calls.regrown_of (HY.out ▸ ways_any x ⟨cf, ct, 0, 0, 0⟩ _))))
        refine wpQuiet_nil ?_
        intro _ hqw
        obtain ⟨pq, hqw⟩ := hqw
        subst hqw
        clear q_l0 q_w0 q_w1 q_w2' q_w3' q_w4' q_k3 q_c0 q_c1 q_c2 q_c3 q_c4
        have hb4 := below_regrown w3 pq.d pq.os
        clear c0 c1 c2 c3 c4 w0 w1 w2' w3' w4' k3 l0
        go_wp2
        go_ret2
        exact ⟨i, 0, false, rfl, HA.out, HR.out, hB.trans (hb4.mono hz)⟩
      · have hdst : decide (cs < x.st) = false := by simpa using hst
        have hr : owR d cf ct cs n i = (x.ow, true) := by
          unfold owR
          rw [if_neg, hx]
          rw [hx, hy]
          rintro (e | e | e)
          · exact hin e
          · exact e hy0
          · exact hst e
        have HR := Lib.hid hr
        clear hr hx hy hy0
        go_wp2_with fail
        have q_l0 := fun d os => cell_regrown l0 d os
        have q_w0 := fun d os => cell_regrown w0 d os
        have q_w1 := fun d os => cell_regrown w1 d os
        have q_w2' := fun d os => cell_regrown w2' d os
        have q_w3' := fun d os => cell_regrown w3' d os
        have q_w4' := fun d os => cell_regrown w4' d os
        have q_k3 := fun d os => cell_regrown k3 d os
        have q_c0 := fun d os => cell_regrown c0 d os
        have q_c1 := fun d os => cell_regrown c1 d os
        have q_c2 := fun d os => cell_regrown c2 d os
        have q_c3 := fun d os => cell_regrown c3 d os
        have q_c4 := fun d os => cell_regrown c4 d os
        try simp only [List.append]
        first | refine wp_region_text_below ?_ | refine wp_region_quiet_below (by kernel_rfl) (by kernel_rfl) ?_
        repeat (go_big_quiet_step ((go_at_call 58; with_reducible exact Calls.regrown_of (HY.out ▸ ways_any x ⟨cf, ct, 0, 0, 0⟩ _))))
        refine wpQuiet_nil ?_
        intro _ hqw
        obtain ⟨pq, hqw⟩ := hqw
        subst hqw
        clear q_l0 q_w0 q_w1 q_w2' q_w3' q_w4' q_k3 q_c0 q_c1 q_c2 q_c3 q_c4
        have hb4 := below_regrown w3 pq.d pq.os
        have l0' : (grow (redrawn w3 pq.d) pq.os).cell? ⟨w.heap.size, 0, none⟩ = some (.slice (some ad) n c) := cell_regrown l0 _ _
        have c4' : (grow (redrawn w3 pq.d) pq.os).cell? ⟨(ad.add (i * 5)).block, (ad.add (i * 5)).off + 4, none⟩ = some (.int .i64 x.ow) := cell_regrown c4 _ _
        clear c0 c1 c2 c3 c4 w0 w1 w2' w3' w4' k3 l0 hs
        generalize grow (redrawn w3 pq.d) pq.os = wq at *
        go_wp2
        go_ret2
        exact ⟨i, x.ow, true, rfl, HA.out, HR.out, hB.trans (hb4.mono hz)⟩
    · have hyb : (y != 0) = true := by simpa using hy0
      have hr : owR d cf ct cs n i = (0, false) := by unfold owR; rw [if_pos (.inr (.inl (by rw [hx, hy]; exact hy0)))]
      have HR := Lib.hid hr
      clear hr hx hy hy0 hs
      go_wp2_with fail
      have q_l0 := fun d os => cell_regrown l0 d os
      have q_w0 := fun d os => cell_regrown w0 d os
      have q_w1 := fun d os => cell_regrown w1 d os
      have q_w2' := fun d os => cell_regrown w2' d os
      have q_w3' := fun d os => cell_regrown w3' d os
      have q_w4' := fun d os => cell_regrown w4' d os
      have q_k3 := fun d os => cell_regrown k3 d os
      have q_c0 := fun d os => cell_regrown c0 d os
      have q_c1 := fun d os => cell_regrown c1 d os
      have q_c2 := fun d os => cell_regrown c2 d os
      have q_c3 := fun d os => cell_regrown c3 d os
      have q_c4 := fun d os => cell_regrown c4 d os
      try simp only [List.append]
      first | refine wp_region_text_below ?_ | refine wp_region_quiet_below (by kernel_rfl) (by kernel_rfl) ?_
      repeat (go_big_quiet_step ((go_at_call 58; with_reducible exact Calls.regrown_of (HY.out ▸ ways_any x ⟨cf, ct, 0, 0, 0⟩ _))))
      refine wpQuiet_nil ?_
      intro _ hqw
      obtain ⟨pq, hqw⟩ := hqw
      subst hqw
      clear q_l0 q_w0 q_w1 q_w2' q_w3' q_w4' q_k3 q_c0 q_c1 q_c2 q_c3 q_c4
      have hb4 := below_regrown w3 pq.d pq.os
      clear c0 c1 c2 c3 c4 w0 w1 w2' w3' w4' k3 l0
      go_wp2
      go_ret2
      exact ⟨i, 0, false, rfl, HA.out, HR.out, hB.trans (hb4.mono hz)⟩
end Go.Proofs.Ytfdphpmcgidmiaa.Kr

/- Contracts of the document's answer for layer 3: it answers what package check answers, at all arguments. -/
namespace Go.Proofs.Ytfdphpmcgidmiaa
open Go.ChangeShapes Go.WideShapes Go.ChangeAt Go.RowKit Go.Sort
set_option linter.unusedSimpArgs false
set_option linter.unusedVariables false

theorem ret_bool {a b : Bool} (h : a = b) : Ending.returned (.bool a) = .returned (.bool b) := by rw [h]

theorem rnode_any (n : Int) (w : World) :
    Calls Try.prog 84 #[.int .i64 n] w fun e w' => e = .returned (.bool (nodeB n)) ∧ w = w' := by
  by_cases h1 : 1 ≤ n <;> by_cases h2 : n ≤ 255 <;>
  · go_enter Try.func84, Try.ntmps84
    go_wp2
    go_ret
    exact ⟨by simp [nodeB, inB, h1, h2], rfl⟩

def pairB (fr tn st en : Int) : Bool := wayB fr tn && spanB st en
theorem pairB_spec {fr tn st en : Int} : pairB fr tn st en = true ↔ (1 ≤ fr ∧ fr ≤ 255) ∧ (1 ≤ tn ∧ tn ≤ 255) ∧ fr ≠ tn ∧ 0 ≤ st ∧ st < en ∧ en ≤ 2147483647 := by
  simp [pairB, wayB, nodeB, spanB, inB, and_assoc]

theorem pair_any (fr tn st en : Int) (w : World) :
    Calls Try.prog 68 #[.int .i64 fr, .int .i64 tn, .int .i64 st, .int .i64 en] w fun e w' => e = .returned (.bool (pairB fr tn st en)) ∧ w = w' := by
  go_enter Try.func68, Try.ntmps68
  go_wp2_with (go_at_call 84; refine (rnode_any _ _).mono ?_; rintro e w' ⟨rfl, rfl⟩)
  all_goals go_ret
  all_goals refine ⟨ret_bool ?_, rfl⟩
  all_goals first
    | (simp [pairB, wayB, spanB, *]; done)
    | (simp [pairB, wayB, spanB, *]; omega)
theorem pair_is {fr tn st en : Int} (b : Bool) (h : pairB fr tn st en = b) (w : World) :
    Calls Try.prog 68 #[.int .i64 fr, .int .i64 tn, .int .i64 st, .int .i64 en] w fun e w' => e = .returned (.bool b) ∧ w = w' := h ▸ pair_any fr tn st en w
theorem rcontact_any (id fr tn st en ra : Int) (w : World) :
    Calls Try.prog 38 #[.agg #[.int .i64 id, .int .i64 fr, .int .i64 tn, .int .i64 st, .int .i64 en, .int .i64 ra]] w fun e w' => e = .returned (.bool (contactB id fr tn st en ra)) ∧ Below w.heap.size w w' := by
  by_cases hp : pairB fr tn st en = true
  · have HP := Lib.hid hp
    have Hp := Lib.hid (pairB_spec.1 hp)
    clear hp
    go_enter Try.func38, Try.ntmps38
    go_wp2_with (go_at_call 68; refine (pair_is true HP.out _).mono ?_; rintro e w' ⟨rfl, rfl⟩)
    all_goals go_ret
    all_goals refine ⟨ret_bool ?_, (Below.refl _ _).alloc (Nat.le_refl _) _⟩
    all_goals
      have hp := Hp.out
      rw [Bool.eq_iff_iff, contactB_spec]
      simp only [decide_eq_true_eq, Bool.false_eq_true, iff_true, false_iff, true_iff]
      omega
  · have HP := Lib.hid (show pairB fr tn st en = false by simpa using hp)
    rw [pairB_spec] at hp
    have Hp := Lib.hid hp
    clear hp
    go_enter Try.func38, Try.ntmps38
    go_wp2_with (go_at_call 68; refine (pair_is false HP.out _).mono ?_; rintro e w' ⟨rfl, rfl⟩)
    go_ret
    have hp := Hp.out
    exact ⟨ret_bool (by symm; rw [Bool.eq_false_iff, ne_eq, contactB_spec]; omega), (Below.refl _ _).alloc (Nat.le_refl _) _⟩
theorem rcontact_is {id fr tn st en ra : Int} (b : Bool) (h : contactB id fr tn st en ra = b) (w : World) :
    Calls Try.prog 38 #[.agg #[.int .i64 id, .int .i64 fr, .int .i64 tn, .int .i64 st, .int .i64 en, .int .i64 ra]] w fun e w' => e = .returned (.bool b) ∧ Below w.heap.size w w' := h ▸ rcontact_any id fr tn st en ra w
theorem rrange_any (fr tn st en ow : Int) (w : World) :
    Calls Try.prog 61 #[.agg #[.int .i64 fr, .int .i64 tn, .int .i64 st, .int .i64 en, .int .i64 ow]] w fun e w' => e = .returned (.bool (rangeB fr tn st en ow)) ∧ Below w.heap.size w w' := by
  by_cases hp : pairB fr tn st en = true
  · have HP := Lib.hid hp
    have Hp := Lib.hid (pairB_spec.1 hp)
    clear hp
    go_enter Try.func61, Try.ntmps61
    go_wp2_with (go_at_call 68; refine (pair_is true HP.out _).mono ?_; rintro e w' ⟨rfl, rfl⟩)
    all_goals go_ret
    all_goals refine ⟨ret_bool ?_, (Below.refl _ _).alloc (Nat.le_refl _) _⟩
    all_goals
      have hp := Hp.out
      rw [Bool.eq_iff_iff, rangeB_spec]
      simp only [decide_eq_true_eq, Bool.false_eq_true, iff_true, false_iff, true_iff]
      omega
  · have HP := Lib.hid (show pairB fr tn st en = false by simpa using hp)
    rw [pairB_spec] at hp
    have Hp := Lib.hid hp
    clear hp
    go_enter Try.func61, Try.ntmps61
    go_wp2_with (go_at_call 68; refine (pair_is false HP.out _).mono ?_; rintro e w' ⟨rfl, rfl⟩)
    go_ret
    have hp := Hp.out
    exact ⟨ret_bool (by symm; rw [Bool.eq_false_iff, ne_eq, rangeB_spec]; omega), (Below.refl _ _).alloc (Nat.le_refl _) _⟩
theorem rvolume_any (id fr tn st en ra : Int) (w : World) :
    Calls Try.prog 71 #[.agg #[.int .i64 id, .int .i64 fr, .int .i64 tn, .int .i64 st, .int .i64 en, .int .i64 ra]] w fun e w' => e = .returned (.int .i64 (volumeF id fr tn st en ra)) ∧ Below w.heap.size w w' := by
  by_cases h : contactB id fr tn st en ra = true
  · have hv := volume_bounds h
    have hs := contactB_spec.1 h
    go_enter Try.func71, Try.ntmps71
    go_wp2_with (go_at_call 38; refine (rcontact_any _ _ _ _ _ _ _).mono ?_; rintro e w' ⟨rfl, hb⟩; obtain ⟨hc, hf⟩ := bcell hb)
    go_ret
    exact ⟨by simp [volumeF, h], ((Below.refl _ _).alloc (Nat.le_refl _) _).trans (hb.mono (by simp))⟩
  · go_enter Try.func71, Try.ntmps71
    go_wp2_with (go_at_call 38; refine (rcontact_any _ _ _ _ _ _ _).mono ?_; rintro e w' ⟨rfl, hb⟩)
    go_ret
    exact ⟨by simp [volumeF, h], ((Below.refl _ _).alloc (Nat.le_refl _) _).trans (hb.mono (by simp))⟩
end Go.Proofs.Ytfdphpmcgidmiaa

/- Layer 7's small case comes out right. No condition. -/
namespace Go.Proofs.Ytfdphpmcgidmiaa.Kr
open Go.ChangeShapes Go.WideShapes Go.ChangeAt Go.RowKit Go.Sort
set_option linter.unusedSimpArgs false
set_option linter.unusedVariables false
theorem own_below {w w' : World} {base : Nat} {e : TypeId} {size n : Nat} {v : Value} {xs : List Value} (h : w.ownsRow base e size v n xs) (hb : Below w.heap.size w w') : w'.ownsRow base e size v n xs :=
  h.kept (grown_of_below (row := some w.heap.size) hb) (.inr (fun e => by have := (h.lt _ e).2; omega))
instance (d : List Rg) (cf ct ce : Int) (n i : Nat) : Decidable (AskAt d cf ct ce n i) := by unfold AskAt; infer_instance
theorem add_first {d : List Rg} {r : Rg} {n i : Nat} (q : Nat) (hi : i ≤ n) (h1 : i = 0 ∨ cmpR (gRg d (i - 1)) r < 0) (h2 : i = n ∨ 0 ≤ cmpR (gRg d i) r) (hq : ∀ j, j ≤ n → (j = 0 ∨ cmpR (gRg d (j - 1)) r < 0) → (j = n ∨ 0 ≤ cmpR (gRg d j) r) → j = q) : i = q := hq i hi h1 h2
end Go.Proofs.Ytfdphpmcgidmiaa.Kr

/- What was added, changed and deleted leaves all as it was. No condition. -/
namespace Go.Proofs.Ytfdphpmcgidmiaa.Kr
open Go.ChangeShapes Go.WideShapes Go.ChangeAt Go.RowKit Go.Sort
set_option linter.unusedSimpArgs false
set_option linter.unusedVariables false
def insR (d : List Rg) (i : Nat) (r : Rg) : List Rg := d.take i ++ [r] ++ d.drop i
theorem insR_length {d : List Rg} {i : Nat} (r : Rg) (hi : i ≤ d.length) : (insR d i r).length = d.length + 1 := by
  unfold insR
  simp only [List.length_append, List.length_take, List.length_drop, List.length_cons, List.length_nil]
  omega
theorem insR_lt {d : List Rg} {i j : Nat} (r : Rg) (hi : i ≤ d.length) (hj : j < i) : gRg (insR d i r) j = gRg d j := by
  unfold gRg insR
  rw [List.append_assoc, List.getD_eq_getElem?_getD, List.getD_eq_getElem?_getD, List.getElem?_append_left (by simp; omega), List.getElem?_take_of_lt hj]
theorem insR_at {d : List Rg} {i : Nat} (r : Rg) (hi : i ≤ d.length) : gRg (insR d i r) i = r := by
  unfold gRg insR
  rw [List.append_assoc, List.getD_eq_getElem?_getD, List.getElem?_append_right (by simp; omega)]
  have : i - (d.take i).length = 0 := by simp; omega
  rw [this]
  rfl
theorem insR_set {d : List Rg} {i : Nat} (r x : Rg) (hi : i ≤ d.length) : (insR d i r).set i x = insR d i x := by
  unfold insR
  rw [List.append_assoc, List.append_assoc, List.set_append, if_neg (by simp; omega)]
  have : i - (d.take i).length = 0 := by simp; omega
  rw [this]
  rfl
theorem insR_filter {d : List Rg} {i : Nat} (x : Rg) (p : Rg → Bool) (hd : ∀ y ∈ d, p y = true) (hx : p x = false) : (insR d i x).filter p = d := by
  unfold insR
  rw [List.filter_append, List.filter_append, List.filter_eq_self.2 (fun y hy => hd y (List.mem_of_mem_take hy)), List.filter_eq_self.2 (fun y hy => hd y (List.mem_of_mem_drop hy)), List.filter_cons, if_neg (by simp [hx])]
  simp
theorem okR_span {r : Rg} (h : okR r = true) : r.st < r.en ∧ 0 ≤ r.ow ∧ r.ow ≤ 2147483647 := by
  unfold okR rangeB spanB inB at h
  simp at h
  omega
theorem mem_gRg {d : List Rg} {y : Rg} (h : y ∈ d) : ∃ j, j < d.length ∧ gRg d j = y := by
  obtain ⟨j, hj, e⟩ := List.mem_iff_getElem.1 h
  exact ⟨j, hj, by unfold gRg; rw [List.getD_eq_getElem?_getD, List.getElem?_eq_getElem hj, e]; rfl⟩
/-- Who may be added is like no range that is there. -/
theorem fresh_of {d : List Rg} {r : Rg} (hr : rightB d = true) (hm : mayF d r = 0) : okR r = true ∧ ∀ y ∈ d, sameR y r = false := by
  have hok : okR r = true := by
    unfold mayF at hm
    cases h : okR r
    · rw [h] at hm; simp at hm
    · rfl
  refine ⟨hok, fun y hy => ?_⟩
  have hy2 : overR y r = false := by
    unfold mayF at hm
    rw [if_neg (by rw [hok]; decide)] at hm
    split at hm
    · cases hm
    · by_cases h : d.any (fun o => overR o r) = true
      · rw [if_pos h] at hm; cases hm
      · rw [List.any_eq_true] at h
        cases e : overR y r
        · rfl
        · exact absurd ⟨y, hy, e⟩ h
  obtain ⟨j, hj, rfl⟩ := mem_gRg hy
  have hok2 : okR (gRg d j) = true := by
    have := (rightB_true.1 hr).2 j hj
    unfold stepB at this
    simp at this
    exact this.1
  have h1 := okR_span hok
  have h2 := okR_span hok2
  unfold overR at hy2
  unfold sameR
  simp at hy2 ⊢
  intro e1 e2 e3
  have := hy2 e1 e2
  omega
theorem sameR_ow (y r : Rg) (x : Int) : sameR y ⟨r.fr, r.tn, r.st, r.en, x⟩ = sameR y r := rfl
theorem rangesTwice_own : ownKnob Try.prog.godebug = none := by kernel_rfl
theorem rangesTwice_laidOut : laidOutB Try.prog = true := by kernel_rfl

end Go.Proofs.Ytfdphpmcgidmiaa.Kr
