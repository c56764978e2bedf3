/- Several texts of mine in one: QTail, SlHp, Order. No condition. -/
import Derived.StillTail
import Derived.Lib.QuietBelow
import Derived.Test.YtodcoockhkghdaaGreatGQ8
import Derived.Test.YtodcoockhkghdaaGreatGQ0
import Derived.Test.YtodcoockhkghdaaGreatGQ36
namespace Go.Proofs.YtodcoockhkghdaaGreat
open Go.Sort Go.RowKit
set_option linter.unusedSimpArgs false
set_option linter.unusedVariables false
section
variable {P:Program} {ops:Array Oper} {md:Region.Mode} {C:World → Prop}

def wpAnyLQ (P:Program) (md:Region.Mode) (ops:Array Oper) (C:World → Prop) (n:Nat) (L:Array Bool → Act → Prop):Nat → Array Bool → Act → Prop
 | 0,listed,a => L listed a
 | f + 1,listed,a =>
  Region.ready md ops listed ≠ [] ∧ ∀ i ∈ Region.ready md ops listed,i < n ∧ qOp P ops C i (wpAnyLQ P md ops C n L f (listed.setIfInBounds i true)) a

theorem wpAny_of_headQ {n g:Nat} {L:Array Bool → Act → Prop} {Q':Exit → Act → World → Prop} (hL:∀ listed a w,C w → L listed a → wpAny P md ops Q' g listed a w) :
  ∀ (f:Nat) (listed:Array Bool) (a:Act) (w:World),C w → wpAnyLQ P md ops C n L f listed a → wpAny P md ops Q' (f + g) listed a w
 | 0,listed,a,w,hw,h => by rw [Nat.zero_add]; exact hL _ _ _ hw h
 | f + 1,listed,a,w,hw,h => by
  rw [show f + 1 + g = (f + g) + 1 by omega]
  exact ⟨fun h0 => absurd h0 h.1,fun i hi => wpOp_of_qOp hw (fun a' w' hw' h' => wpAny_of_headQ hL f _ a' w' hw' h') (h.2 i hi).2⟩

theorem wpAnyLQ_first {n i:Nat} {oi:Oper} {v:Value} {L:Array Bool → Act → Prop} (hi:ops[i]? = some oi) (hsel:∀ (j:Nat) (o:Oper) cs b,ops[j]? = some o → o.op ≠ .select cs b)
  (hs:Region.sinkB md ops n = true) (hc:Region.chainB md ops n = true) (hn:n < ops.size) (hin:i < n)
  (hdone:∀ listed a,L listed a → ∀ j ∈ Region.ready md ops listed,n ≤ j) :
  ∀ (f:Nat) (listed:Array Bool) (a:Act),HeadInv md ops n listed →
   (∀ j oj,ops[j]? = some oj → j ≠ i → listed.getD j true = false → (∀ e ∈ oj.after,Region.binds md e = true → e.on ≠ i) → oi.apart ops oj = true) →
   i ∈ Region.ready md ops listed → YieldsIn P ops C oi v a →
   wpAnyLQ P md ops C n L f (listed.setIfInBounds i true) (a.put oi.dst v) → wpAnyLQ P md ops C n L (f + 1) listed a:=by
 intro f
 induction f with
 | zero =>
  intro listed a inv _ hr hy H
  have hun:=(mem_ready.1 hr).1
  refine ⟨fun h => (by rw [h] at hr; cases hr),fun j hj => ?_⟩
  have hjn:j < n:=by
   rcases Nat.lt_or_ge j n with h | h
   ·exact h
   ·exact absurd hj (tail_waits hs hc hn inv _ i rfl hin hun j h)
  refine ⟨hjn,?_⟩
  by_cases hji:j = i
  ·subst hji; exact hy.qOp hi H
  ·have:=hdone _ _ H j (ready_mono hj hji)
   omega
 | succ f ih =>
  intro listed a inv hfree hr hy H
  have hun:=(mem_ready.1 hr).1
  refine ⟨fun h => (by rw [h] at hr; cases hr),fun j hj => ?_⟩
  have hjn:j < n:=by
   rcases Nat.lt_or_ge j n with h | h
   ·exact h
   ·exact absurd hj (tail_waits hs hc hn inv _ i rfl hin hun j h)
  refine ⟨hjn,?_⟩
  by_cases hji:j = i
  ·subst hji; exact hy.qOp hi H
  ·have h1:=(H.2 j (ready_mono hj hji)).2
   obtain ⟨hjun,oj,hoj,hall⟩:=mem_ready.1 hj
   have hnot:∀ e ∈ oj.after,Region.binds md e = true → e.on ≠ i:=fun e he hb heq => by
    have h1:=hall e he hb
    rw [heq,getD_both hun] at h1
    cases h1
   have h2:=qOp_put hoj (hfree j oj hoj hji hjun hnot) (fun cs b => hsel i oi cs b hi) (fun cs b => hsel j oj cs b hoj) hy h1
   have hfree':∀ k ok,ops[k]? = some ok → k ≠ i → (listed.setIfInBounds j true).getD k true = false →
     (∀ e ∈ ok.after,Region.binds md e = true → e.on ≠ i) → oi.apart ops ok = true:=fun k ok hk hki hun hno => by
    refine hfree k ok hk hki ?_ hno
    by_cases hjk:j = k
    ·subst hjk; exact hjun
    ·rw [getD_set_ne true hjk] at hun; exact hun
   refine qOp_mono (fun a' h3 => ih (listed.setIfInBounds j true) a' (inv.set hj hjn) hfree' (ready_mono hr (Ne.symm hji)) h3.1 ?_) h2
   rw [Array.setIfInBounds_comm _ _ hji]
   exact h3.2

theorem wpAnyLQ_lex {n g:Nat} {Lq:Act → Prop} (hsel:Region.noSelect ops = true) (hs:Region.sinkB md ops n = true) (hc:Region.chainB md ops n = true) (hn:n < ops.size) :
  ∀ (l:List Oper) (k:Nat) (listed:Array Bool) (a:Act),(∀ j,j < l.length → l[j]? = ops[k + j]?) → k + l.length = n → HeadInv md ops n listed →
  Region.lexHead md ops g l.length k listed = true → wpQuiet P ops C Lq l a →
  wpAnyLQ P md ops C n (fun listed' a' => Region.seqB md ops g n listed' = true ∧ Lq a') l.length listed a
 | [],k,listed,a,_,hk,_,hB,h => by
  have:k = n:=by simpa using hk
  subst this
  exact ⟨by simpa [Region.lexHead] using hB,h⟩
 | o :: l,k,listed,a,hl,hk,inv,hB,h => by
  have h0:ops[k]? = some o:=by simpa using (hl 0 (by simp)).symm
  simp only [List.length_cons,Region.lexHead,Bool.and_eq_true] at hB
  obtain ⟨⟨hr,hf⟩,hB'⟩:=hB
  have hkn:k < n:=by simp only [List.length_cons] at hk; omega
  have hr':k ∈ Region.ready md ops listed:=by simpa using hr
  have hst:qOp P ops C k (wpQuiet P ops C Lq l) a:=by unfold qOp; simp only [h0]; exact h
  obtain ⟨v,hy,hK⟩:=yieldsIn_of_qOp h0 hst
  exact wpAnyLQ_first h0 (Region.noSelect_spec hsel) hs hc hn hkn (fun listed' a' hL => seqB_ready hL.1) l.length listed a inv (Region.free_spec h0 hf) hr' hy
   (wpAnyLQ_lex hsel hs hc hn l (k + 1) _ _ (fun j hj => by have:=hl (j + 1) (by simp; omega); simpa [Nat.add_assoc,Nat.add_comm 1 j] using this) (by simp only [List.length_cons] at hk; omega) (inv.set hr' hkn) hB' hK)

/-! A gate: the first n operations are quiet, the last of them waits for all the others, and whatever follows waits for it. -/
/-! A call in the middle: n quiet operations ahead of it, all that follows leaves the world alone. -/
theorem wpOp_of {Q:Exit → Act → World → Prop} {i:Nat} {o:Oper} {K:Act → World → Prop} {a:Act} {w:World} (ho:ops[i]? = some o)
  (h:if Region.wanted o (yielded ops a.tmps) = true then Oper.wp P o a w K Q else K (a.put o.dst undef) w):wpOp P ops Q i K a w:=by
 unfold wpOp
 simp only [ho]
 split
 ·rename_i hw; simp only [hw,if_true] at h; exact .inl h
 ·rename_i hw; simp only [hw] at h; exact h

theorem wp_region_quiet_tail {id:Nat} {Q:Exit → Act → World → Prop} {a:Act} {w:World} {l:List Oper} (n:Nat) (hm:P.follows .mixedOrders = true) (hB:Region.lexTailB .any l.toArray n = true) (hC:C { w with drawn:=w.drawn + 1 })
  (h:wpQuiet P l.toArray C (fun a' => ∀ w',C w' → wpList P l.toArray Q (l.drop n) a' w') (l.take n) a):(Code.region id l.toArray true).wp P Q a w:=by
 simp only [Region.lexTailB,Bool.and_eq_true,decide_eq_true_eq] at hB
 obtain ⟨⟨⟨⟨hsel,hn⟩,hs⟩,hc⟩,hlex⟩:=hB
 have hn':n < l.length:=by simpa using hn
 have htl:(l.take n).length = n:=by simp; omega
 have hdl:(l.drop n).length = l.toArray.size - n:=by simp
 have inv0:HeadInv .any l.toArray n (Array.replicate l.toArray.size false):=
  ⟨by simp,fun j oj _ hl => (by rw [getD_replicate_false] at hl; cases hl),fun t _ ht => getD_in (by simpa using ht) (getD_replicate_false _ _)⟩
 have H:=wpAnyLQ_lex (C:=C) (md:=.any) (g:=l.toArray.size - n) hsel hs hc hn (l.take n) 0 _ a (fun j hj => by
  have hj':j < n:=by rw [htl] at hj; exact hj
  simp [hj']) (by simpa using htl) inv0 (by rw [htl]; exact hlex) h
 refine wp_region_any hm ?_
 have:=wpAny_of_headQ (C:=C) (Q':=Q) (g:=l.toArray.size - n) (fun listed a' w' hw' hL => by
  have:=wpAny_of_seq (md:=.any) (Q':=Q) (l.drop n) n listed a' w' (fun j => by simp [List.getElem?_drop]) (by rw [hdl]; exact hL.1) (hL.2 w' hw')
  rwa [hdl] at this) _ _ _ _ hC H
 rw [htl,show n + (l.toArray.size - n) = l.toArray.size by omega] at this
 exact this

theorem wp_region_grown_tail {id:Nat} {Q:Exit → Act → World → Prop} {a:Act} {w:World} {l:List Oper} (n:Nat) (hm:P.follows .mixedOrders = true) (hB:Region.lexTailB .any l.toArray n = true)
  (h:wpQuiet P l.toArray (fun w' => ∃ p:Regrown,w' = grow (redrawn w p.d) p.os) (fun a' => ∀ w',(∃ p:Regrown,w' = grow (redrawn w p.d) p.os) → wpList P l.toArray Q (l.drop n) a' w') (l.take n) a):(Code.region id l.toArray true).wp P Q a w:=
 wp_region_quiet_tail (C:=fun w' => ∃ p:Regrown,w' = grow (redrawn w p.d) p.os) n hm hB ⟨⟨w.drawn + 1,#[]⟩,by rw [grow_empty]; rfl⟩ h
end
end Go.Proofs.YtodcoockhkghdaaGreat
namespace Go.Proofs.YtodcoockhkghdaaGreat
open Go.ChangeShapes Go.WideShapes Go.ChangeAt Go.RowKit Go.Sort
set_option linter.unusedSimpArgs false
set_option linter.unusedVariables false
set_option maxHeartbeats 1000000 in
set_option maxRecDepth 100000 in
theorem equalHp (A A' : Option Addr) (n c n' c' : Nat) (d d' : List Hp) (w : World) (hd : d.length = n) (hd' : d'.length = n') (hn : n ≤ 1000000) (hn' : n' ≤ 1000000) (h : Sl w w.heap.size 3 A n c (flatHp d)) (h' : Sl w w.heap.size 3 A' n' c' (flatHp d')) :
    Calls Tryz.prog 55 #[.slice A n c, .slice A' n' c'] w fun e w' => e = .returned (.bool (decide (d = d'))) ∧ Below w.heap.size w w' := by
  by_cases hne : n = n'
  · subst hne
    have hz : ((n : Int) != (n : Int)) = false := by simp
    go_enter Tryz.func55, Tryz.ntmps55
    go_wp2
    go_loopw [13] (fun i wr => ∃ k : Nat, k ≤ n ∧ i = .int .i64 k ∧ Hid (∀ j, j < k → gHp d j = gHp d' j) ∧ Below w.heap.size w wr) (fun i _ => n - (intOf i).toNat)
    case atStart => exact ⟨0, by omega, rfl, (fun j hj => by omega), Below.refl _ _⟩
    case round =>
      obtain ⟨k, hk, rfl, HQ, hB⟩ := hrel
      by_cases hkn : k < n
      · obtain ⟨ad, rfl, hab, c0, c1, c2⟩ := (h.below hB).lst.atHp hd hkn
        obtain ⟨ad', rfl, hab', e0, e1, e2⟩ := (h'.below hB).lst.atHp hd' hkn
        generalize hx : gHp d k = x at *
        generalize hy : gHp d' k = y at *
        have HX := Lib.hid hx
        have HY := Lib.hid hy
        clear hx hy
        have hneq := neqHp x y
        go_wp2_with fail
        have q_c0 := fun d os => cell_regrown c0 d os
        have q_c1 := fun d os => cell_regrown c1 d os
        have q_c2 := fun d os => cell_regrown c2 d os
        have q_e0 := fun d os => cell_regrown e0 d os
        have q_e1 := fun d os => cell_regrown e1 d os
        have q_e2 := fun d os => cell_regrown e2 d os
        by_cases hxy : x = y
        · have HE := Lib.hid hxy
          have hrun : ∀ w0, (binOp .neq 67 (.agg #[.int .i64 x.id, .int .i64 x.se, .int .i64 x.ar]) (.agg #[.int .i64 y.id, .int .i64 y.se, .int .i64 y.ar])).run Tryz.prog w0 = .ok (.bool false) w0 := fun w0 => by rw [hneq]; simp [HE.out]
          clear hneq hxy
          try simp only [List.append]
          first | refine wp_region_text_below ?_ | refine wp_region_quiet_below (by kernel_rfl) (by kernel_rfl) ?_
          repeat (go_big_quiet_step ((fail)))
          refine wpQuiet_nil ?_
          intro _ hqw
          obtain ⟨pq, hqw⟩ := hqw
          subst hqw
          clear q_c0 q_c1 q_c2 q_e0 q_e1 q_e2
          have hbel := below_regrown wr pq.d pq.os
          have hB2 := hB.trans (hbel.mono hB.size)
          clear hbel c0 c1 c2 e0 e1 e2 hB hrun
          generalize grow (redrawn wr pq.d) pq.os = wq at *
          go_wp2
          go_roundw
          case rel => exact ⟨k + 1, by omega, by go_num, (fun j hj => by
            by_cases e : j = k
            · rw [e, HX.out, HY.out]; exact HE.out
            · exact HQ.out j (by omega)), hB2⟩
          case measure => simp [intOf]; omega
        · have hrun : ∀ w0, (binOp .neq 67 (.agg #[.int .i64 x.id, .int .i64 x.se, .int .i64 x.ar]) (.agg #[.int .i64 y.id, .int .i64 y.se, .int .i64 y.ar])).run Tryz.prog w0 = .ok (.bool true) w0 := fun w0 => by rw [hneq]; simp [hxy]
          have hfin : decide (d = d') = false := by
            rw [decide_eq_false_iff_not]
            intro e
            have e1 := HX.out
            rw [e, HY.out] at e1
            exact hxy e1.symm
          have HF := Lib.hid hfin
          clear hneq hxy hfin
          try simp only [List.append]
          first | refine wp_region_text_below ?_ | refine wp_region_quiet_below (by kernel_rfl) (by kernel_rfl) ?_
          repeat (go_big_quiet_step ((fail)))
          refine wpQuiet_nil ?_
          intro _ hqw
          obtain ⟨pq, hqw⟩ := hqw
          subst hqw
          clear q_c0 q_c1 q_c2 q_e0 q_e1 q_e2
          have hbel := below_regrown wr pq.d pq.os
          have hB2 := hB.trans (hbel.mono hB.size)
          clear hbel c0 c1 c2 e0 e1 e2 hB hrun
          generalize grow (redrawn wr pq.d) pq.os = wq at *
          go_wp2
          go_ret
          exact ⟨by rw [HF.out]; rfl, hB2⟩
      · obtain rfl : k = n := by omega
        have hfin : decide (d = d') = true := by
          rw [decide_eq_true_eq]
          exact extHp (by omega) (fun j hj => HQ.out j (by omega))
        have HF := Lib.hid hfin
        clear hfin
        go_wp2
        go_ret
        exact ⟨by rw [HF.out]; rfl, hB⟩
  · have hz : ((n : Int) != (n' : Int)) = true := by rw [bne_iff_ne]; omega
    go_enter Tryz.func55, Tryz.ntmps55
    go_wp2
    go_ret
    refine ⟨?_, Below.refl _ _⟩
    rw [decide_eq_false (show ¬ d = d' from fun e => by subst e; omega)]
    rfl
set_option maxRecDepth 100000 in
theorem growHp (n : Nat) (w : World) (hn : n ≤ 1000000) :
    Calls Tryz.prog 164 #[.slice none 0 0, .int .i64 n] w fun e w' => ∃ v, e = .returned v ∧ w'.ownsRow w.heap.size 67 3 v 0 [] ∧ Below w.heap.size w w' := by
  obtain ⟨i0, hi0, hz0, hz1, hz2⟩ := info_parts infoHp
  by_cases h0 : n = 0
  · subst h0
    go_enter Tryz.func164, Tryz.ntmps164
    go_wp2
    go_ret
    exact ⟨_, rfl, World.ownsRow_nil _ _ _ _, Below.refl _ _⟩
  · have hp : 0 < n := by omega
    have hpi : (0 : Int) < (n : Int) := by omega
    go_enter Tryz.func164, Tryz.ntmps164
    go_wp2_with (first
      | (at_builtin
         refine wpList_append_made rfl (.tmp 20) (.tmp 21) 29 3 rfl 67 i0 _ 3 Tryz.underlying29 Tryz.underlying3 hi0 hz0 hz1 rfl n rfl rfl hp (by decide) (by omega) (by rw [hz2]; omega) ?_
         intro c1 w1 hown hB hc1))
    go_ret
    exact ⟨_, rfl, hown, hB⟩
structure PredHp (g : FuncId) (lb : Array Value) (row : Option Nat) (W : World) (p : Hp → Bool) : Prop where
  run : ∀ vals w, (callFunc g vals).run Tryz.prog w = .ok (.enter g vals) w
  tells : ∀ w', W.grownBy w' row → ∀ x : Hp, Calls Tryz.prog g (#[.agg #[.int .i64 x.id, .int .i64 x.se, .int .i64 x.ar]] ++ lb) w' fun e w'' => e = .returned (.bool (p x)) ∧ Below w'.heap.size w' w''
theorem PredHp.next {g : FuncId} {lb : Array Value} {row : Option Nat} {W W' : World} {p : Hp → Bool} (h : PredHp g lb row W p) (hg : W.grownBy W' row) : PredHp g lb row W' p := ⟨h.run, fun w' h' x => h.tells w' (grown_trans hg h') x⟩
theorem PredHp.below {g : FuncId} {lb : Array Value} {row : Option Nat} {W W' : World} {p : Hp → Bool} (h : PredHp g lb row W p) (hb : Below W.heap.size W W') : PredHp g lb row W' p := h.next (grown_of_below hb)
def catHp (d : Nat → List Hp) : Nat → List Hp
  | 0 => []
  | k + 1 => catHp d k ++ d k
theorem catHp_le (d : Nat → List Hp) : ∀ {k m : Nat}, k ≤ m → (catHp d k).length ≤ (catHp d m).length
  | k, 0, h => by
    obtain rfl : k = 0 := by omega
    exact Nat.le_refl _
  | k, m + 1, h => by
    by_cases e : k = m + 1
    · subst e; exact Nat.le_refl _
    · have := catHp_le d (k := k) (m := m) (by omega)
      simp only [catHp, List.length_append]
      omega
set_option maxHeartbeats 1000000 in
set_option maxRecDepth 100000 in
theorem concatHp (gO m cO : Nat) (A : Nat → Option Addr) (n c : Nat → Nat) (d : Nat → List Hp) (w : World) (hm : m ≤ 1000) (hd : ∀ k, k < m → (d k).length = n k) (hn : (catHp d m).length ≤ 1000000) (hO : ∀ k, k < m → w.cell? ⟨gO, k, none⟩ = some (.slice (A k) (n k) (c k))) (h : ∀ k, k < m → Sl w w.heap.size 3 (A k) (n k) (c k) (flatHp (d k))) :
    Calls Tryz.prog 121 #[.slice (some ⟨gO, 0, none⟩) m cO] w fun e w' => ∃ v, e = .returned v ∧ w'.ownsRow w.heap.size 67 3 v (catHp d m).length (flatHp (catHp d m)) ∧ Below w.heap.size w w' := by
  obtain ⟨i0, hi0, hz0, hz1, hz2⟩ := info_parts infoHp
  have HO := Lib.hid hO
  have HD := Lib.hid hd
  clear hO hd
  go_enter Tryz.func121, Tryz.ntmps121
  go_wp2
  go_loop [3, 11] (fun s i => ∃ k : Nat, k ≤ m ∧ i = .int .i64 k ∧ s = .int .i64 (catHp d k).length) (fun _ i => m - (intOf i).toNat)
  case atStart => exact ⟨0, by omega, rfl, rfl⟩
  case round =>
    obtain ⟨k, hk, rfl, rfl⟩ := hrel
    have hle := catHp_le d hk
    by_cases hkm : k < m
    · have hle2 := catHp_le d (k := k + 1) (m := m) (by omega)
      have hO := HO.out k hkm
      have hlk : (catHp d (k + 1)).length = (catHp d k).length + n k := by simp only [catHp, List.length_append, HD.out k hkm]
      have HLK := Lib.hid hlk
      have hnk : n k ≤ 1000000 := by omega
      generalize hL : (catHp d k).length = L at *
      have HL := Lib.hid hL
      clear hlk hL
      go_wp2
      go_round
      case rel => exact ⟨k + 1, by omega, by go_num, by rw [HLK.out]; go_num⟩
      case measure => simp [intOf]; omega
    · obtain rfl : k = m := by omega
      generalize hL : (catHp d k).length = L at *
      have HL := Lib.hid hL
      clear hL
      go_wp2_with fail
      refine (growHp L w (by omega)).mono ?_
      rintro e w1 ⟨v, rfl, hown, hB⟩
      obtain ⟨A1, c1, rfl⟩ := slice_of_own hown
      go_wp2
      go_loopw [6, 27] (fun vv i wr => ∃ (q : Nat), q ≤ k ∧ i = .int .i64 q ∧ Below w.heap.size w wr ∧ wr.ownsRow w.heap.size 67 3 vv (catHp d q).length (flatHp (catHp d q))) (fun _ i _ => k - (intOf i).toNat)
      case atStart => exact ⟨0, by omega, rfl, hB, hown⟩
      case round =>
        clear hown hB
        rename Value => v0
        obtain ⟨q, hq, rfl, hB, hown⟩ := hrel
        have hle := catHp_le d hq
        by_cases hqk : q < k
        · have hO : _ := HO.out q hqk
          have hOw : ∀ wx, Below w.heap.size w wx → wx.cell? ⟨gO, q, none⟩ = some (.slice (A q) (n q) (c q)) := fun wx hb => by
            rw [hb.cell (World.block_lt_of_cell? w _ hO)]; exact hO
          have hOr := hOw _ hB
          have hle2 := catHp_le d (k := q + 1) (m := k) (by omega)
          have hlk : (catHp d (q + 1)).length = (catHp d q).length + n q := by simp only [catHp, List.length_append, HD.out q hqk]
          have hnq : (catHp d q).length + n q ≤ 1000000 := by have := HL.out; omega
          have HLK := Lib.hid hlk
          have hs := (h q hqk).below hB
          clear hlk hO hOw
          obtain ⟨A2, c2, rfl⟩ := slice_of_own hown
          have hob : ∀ g, (Value.slice A2 (catHp d q).length c2).ownBlock = some g → w.heap.size ≤ g := fun g hg => (hown.lt g hg).1
          have hsB := hB.size
          generalize hLq : (catHp d q).length = Lq at *
          generalize hNq : n q = Nq at *
          generalize hAq : A q = Aq at *
          generalize hcq : c q = cq at *
          have HAll := Lib.hid (And.intro hLq (And.intro hNq (And.intro hAq hcq)))
          clear hLq hNq hAq hcq
          go_wp2_with (first
            | (at_builtin
               refine wpList_append_lst _ rfl (.tmp 31) (.tmp 32) 29 rfl w.heap.size 67 i0 _ 3 24 Tryz.underlying29 hi0 hz0 hz1 hz2 rfl (by decide) (.slice A2 Lq c2) Lq (flatHp (catHp d q)) rfl hown w.heap.size Aq Nq cq (flatHp (d q)) rfl hs.lst (flatHp_one _) (by unfold maxLen; omega) (by omega) hsB ?_
               intro v4 w4 hown4 hg4 hat4))
          have hB4 : Below w.heap.size w w4 := Below.grown hB hg4 hsB hob
          have hown5 : w4.ownsRow w.heap.size 67 3 v4 (catHp d (q + 1)).length (flatHp (catHp d (q + 1))) := by
            rw [HLK.out]
            simp only [catHp, flatHp_append]
            exact hown4
          clear hown hown4 hg4 hat4 hOr hs hob hB
          go_wp2
          go_roundw
          case rel => exact ⟨q + 1, by omega, by go_num, hB4, hown5⟩
          case measure => simp [intOf]; omega
        · obtain rfl : q = k := by omega
          obtain ⟨A2, c2, rfl⟩ := slice_of_own hown
          go_wp2
          go_ret
          exact ⟨_, rfl, hown, hB⟩
def UpG (w w':World):Prop:=∃ os,w' = grow w os
theorem UpG.refl (w:World):UpG w w:=⟨#[],(grow_empty w).symm⟩
theorem UpG.alloc {w w':World} (h:UpG w w') (o:Obj):UpG w (w'.alloc o):=by
 obtain ⟨os,rfl⟩:=h
 exact ⟨_,by rw [alloc_eq_grow,grow_grow]⟩
theorem UpG.trans {w w' w'':World} (h:UpG w w') (k:UpG w' w''):UpG w w'':=by
 obtain ⟨os,rfl⟩:=h
 obtain ⟨os',rfl⟩:=k
 exact ⟨_,by rw [grow_grow]⟩
theorem UpG.below {w w':World} (h:UpG w w'):Below w.heap.size w w':=by
 obtain ⟨os,rfl⟩:=h
 exact below_regrown w w.drawn os
def cmpH:List Hp → List Hp → Int
 | [],[] => 0
 | [],_ :: _ => -1
 | _ :: _,[] => 1
 | a :: t,b :: u => if cmpI a.id b.id = 0 then cmpH t u else cmpI a.id b.id
theorem cmpH_at {d d':List Hp} {k:Nat} (h1:k < d.length) (h2:k < d'.length):cmpH (d.drop k) (d'.drop k) = if cmpI (gHp d k).id (gHp d' k).id = 0 then cmpH (d.drop (k + 1)) (d'.drop (k + 1)) else cmpI (gHp d k).id (gHp d' k).id:=by
 rw [List.drop_eq_getElem_cons h1,List.drop_eq_getElem_cons h2,gHp_eq h1,gHp_eq h2,cmpH]
theorem cmpH_long {d d':List Hp} {k:Nat} (h1:k < d.length) (h2:d'.length ≤ k):cmpH (d.drop k) (d'.drop k) = 1:=by
 rw [List.drop_eq_getElem_cons h1,List.drop_of_length_le h2,cmpH]
theorem cmpH_short {d d':List Hp} (h:d.length < d'.length):cmpH (d.drop d.length) (d'.drop d.length) = -1:=by
 rw [List.drop_eq_getElem_cons h,List.drop_of_length_le (Nat.le_refl _),cmpH]
theorem cmpH_end {d d':List Hp} {k:Nat} (h1:d.length ≤ k) (h2:d'.length ≤ k):cmpH (d.drop k) (d'.drop k) = 0:=by
 rw [List.drop_of_length_le h1,List.drop_of_length_le h2,cmpH]
def cmpR (t:Int) (d:List Hp) (t':Int) (d':List Hp):Int:=
 if cmpI t t' = 0 then if cmpI d.length d'.length = 0 then cmpH d d' else cmpI d.length d'.length else cmpI t t'
theorem cmp1_any (x y:Hp) (w:World) :
  Calls Tryz.prog 57 #[.agg #[.int .i64 x.id,.int .i64 x.se,.int .i64 x.ar],.agg #[.int .i64 y.id,.int .i64 y.se,.int .i64 y.ar]] w fun e w' => e = .returned (.int .i64 (cmpI x.id y.id)) ∧ UpG w w':=by
 go_enter Tryz.func57,Tryz.ntmps57
 go_wp2_with (go_at_call 54; refine (cmp_any _ _ _).mono ?_; rintro e w' ⟨rfl,rfl⟩)
 go_ret
 exact ⟨rfl,((UpG.refl w).alloc _).alloc _⟩
set_option maxHeartbeats 2000000 in
set_option maxRecDepth 100000 in
theorem cmpHops_any (A A':Option Addr) (n c n' c':Nat) (d d':List Hp) (w:World) (hd:d.length = n) (hd':d'.length = n') (hn:n ≤ 1000000) (hn':n' ≤ 1000000) (h:Sl w w.heap.size 3 A n c (flatHp d)) (h':Sl w w.heap.size 3 A' n' c' (flatHp d')) :
  Calls Tryz.prog 56 #[.slice A n c,.slice A' n' c',.func (.func 57) #[] #[]] w fun e w' => e = .returned (.int .i64 (cmpH d d')) ∧ UpG w w':=by
 obtain ⟨z,hz⟩:∃ z,cmpH d d' = z:=⟨_,rfl⟩
 have HZ:=Lib.hid hz
 rw [hz]
 clear hz
 go_enter Tryz.func56,Tryz.ntmps56
 go_wp2
 go_loopw [13] (fun i wr => ∃ k:Nat,k ≤ n ∧ i = .int .i64 k ∧ Hid (cmpH (d.drop k) (d'.drop k) = z) ∧ UpG w wr) (fun i _ => n - (intOf i).toNat)
 case atStart => exact ⟨0,by omega,rfl,(show cmpH (d.drop 0) (d'.drop 0) = z by simpa using HZ.out),UpG.refl _⟩
 case round =>
  clear HZ
  obtain ⟨k,hk,rfl,HQ,hU⟩:=hrel
  have hB:=hU.below
  have hs:=hB.size
  by_cases hkn:k < n
  ·obtain ⟨ad,rfl,hab,c0,c1,c2⟩:=(h.below hB).lst.atHp hd hkn
   by_cases hk2:k < n'
   ·have HA:=Lib.hid (cmpH_at (d:=d) (d':=d') (k:=k) (by omega) (by omega))
    generalize hx:gHp d k = x at *
    clear hx
    have hg2:¬ ((n':Int) ≤ (k:Int)):=by omega
    have hUa:UpG w (wr.alloc (.cells #[.int .i64 x.id,.int .i64 x.se,.int .i64 x.ar] 67)):=hU.alloc _
    have hBa:Below w.heap.size w (wr.alloc (.cells #[.int .i64 x.id,.int .i64 x.se,.int .i64 x.ar] 67)):=hB.alloc hs _
    have hX:=Blok.new wr 67 #[.int .i64 x.id,.int .i64 x.se,.int .i64 x.ar]
    have hlx:=hX.lt
    go_upto_region 4 with fail
    clear c0 c1 c2
    generalize wr.alloc (.cells #[.int .i64 x.id,.int .i64 x.se,.int .i64 x.ar] 67) = wx at *
    generalize wr.heap.size = bx at *
    obtain ⟨ad',rfl,hab',e0,e1,e2⟩:=(h'.below hBa).lst.atHp hd' hk2
    generalize hy:gHp d' k = y at *
    clear hy
    have x0:wx.cell? ⟨bx,0,none⟩ = some (.int .i64 x.id):=hX.cell 0
    have x1:wx.cell? ⟨bx,1,none⟩ = some (.int .i64 x.se):=hX.cell 1
    have x2:wx.cell? ⟨bx,2,none⟩ = some (.int .i64 x.ar):=hX.cell 2
    have hsx:=hBa.size
    go_wp2_with fail
    refine (cmp1_any x y _).mono ?_
    rintro e w4 ⟨rfl,hb4⟩
    have hU4:UpG w w4:=(hUa.alloc _).trans hb4
    clear hb4 e0 e1 e2 x0 x1 x2
    by_cases hc:cmpI x.id y.id = 0
    ·have hb:(cmpI x.id y.id != 0) = false:=by rw [hc]; rfl
     have HQ2:Hid (cmpH (d.drop (k + 1)) (d'.drop (k + 1)) = z):=by
      have:=HA.out; rw [if_pos hc] at this; exact this.symm.trans HQ.out
     clear hc
     go_wp2
     go_roundw
     case rel => exact ⟨k + 1,by omega,by go_num,HQ2,hU4⟩
     case measure => simp [intOf]; omega
    ·have hb:(cmpI x.id y.id != 0) = true:=by simpa using hc
     have HQ2:Hid (cmpI x.id y.id = z):=by
      have:=HA.out; rw [if_neg hc] at this; exact this.symm.trans HQ.out
     clear hc
     go_wp2
     go_ret
     exact ⟨by rw [HQ2.out]; rfl,hU4⟩
   ·have HQ2:Hid ((1:Int) = z):=by
     have:=cmpH_long (d:=d) (d':=d') (k:=k) (by omega) (by omega)
     exact this.symm.trans HQ.out
    have hg2:(n':Int) ≤ (k:Int):=by omega
    go_wp2
    go_ret
    exact ⟨by rw [← HQ2.out]; rfl,by first | exact hU | exact hU.alloc _⟩
  ·obtain rfl:k = n:=by omega
   by_cases hk2:k < n'
   ·have HQ2:Hid ((-1:Int) = z):=by
     have:=cmpH_short (d:=d) (d':=d') (by omega)
     rw [hd] at this
     exact this.symm.trans HQ.out
    go_wp2
    go_ret
    exact ⟨by rw [← HQ2.out]; rfl,by first | exact hU | exact hU.alloc _⟩
   ·have HQ2:Hid ((0:Int) = z):=by
     have:=cmpH_end (d:=d) (d':=d') (k:=k) (by omega) (by omega)
     exact this.symm.trans HQ.out
    have hg2:¬ ((k:Int) < (n':Int)):=by omega
    go_wp2
    go_ret
    exact ⟨by rw [← HQ2.out]; rfl,by first | exact hU | exact hU.alloc _⟩
end Go.Proofs.YtodcoockhkghdaaGreat
