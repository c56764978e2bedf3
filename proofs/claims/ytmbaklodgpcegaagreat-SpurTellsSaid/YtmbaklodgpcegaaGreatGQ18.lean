/- Several texts of mine in one: DueFew, DueGst. No condition. -/
import Derived.Test.YtmbaklodgpcegaaGreatDueMore
import Derived.Deep.LoopGhost

/- due.Table's Fewest and Last. They make new memory, and write the table. -/
namespace Go.Proofs.YtmbaklodgpcegaaGreat
open Go.ChangeShapes Go.WideShapes Go.ChangeAt Go.RowKit Go.Sort Go.Maps Hp
set_option linter.unusedSimpArgs false
set_option linter.unusedVariables false
/-- The least number of hops with which one may be in time. -/
def IsFew (l : List Ed) (size : Int) (op : Int → Bool) (q by_ x now : Int) : Option Nat → Prop
  | some h => (∃ t, lateL l size op q by_ h x = some t ∧ now ≤ t) ∧ ∀ k, k < h → ∀ t, lateL l size op q by_ k x = some t → t < now
  | none => ∀ k t, lateL l size op q by_ k x = some t → t < now
theorem few_ex (l : List Ed) (size : Int) (op : Int → Bool) (q by_ x now : Int) : ∃ o, IsFew l size op q by_ x now o := by
  by_cases h : ∃ k, ∃ t, lateL l size op q by_ k x = some t ∧ now ≤ t
  · obtain ⟨k, h1, h2⟩ := Go.exists_least h
    refine ⟨some k, h1, fun j hj t ht => ?_⟩
    rcases Int.lt_or_le t now with h3 | h3
    · exact h3
    · have := h2 j ⟨t, ht, h3⟩
      omega
  · refine ⟨none, fun k t ht => ?_⟩
    rcases Int.lt_or_le t now with h3 | h3
    · exact h3
    · exact absurd ⟨k, t, ht, h3⟩ h
theorem few_one {l : List Ed} {size : Int} {op : Int → Bool} {q by_ x now : Int} {o o' : Option Nat} (h : IsFew l size op q by_ x now o) (h' : IsFew l size op q by_ x now o') : o = o' := by
  cases o with
  | none =>
    cases o' with
    | none => rfl
    | some k => obtain ⟨⟨t, ht, hn⟩, _⟩ := h'; have := h k t ht; omega
  | some j =>
    cases o' with
    | none => obtain ⟨⟨t, ht, hn⟩, _⟩ := h; have := h' j t ht; omega
    | some k =>
      obtain ⟨⟨t, ht, hn⟩, h1⟩ := h
      obtain ⟨⟨u, hu, hm⟩, h2⟩ := h'
      rcases Nat.lt_trichotomy j k with e | e | e
      · have := h2 j e t ht; omega
      · rw [e]
      · have := h1 k e u hu; omega
theorem bool_iff (p : Prop) : ∃ b : Bool, (b = false ↔ p) := by
  by_cases h : p
  · exact ⟨false, by simp [h]⟩
  · exact ⟨true, by simp [h]⟩
set_option maxHeartbeats 4000000 in
set_option maxRecDepth 100000 in
theorem dfew_any {w0 w : World} {tb : Nat} {A : Option Addr} {n c : Nat} {l : List Ed} {q by_ size : Int} {sh : List Int} (t : TabH w0 w tb A n c l q by_ size sh 0) (hd : l.length = n) (hn : n ≤ 1000) (hre : rightE l = true) (hq : 1 ≤ q ∧ q ≤ 255) (h0 : 0 ≤ by_) (hb : by_ ≤ 1099511627776) (x now : Int) (hx : (Lit.int .i64 x).wf = true) (o : Option Nat) (ho : IsFew l size (opn sh q) q by_ x now o) (ov : Int) (ob : Bool) (hov : ((o.getD 0 : Nat) : Int) = ov) (hob : o.isSome = ob) :
    Calls Tryz.prog 29 #[.pointer (some ⟨tb, 0, none⟩), .int .i64 x, .int .i64 now] w fun e w' => e = .returned (.tuple #[.int .i64 ov, .bool ob]) ∧ ∃ h', h' ≤ n + 1 ∧ (∀ k, o = some k → h' = k) ∧ TabH w0 w' tb A n c l q by_ size sh h' := by
  have HD := Lib.hid hd
  have HRE := Lib.hid hre
  have HO := Lib.hid ho
  have HOV := Lib.hid hov
  have HOB := Lib.hid hob
  have HT0 := Lib.hid t
  clear hd hre ho hov hob t
  go_enter Tryz.func29, Tryz.ntmps29
  go_wp2_with fail
  go_loopg [8] (n + 1) (fun g sv wr => ∃ h : Nat, TabH w0 wr tb A n c l q by_ size sh h ∧ h ≤ n ∧ n + 1 - h ≤ g ∧ Hid (∀ k, k < h → ∀ t, lateL l size (opn sh q) q by_ k x = some t → t < now))
  case atStart => exact ⟨0, HT0.out, by omega, by omega, fun k hk => by omega⟩
  case round =>
    clear HT0
    obtain ⟨h, tt, hh, hg, HN⟩ := hrel
    obtain ⟨u, hu⟩ : ∃ z, (lateL l size (opn sh q) q by_ h x).getD 0 = z := ⟨_, rfl⟩
    obtain ⟨ok, hok⟩ : ∃ z, (lateL l size (opn sh q) q by_ h x).isSome = z := ⟨_, rfl⟩
    have HU := Lib.hid hu
    have HK := Lib.hid hok
    have HTT := Lib.hid tt
    have t5 : wr.cell? ⟨tb, 5, none⟩ = some (.int .i64 (h : Int)) := by obtain ⟨_, _, _, _, _, _, _, _, _, _, _, ht, _⟩ := tt; exact ht.box.cell 5
    have lt_t : tb < wr.heap.size := by obtain ⟨_, _, _, _, _, _, _, _, _, _, _, ht, _⟩ := tt; exact ht.box.lt
    clear hu hok tt
    go_wp2_with fail
    clear t5 lt_t
    refine (dat_any HTT.out (by omega) x h (Nat.le_refl _) hx u ok HU.out HK.out).mono ?_
    rintro e w2 ⟨rfl, hb2⟩
    have HT2 := Lib.hid (HTT.out.below hb2)
    have t5 : w2.cell? ⟨tb, 5, none⟩ = some (.int .i64 (h : Int)) := by obtain ⟨_, _, _, _, _, _, _, _, _, _, _, ht, _⟩ := HT2.out; exact ht.box.cell 5
    have lt_t : tb < w2.heap.size := by obtain ⟨_, _, _, _, _, _, _, _, _, _, _, ht, _⟩ := HT2.out; exact ht.box.lt
    clear hb2 HTT
    by_cases hin : ok = true ∧ now ≤ u
    · obtain ⟨rfl, hnu⟩ := hin
      have hL : lateL l size (opn sh q) q by_ h x = some u := by
        have h1 := HU.out
        have h2 := HK.out
        cases hc : lateL l size (opn sh q) q by_ h x with
        | none => rw [hc] at h2; cases h2
        | some z => rw [hc] at h1; rw [← h1]; rfl
      have he : o = some h := few_one HO.out ⟨⟨u, hL, hnu⟩, HN.out⟩
      have h1 : ov = (h : Int) := by rw [← HOV.out, he]; rfl
      have h2 : ob = true := by rw [← HOB.out, he]; rfl
      subst h1 h2
      have g1 : decide (now ≤ u) = true := decide_eq_true hnu
      have HE := Lib.hid he
      clear hL he hnu
      go_wp2_with fail
      exact bodyPost_ret (v := .tuple #[.int .i64 (h : Int), .bool true]) (by simp [results, Tryz.results29, go_sem]) rfl ⟨rfl, h, by omega, (fun k hk => by rw [HE.out] at hk; injection hk), HT2.out⟩
    · have hno : ∀ t, lateL l size (opn sh q) q by_ h x = some t → t < now := fun t ht => by
        have h1 := HU.out
        have h2 := HK.out
        rw [ht] at h1 h2
        have h3 : t = u := h1
        rcases not_both hin with e | ⟨_, e⟩
        · rw [e] at h2; cases h2
        · omega
      obtain ⟨b, hbq⟩ := bool_iff (lateL l size (opn sh q) q by_ (h + 1) = lateL l size (opn sh q) q by_ h)
      have HBQ := Lib.hid hbq
      have HN2 : Hid (∀ k, k < h + 1 → ∀ t, lateL l size (opn sh q) q by_ k x = some t → t < now) := fun k hk t ht => by
        by_cases e : k = h
        · subst e; exact hno t ht
        · exact HN.out k (by omega) t ht
      have hc := not_both hin
      clear hin hno hbq
      have hmore := dmore_any HT2.out (by omega) HD.out hn HRE.out hq b HBQ.out
      have HMORE := Lib.hid hmore
      clear hmore
      rcases hc with rfl | ⟨rfl, hnu⟩
      · skip
        go_wp2_with fail
        refine HMORE.out.mono ?_
        rintro e w3 ⟨rfl, ht3⟩
        have HT3 := Lib.hid ht3
        clear ht3 t5 lt_t
        cases b with
        | false =>
          have hst := HBQ.out.1 rfl
          have he : o = none := few_one HO.out (fun k t ht => by
            rcases Nat.lt_or_ge k (h + 1) with e | e
            · exact HN2.out k e t ht
            · rw [lateL_stop hst (k := k) (by omega)] at ht
              exact HN2.out h (by omega) t ht)
          have h1 : ov = 0 := by rw [← HOV.out, he]; rfl
          have h2 : ob = false := by rw [← HOB.out, he]; rfl
          subst h1 h2
          have HE := Lib.hid he
          clear hst he
          go_wp2_with fail
          exact bodyPost_ret (v := .tuple #[.int .i64 0, .bool false]) (by simp [results, Tryz.results29, go_sem]) rfl ⟨rfl, h + 1, by omega, (fun k hk => by rw [HE.out] at hk; cases hk), HT3.out⟩
        | true =>
          have hlt : h < n := by
            rcases Nat.lt_or_ge h n with e | e
            · exact e
            · have := HBQ.out.2 (lateL_same hb h0 (by rw [HD.out]; omega) (by rw [HD.out]; exact e))
              cases this
          go_wp2_with fail
          go_roundg (gk - 1)
          case measure => omega
          case rel => exact ⟨h + 1, HT3.out, by omega, by omega, HN2⟩
      · have g1 : decide (now ≤ u) = false := decide_eq_false hnu
        clear hnu
        go_wp2_with fail
        refine HMORE.out.mono ?_
        rintro e w3 ⟨rfl, ht3⟩
        have HT3 := Lib.hid ht3
        clear ht3 t5 lt_t
        cases b with
        | false =>
          have hst := HBQ.out.1 rfl
          have he : o = none := few_one HO.out (fun k t ht => by
            rcases Nat.lt_or_ge k (h + 1) with e | e
            · exact HN2.out k e t ht
            · rw [lateL_stop hst (k := k) (by omega)] at ht
              exact HN2.out h (by omega) t ht)
          have h1 : ov = 0 := by rw [← HOV.out, he]; rfl
          have h2 : ob = false := by rw [← HOB.out, he]; rfl
          subst h1 h2
          have HE := Lib.hid he
          clear hst he
          go_wp2_with fail
          exact bodyPost_ret (v := .tuple #[.int .i64 0, .bool false]) (by simp [results, Tryz.results29, go_sem]) rfl ⟨rfl, h + 1, by omega, (fun k hk => by rw [HE.out] at hk; cases hk), HT3.out⟩
        | true =>
          have hlt : h < n := by
            rcases Nat.lt_or_ge h n with e | e
            · exact e
            · have := HBQ.out.2 (lateL_same hb h0 (by rw [HD.out]; omega) (by rw [HD.out]; exact e))
              cases this
          go_wp2_with fail
          go_roundg (gk - 1)
          case measure => omega
          case rel => exact ⟨h + 1, HT3.out, by omega, by omega, HN2⟩
end Go.Proofs.YtmbaklodgpcegaaGreat

/- A table beside which another block stands, newer than the table: it stays as it is. -/
namespace Go.Proofs.YtmbaklodgpcegaaGreat
open Go.ChangeShapes Go.WideShapes Go.ChangeAt Go.RowKit Go.Sort Go.Maps Hp
set_option linter.unusedSimpArgs false
set_option linter.unusedVariables false
/-- The guest: no block of the table's; it is as it was in wg. -/
structure Gst (wg : World) (gk : Nat) (w : World) (tb sb : Nat) (cs : Int → Value) (vf : Value) : Prop where
  lo : tb < gk
  lt : gk < wg.heap.size
  up : wg.heap.size ≤ w.heap.size
  ms : gk ≠ sb
  mf : vf.ownBlock ≠ some gk
  mc : ∀ x, (cs x).ownBlock ≠ some gk
  eq : w.heap[gk]? = wg.heap[gk]?
structure TBG (wg : World) (gk : Nat) (w1 w : World) (tb pb ub : Nat) (A : Option Addr) (n c : Nat) (q size : Int) (h sb nm : Nat) (P : Int → List (Int × Int)) (cs : Int → Value) (vf : Value) (F : List Int) : Prop extends TB w1 w tb pb ub A n c q size h sb nm P cs vf F where
  gu : Gst wg gk w tb sb cs vf
section
variable {wg : World} {gk : Nat} {w1 w w' : World} {tb pb ub : Nat} {A : Option Addr} {n c : Nat} {q size : Int} {h sb nm : Nat} {P : Int → List (Int × Int)} {cs : Int → Value} {vf : Value} {F : List Int}
theorem Gst.in_ (g : Gst wg gk w tb sb cs vf) : gk < w.heap.size := Nat.lt_of_lt_of_le g.lt g.up
theorem TBG.below (t : TBG wg gk w1 w tb pb ub A n c q size h sb nm P cs vf F) (hB : Below w.heap.size w w') : TBG wg gk w1 w' tb pb ub A n c q size h sb nm P cs vf F :=
  ⟨t.toTB.below hB, t.gu.lo, t.gu.lt, Nat.le_trans t.gu.up hB.size, t.gu.ms, t.gu.mf, t.gu.mc, (hB.block gk t.gu.in_).trans t.gu.eq⟩
theorem TBG.keptS {S : Nat → Prop} (t : TBG wg gk w1 w tb pb ub A n c q size h sb nm P cs vf F) (hk : Kept S w w') (h0 : ∀ k, k ≤ tb → ¬ S k) (h1 : ¬ S sb) (h2 : ∀ x k, (cs x).ownBlock = some k → ¬ S k) (h3 : ∀ k, vf.ownBlock = some k → ¬ S k) (h4 : ¬ S gk) : TBG wg gk w1 w' tb pb ub A n c q size h sb nm P cs vf F :=
  ⟨t.toTB.keptS hk h0 h1 h2 h3, t.gu.lo, t.gu.lt, Nat.le_trans t.gu.up hk.size, t.gu.ms, t.gu.mf, t.gu.mc, (hk.block gk t.gu.in_ h4).trans t.gu.eq⟩
theorem TBG.count (t : TBG wg gk w1 w tb pb ub A n c q size h sb nm P cs vf F) (v : Value) (hv : v = .int .i64 ((h + 1 : Nat) : Int)) : TBG wg gk w1 ((w.setCell ⟨tb, 5, none⟩ v).setCell ⟨tb, 7, none⟩ (.slice none 0 0)) tb pb ub A n c q size (h + 1) sb nm P cs (.slice none 0 0) [] := by
  have hk : Kept (fun k => k = tb) w ((w.setCell ⟨tb, 5, none⟩ v).setCell ⟨tb, 7, none⟩ (.slice none 0 0)) := Kept.set (S := fun k => k = tb) (Kept.set (S := fun k => k = tb) (Kept.refl _ _) (fun _ => rfl) 5 _) (fun _ => rfl) 7 _
  have hlo := t.gu.lo
  exact ⟨t.toTB.count v hv, t.gu.lo, t.gu.lt, Nat.le_trans t.gu.up hk.size, t.gu.ms, by simp [Value.ownBlock], t.gu.mc, (hk.block gk t.gu.in_ (by omega)).trans t.gu.eq⟩
theorem TBG.put {W wA w2 : World} {x a b : Int} {v1 : Value} {T : Lit → Option Value} (t : TBG wg gk w1 w tb pb ub A n c q size h sb nm P cs vf F) (hw : Below w.heap.size w W) (hg : W.grownBy wA (cs x).ownBlock)
    (hown : wA.ownsRow (tb + 1) 96 2 v1 ((P x).length + 1) (flat2 (P x) ++ [.int .i64 a, .int .i64 b])) (hbl : v1.ownBlock = (cs x).ownBlock ∨ ∃ k, w.heap.size ≤ k ∧ v1.ownBlock = some k)
    (hmap : MapV w2 3 sb (nm + 1) T) (hT : ∀ kl, setS (rowsS P cs) (.int .i64 x) v1 kl = T kl) (hg2 : wA.grownBy w2 (some sb)) :
    TBG wg gk w1 w2 tb pb ub A n c q size h sb (nm + 1) (updP P x (P x ++ [(a, b)])) (updC cs x v1) vf F := by
  have hin := t.gu.in_
  have hs1 := hw.size
  have hs2 := hg.size
  have hs3 := hg2.size
  have hup := t.gu.up
  refine ⟨t.toTB.put hw hg hown hbl hmap hT hg2, t.gu.lo, t.gu.lt, by omega, t.gu.ms, t.gu.mf, fun y => ?_, ?_⟩
  · by_cases e : y = x
    · subst e
      rw [updC_same]
      rcases hbl with e | ⟨k, hk, e⟩
      · rw [e]; exact t.gu.mc y
      · rw [e]; intro e2; injection e2 with e2; omega
    · rw [updC_ne _ _ e]; exact t.gu.mc y
  · rw [hg2.block gk (by omega) (by intro e; injection e with e; exact t.gu.ms e), hg.block gk (by omega) (fun e => t.gu.mc x e.symm), hw.block gk hin]
    exact t.gu.eq
theorem TBG.fresh {W wA : World} {x : Int} {v1 : Value} (t : TBG wg gk w1 w tb pb ub A n c q size h sb nm P cs vf F) (hw : Below w.heap.size w W) (hg : W.grownBy wA vf.ownBlock)
    (hown : wA.ownsRow (tb + 1) 3 1 v1 (F.length + 1) (F.map (Value.int .i64) ++ [.int .i64 x])) (hbl : v1.ownBlock = vf.ownBlock ∨ ∃ k, w.heap.size ≤ k ∧ v1.ownBlock = some k) :
    TBG wg gk w1 (wA.setCell ⟨tb, 7, none⟩ v1) tb pb ub A n c q size h sb nm P cs v1 (F ++ [x]) := by
  have hin := t.gu.in_
  have hlo := t.gu.lo
  have hs1 := hw.size
  have hs2 := hg.size
  have hup := t.gu.up
  have hk : Kept (fun k => k = tb) wA (wA.setCell ⟨tb, 7, none⟩ v1) := Kept.set (S := fun k => k = tb) (Kept.refl _ _) (fun _ => rfl) 7 _
  have hs3 := hk.size
  refine ⟨t.toTB.fresh hw hg hown hbl, t.gu.lo, t.gu.lt, by omega, t.gu.ms, ?_, t.gu.mc, ?_⟩
  · rcases hbl with e | ⟨k, hk, e⟩
    · rw [e]; exact t.gu.mf
    · rw [e]; intro e2; injection e2 with e2; omega
  · rw [hk.block gk (by omega) (by omega), hg.block gk (by omega) (fun e => t.gu.mf e.symm), hw.block gk hin]
    exact t.gu.eq
end
/-- A table of h hops, and a guest. -/
def TabHG (wg : World) (gk : Nat) (w0 w : World) (tb : Nat) (A : Option Addr) (n c : Nat) (l : List Ed) (q by_ size : Int) (sh : List Int) (h : Nat) : Prop :=
  ∃ (w1 : World) (pb ub sb nm : Nat) (ct : List Value) (P : Int → List (Int × Int)) (cs : Int → Value) (vf : Value) (F : List Int), DC w0 w1 tb pb ub A n c l ct sh ∧ TBG wg gk w1 w tb pb ub A n c q size h sb nm P cs vf F ∧
    Steps P (lateL l size (opn sh q) q by_) h ∧ Cov l size (opn sh q) q (lateL l size (opn sh q) q by_ h) F ∧ (∀ x ∈ F, 1 ≤ x ∧ x ≤ 255) ∧ (∀ x ∈ F, (lateL l size (opn sh q) q by_ h x).isSome = true) ∧ F.length ≤ 255 ∧ (∀ x, (P x).length ≤ h + 1) ∧ nm ≤ 1 + 255 * h
section
variable {wg : World} {gk : Nat} {w0 w w' : World} {tb : Nat} {A : Option Addr} {n c : Nat} {l : List Ed} {q by_ size : Int} {sh : List Int} {h : Nat}
theorem TabHG.tab (t : TabHG wg gk w0 w tb A n c l q by_ size sh h) : TabH w0 w tb A n c l q by_ size sh h := by
  obtain ⟨w1, pb, ub, sb, nm, ct, P, cs, vf, F, hd, ht, rest⟩ := t
  exact ⟨w1, pb, ub, sb, nm, ct, P, cs, vf, F, hd, ht.toTB, rest⟩
theorem TabHG.below (t : TabHG wg gk w0 w tb A n c l q by_ size sh h) (hB : Below w.heap.size w w') : TabHG wg gk w0 w' tb A n c l q by_ size sh h := by
  obtain ⟨w1, pb, ub, sb, nm, ct, P, cs, vf, F, hd, ht, rest⟩ := t
  exact ⟨w1, pb, ub, sb, nm, ct, P, cs, vf, F, hd, ht.below hB, rest⟩
theorem TabHG.up (t : TabHG wg gk w0 w tb A n c l q by_ size sh h) : Below w0.heap.size w0 w := t.tab.up
theorem TabHG.eq (t : TabHG wg gk w0 w tb A n c l q by_ size sh h) : w.heap[gk]? = wg.heap[gk]? ∧ wg.heap.size ≤ w.heap.size := by
  obtain ⟨w1, pb, ub, sb, nm, ct, P, cs, vf, F, hd, ht, rest⟩ := t
  exact ⟨ht.gu.eq, ht.gu.up⟩
/-- What is made behind a table may be its guest. -/
theorem TabH.guest (t : TabH w0 w tb A n c l q by_ size sh h) (hB : Below w.heap.size w w') {gk : Nat} (h1 : w.heap.size ≤ gk) (h2 : gk < w'.heap.size) : TabHG w' gk w0 w' tb A n c l q by_ size sh h := by
  obtain ⟨w1, pb, ub, sb, nm, ct, P, cs, vf, F, hd, ht, rest⟩ := t
  have l1 := ht.box.lt
  have l2 := MapV.lt ht.sm.map
  refine ⟨w1, pb, ub, sb, nm, ct, P, cs, vf, F, hd, ⟨ht.below hB, by omega, h2, Nat.le_refl _, by omega, fun e => ?_, fun x e => ?_, rfl⟩, rest⟩
  · have := (ht.fr.lt gk e).2; omega
  · have := ((ht.sm.row x).lt gk e).2; omega
end
end Go.Proofs.YtmbaklodgpcegaaGreat
