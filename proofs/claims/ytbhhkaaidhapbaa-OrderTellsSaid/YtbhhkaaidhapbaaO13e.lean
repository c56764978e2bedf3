/- The document's Insert (feluccaref13). It makes new memory alone. No condition but on sizes. -/
import Derived.Test.YtbhhkaaidhapbaaO13c
import Derived.Test.YtbhhkaaidhapbaaGQ7
import Derived.Deep.CutBlock
import Derived.Deep.DeepCutAuto
namespace Go.Proofs.Ytbhhkaaidhapbaa
open Go.ChangeShapes Go.WideShapes Go.ChangeAt Go.RowKit Go.Sort
set_option linter.unusedSimpArgs false
set_option linter.unusedVariables false
theorem cells_of_blok {w : World} {b : Nat} {T : TypeId} {cs : Array Value} (h : Blok w b T cs) : ∀ j u, cs.toList[j]? = some u → w.cell? ((⟨b, 0, none⟩ : Addr).add j) = some u := fun j u hj => by
  have e : ((⟨b, 0, none⟩ : Addr).add j) = ⟨b, j, none⟩ := by
    unfold Addr.add; split <;> simp_all
  rw [e, h.cell j, ← hj]
  simp
theorem keep_app {w w1 w' : World} {x : Rx} {v : Value} (h : x.ok w) (ho : ∀ g, v.ownBlock = some g → x.offP g) (hg : w1.grownBy w' v.ownBlock) (hw : w1 = w ∨ ∃ o, w1 = w.alloc o := by first | exact .inl rfl | exact .inr ⟨_, rfl⟩) : x.ok w' := by
  have h1 : x.ok w1 := by
    rcases hw with rfl | ⟨o, rfl⟩
    · exact h
    · exact h.below ((Below.refl _ _).alloc (Nat.le_refl _) _)
  exact h1.keptP (S := fun g => v.ownBlock = some g) (Kept.of_grown hg fun k hk _ => hk) ho
def InsP (w : World) (R : List Rt) (s : Value) (wx : World) : Prop := RL wx s R ∧ Below w.heap.size w wx
set_option maxHeartbeats 8000000 in
set_option maxRecDepth 100000 in
theorem rins13V {w : World} {u v : Value} {l : List Rt} {t : Rt} (hu : RL w u l) (hv : RV w v t) (hn : l.length < 999) (most : Int) (r : List Rt) (hr : (compactT (sortT (l ++ [t]))).take most.toNat = r) : Calls Try.prog 14 #[u, v, .int .i64 most] w fun e w' => ∃ z, e = .returned z ∧ RL w' z r ∧ Below w.heap.size w w' := by
  obtain ⟨i0, hi0, hz0, hz1, hz2⟩ := info_parts infoRh
  obtain ⟨A, n, c, L, rfl, h2, h3, h4, h5⟩ := hu
  obtain ⟨B, m, k, rfl, k2, k3, k4⟩ := hv
  obtain ⟨td, tt⟩ := t
  have hnl : l.length = n := by rw [← h2, ← h3, List.length_map]
  have hn1 : n < 999 := by omega
  have hb0 : Below w.heap.size w (w.alloc (.cells #[.slice B m k, .int .i64 tt] 25)) := (Below.refl _ _).alloc (Nat.le_refl _) _
  have hX := Blok.new w 25 #[.slice B m k, .int .i64 tt]
  have HL := Lib.hid h2
  have HM := Lib.hid h3
  have HNL := Lib.hid hnl
  have HR := Lib.hid hr
  have HX : Hid ((⟨⟨B, m, k, tt⟩, td⟩ : Rx).ok (w.alloc (.cells #[.slice B m k, .int .i64 tt] 25))) := Rx.ok.below (w := w) ⟨k2, k3, k4⟩ hb0
  have HS := Lib.hid (fun w' (hb : Below (w.alloc (.cells #[.slice B m k, .int .i64 tt] 25)).heap.size (w.alloc (.cells #[.slice B m k, .int .i64 tt] 25)) w') => (h4.up hb0).up hb)
  have HOK := Lib.hid (fun x hx w' (hb : Below (w.alloc (.cells #[.slice B m k, .int .i64 tt] 25)).heap.size (w.alloc (.cells #[.slice B m k, .int .i64 tt] 25)) w') => ((h5 x hx).below hb0).below hb)
  clear h2 h3 h4 h5 k2 k4 hnl hn hr
  go_enter Try.func14, Try.ntmps14
  go_upto_region 1 with fail
  have hs0 := hb0.size
  generalize w.alloc (.cells #[.slice B m k, .int .i64 tt] 25) = w0 at *
  have HC := Lib.hid (fun w' (hb : Below w0.heap.size w0 w') => hX.below hb hX.lt)
  have hx0 : w0.cell? ⟨w.heap.size, 0, none⟩ = some (.slice B m k) := hX.cell 0
  have hx1 : w0.cell? ⟨w.heap.size, 1, none⟩ = some (.int .i64 tt) := hX.cell 1
  have hxl := hX.lt
  have HLIT : Hid (Blok (w0.alloc (.cells #[.slice B m k, .int .i64 tt] 25)).drew w0.heap.size 25 #[.slice B m k, .int .i64 tt]) := by
    have h2 := Blok.new w0 25 #[.slice B m k, .int .i64 tt]
    exact h2
  have hbl : Below w0.heap.size w0 (w0.alloc (.cells #[.slice B m k, .int .i64 tt] 25)) := (Below.refl _ _).alloc (Nat.le_refl _) _
  clear hX
  go_cut [7] (fun s7 wx => InsP w0 (compactT (sortT (l ++ [(td, tt)]))) s7 wx)
  case first =>
    go_region_law (first
      | (refine step_call rfl 10 #[.tmp 8] _ rfl #[.slice A n c] (by simp [Act.eval, Act.put]) Try.func10 rfl rfl ?_
         refine Calls.mono (rcopy13_rt A n c L _ HL.out (by omega) (HS.out _ (by (repeat (first | exact Below.refl _ _ | refine Below.alloc ?_ (by first | omega | (simp; done) | (simp; omega)) _ | refine Below.setCell ?_ (by first | omega | (simp; done) | (simp; omega)) _ | refine Below.drew ?_)))) (fun x hx => HOK.out x hx _ (by (repeat (first | exact Below.refl _ _ | refine Below.alloc ?_ (by first | omega | (simp; done) | (simp; omega)) _ | refine Below.setCell ?_ (by first | omega | (simp; done) | (simp; omega)) _ | refine Below.drew ?_))))) ?_
         rintro e w1 ⟨v1, rfl, hro, hb1⟩
         obtain ⟨L1, hrt1, hm1⟩ := hro
         have ho1 := hrt1.row
         have hl1 : L1.length = n := by have := congrArg List.length hm1; rw [List.length_map, List.length_map, HL.out] at this; exact this
         rw [hl1] at ho1
         obtain ⟨A1, c1, rfl⟩ := slice_of_own ho1
         have hB1 : Below w0.heap.size w0 w1 := Below.trans (by (repeat (first | exact Below.refl _ _ | refine Below.alloc ?_ (by first | omega | (simp; done) | (simp; omega)) _ | refine Below.setCell ?_ (by first | omega | (simp; done) | (simp; omega)) _ | refine Below.drew ?_))) (hb1.mono (by first | exact Nat.le_refl _ | (simp; done) | (simp; omega)))
         have HO1 : Hid (w1.ownsRow w0.heap.size 25 2 (.slice A1 n c1) n (flatRh (hdRx L1))) := own_downS ho1 (by first | exact Nat.le_refl _ | (simp; done) | (simp; omega))
         have hc1 := HC.out w1 hB1
         have y0 : w1.cell? ⟨w.heap.size, 0, none⟩ = some (.slice B m k) := hc1.cell 0
         have y1 : w1.cell? ⟨w.heap.size, 1, none⟩ = some (.int .i64 tt) := hc1.cell 1
         have yl := hc1.lt
         have hs1 := hB1.size
         first | (have HLT : Hid (Blok w1 w0.heap.size 25 #[.slice B m k, .int .i64 tt]) := Blok.below HLIT.out hb1 (by simp)) | skip
         have HM1 := Lib.hid hm1
         have HRT := Lib.hid hrt1
         clear hm1 hrt1 ho1 hb1 hc1
         refine ⟨_, rfl, ?_⟩)
      | (refine step_call rfl 12 #[.tmp 12] _ rfl #[.slice A2 (n + 1) c2] (by simp [Act.eval, Act.put]) Try.func12 rfl rfl ?_
         have hfl : flatRh (hdRx L1) ++ [.slice B m k, .int .i64 tt] = flatRh (hdRx (L1 ++ [(⟨⟨B, m, k, tt⟩, td⟩ : Rx)])) := by rw [hdRx_app, hdRx_one]
         have hsl := Sl.of_own HO2.out
         rw [hfl] at hsl
         have hln : L1.length = n := by have := congrArg List.length HM1.out; rw [List.length_map, List.length_map, HL.out] at this; exact this
         refine Calls.mono (rsort13_any A2 (n + 1) c2 (L1 ++ [(⟨⟨B, m, k, tt⟩, td⟩ : Rx)]) w2 (by rw [List.length_append, hln]; rfl) (by omega) hsl (fun y hy => by
            have hbb := hB2
            rcases List.mem_append.1 hy with hy | hy
            · exact HK2.out y hy
            · rw [List.mem_singleton.1 hy]
              exact HX.out.below hB2)) ?_
         rintro e w3 h3
         obtain ⟨v3, rfl, hro3, hb3⟩ := sortP_ds h3
         have hB3 : Below w0.heap.size w0 w3 := hB2.trans (hb3.mono hB2.size)
         have hfin : InsP w0 (compactT (sortT (l ++ [(td, tt)]))) v3 w3 := by
           refine ⟨?_, hB3⟩
           have h9 := hro3.rl
           rw [List.map_append, HM1.out, HM.out] at h9
           exact h9
         have HFIN := Lib.hid hfin
         clear hfin hro3 hb3 h3 hsl hfl
         refine ⟨_, rfl, ?_⟩)
      | (refine step_append_own rfl (.tmp 9) (.tmp 11) 22 rfl w0.heap.size 25 i0 _ 2 32 Try.underlying22 hi0 hz0 hz1 hz2 rfl (by decide) (.slice A1 n c1) n (flatRh (hdRx L1)) rfl (HO1.out.alloc _) _ 1 1 [.slice B m k, .int .i64 tt] rfl rfl (by exact lit_cells _ #[.slice B m k, .int .i64 tt] _ _ rfl) (by simp [Value.oneCell']) (by unfold maxLen; omega) (by omega) (by simp; omega) ?_
         intro v2 w2 hown2 hg2 hx2 hat2
         have hB2 : Below w0.heap.size w0 w2 := Below.grown (hB1.alloc hs1 _) hg2 (by simp; omega) (fun g hg => (HO1.out.lt g hg).1)
         have HK2 : Hid (∀ x ∈ L1, x.ok w2) := fun x hx => keep_app (HRT.out.ok x hx) (HRT.out.off x hx) hg2
         obtain ⟨A2, c2, rfl⟩ := slice_of_own hown2
         have HO2 := Lib.hid hown2
         clear hown2 hg2 hx2 hat2 y0 y1 yl)
      | (refine step_append_own rfl (.tmp 9) (.tmp 11) 22 rfl w0.heap.size 25 i0 _ 2 32 Try.underlying22 hi0 hz0 hz1 hz2 rfl (by decide) (.slice A1 n c1) n (flatRh (hdRx L1)) rfl HO1.out _ 1 1 [.slice B m k, .int .i64 tt] rfl rfl (by
            exact cells_of_blok HLT.out) (by simp [Value.oneCell']) (by unfold maxLen; omega) (by omega) (by omega) ?_
         intro v2 w2 hown2 hg2 hx2 hat2
         have hB2 : Below w0.heap.size w0 w2 := Below.grown hB1 hg2 hs1 (fun g hg => (HO1.out.lt g hg).1)
         have HK2 : Hid (∀ x ∈ L1, x.ok w2) := fun x hx => keep_app (HRT.out.ok x hx) (HRT.out.off x hx) hg2
         obtain ⟨A2, c2, rfl⟩ := slice_of_own hown2
         have HO2 := Lib.hid hown2
         clear hown2 hg2 hx2 hat2 y0 y1 yl))
    all_goals
      go_wp2_with fail
      go_meet
      exact HFIN.out
  case rest =>
    obtain ⟨hrl, hbz⟩ := hcut
    generalize wc = w4 at *
    have hB4 : Below w.heap.size w w4 := hb0.trans (hbz.mono hs0)
    obtain ⟨D, hD⟩ : ∃ D, compactT (sortT (l ++ [(td, tt)])) = D := ⟨_, rfl⟩
    rw [hD] at hrl
    have hr2 := HR.out
    rw [hD] at hr2
    obtain ⟨kd, hkd⟩ : ∃ q, D.length = q := ⟨_, rfl⟩
    obtain ⟨A7, c7, rfl⟩ := hrl.len hkd
    have hcap : kd ≤ c7 := by
      obtain ⟨A1, n1, c1, L1, e1, _, _, h4, _⟩ := hrl
      injection e1 with _ e2 e3
      subst e2 e3
      exact h4.cap
    have hkm : kd < 1000 := by
      have h3 := kpT_len (sortT (l ++ [(td, tt)])) (sortT (l ++ [(td, tt)])).length
      have h4 : (sortT (l ++ [(td, tt)])).length = (l ++ [(td, tt)]).length := sortT_len _
      have h5 : (kpT (sortT (l ++ [(td, tt)])) (sortT (l ++ [(td, tt)])).length).length = kd := by rw [← hkd, ← hD]; rfl
      rw [List.length_append, HNL.out] at h4
      simp at h4
      omega
    have HRL := Lib.hid hrl
    have HR2 := Lib.hid hr2
    have HKD := Lib.hid hkd
    clear hrl hr2 hD hkd hbz HC HX HOK HS HLIT
    by_cases h1 : most < 1
    · have h1b : decide (most < 1) = true := decide_eq_true h1
      go_wp2
      go_ret
      refine ⟨_, rfl, ?_, hB4⟩
      rw [← HR2.out, show most.toNat = 0 by omega, List.take_zero]
      exact RL.nil0 _
    · have h1b : decide (most < 1) = false := decide_eq_false h1
      obtain ⟨q, rfl⟩ : ∃ q : Nat, most = q := ⟨most.toNat, by omega⟩
      by_cases h2 : q < kd
      · have h2z : (q : Int) < (kd : Int) := by omega
        have h3z : (q : Int) ≤ (c7 : Int) := by omega
        go_wp2
        go_ret
        refine ⟨_, rfl, ?_, hB4⟩
        have h9 := HRL.out.take (m := q) (by omega)
        have h8 := HR2.out
        first | rw [show (q : Int).toNat = q by omega] at h8 | skip
        rw [← h8]
        exact h9
      · have h2z : ¬ (q : Int) < (kd : Int) := by omega
        go_wp2
        go_ret
        refine ⟨_, rfl, ?_, hB4⟩
        have h8 := HR2.out
        rw [List.take_of_length_le (by rw [HKD.out]; omega)] at h8
        rw [← h8]
        exact HRL.out
end Go.Proofs.Ytbhhkaaidhapbaa
