
/- direct.Words. It reads a table of the library's; it makes new memory alone. -/
import Derived.Test.YtggdomeeienjbaaDoorDWords2
import Derived.Deep.CutBlock
import Derived.Maps.AppendAt
import Derived.Test.YtggdomeeienjbaaDoorFacts4
namespace Go.Proofs.YtggdomeeienjbaaDoor
open Go.ChangeShapes Go.WideShapes Go.ChangeAt Go.RowKit Go.Sort
set_option linter.unusedSimpArgs false
set_option linter.unusedVariables false
theorem lit_atS {w : World} {B b n c : Nat} {d : List Bytes} (h : Sl w B 1 (some ⟨b, 0, none⟩) n c (vs d)) (hl : d.length = n) {k : Nat} (hk : k < n) : w.cell? ⟨b, k, none⟩ = some (.string (bs (gS d k))) := by
  obtain ⟨ad, e, _, hc⟩ := h.lst.atS hl hk
  injection e with e
  subst e
  have e2 : ((⟨b, 0, none⟩ : Addr).add k) = ⟨b, k, none⟩ := by unfold Addr.add; split <;> simp_all
  rw [e2] at hc
  exact hc
theorem opw_ex (w : World) : Calls Tryd.prog 31 #[] w fun e w' => ∃ b, e = .returned (.slice (some ⟨b, 0, none⟩) 4 4) ∧ Sl w' w'.heap.size 1 (some ⟨b, 0, none⟩) 4 4 (vs opW) ∧ Below w.heap.size w w' :=
  (opw_any w).mono fun e w' ⟨h1, h2, h3⟩ => ⟨_, h1, h2, h3⟩
theorem kdw_ex (w : World) : Calls Tryd.prog 32 #[] w fun e w' => ∃ b, e = .returned (.slice (some ⟨b, 0, none⟩) 3 3) ∧ Sl w' w'.heap.size 1 (some ⟨b, 0, none⟩) 3 3 (vs kdW) ∧ Below w.heap.size w w' :=
  (kdw_any w).mono fun e w' ⟨h1, h2, h3⟩ => ⟨_, h1, h2, h3⟩
def Sep (b : Nat) (A : Option Addr) (n : Nat) : Prop := ∀ ad, A = some ad → 0 < n → b ≤ ad.block
theorem sep_own {w : World} {base b : Nat} {T : TypeId} {K : Nat} {A : Option Addr} {n c : Nat} {xs : List Value} (h : w.ownsRow base T K (.slice A n c) n xs) (hb : b ≤ base) : Sep b A n := by
  intro ad e _
  subst e
  have := (h.lt ad.block rfl).1
  omega
def Off (A : Option Addr) (n : Nat) (v : Value) : Prop := ∀ ad, A = some ad → 0 < n → ∀ g, v.ownBlock = some g → ad.block ≠ g
theorem Sl.kept_off {w w' : World} {K : Nat} {A : Option Addr} {n c : Nat} {xs : List Value} {v : Value} (h : Sl w w.heap.size K A n c xs) (hg : w.grownBy w' v.ownBlock) (hb : Off A n v) : Sl w' w'.heap.size K A n c xs := by
  refine ⟨?_, h.cap, h.max, h.nil⟩
  refine ⟨h.lst.1, fun hn => ?_⟩
  obtain ⟨ad, e, hlt, hc⟩ := h.lst.2 hn
  refine ⟨ad, e, Nat.lt_of_lt_of_le hlt hg.size, fun j u hj => ?_⟩
  rw [World.cell?_of_block (w := w) (hg.block _ (by rw [add_block]; exact hlt) (by rw [add_block]; exact fun e2 => hb ad e hn ad.block e2.symm rfl))]
  exact hc j u hj
theorem Off.next {w : World} {A : Option Addr} {n c K : Nat} {xs : List Value} {v v' : Value} (h : Off A n v) (hs : Sl w w.heap.size K A n c xs) (hv : v'.ownBlock = v.ownBlock ∨ v'.ownBlock = some w.heap.size) : Off A n v' := by
  intro ad e hn g hg
  rcases hv with hv | hv
  · rw [hv] at hg
    exact h ad e hn g hg
  · rw [hv] at hg
    injection hg with hg
    obtain ⟨ad', e', hlt, _⟩ := hs.lst.2 hn
    rw [e] at e'
    injection e' with e'
    subst e'
    omega
theorem infoS04 : (Tryd.prog.info? 9).map (fun i => (i.zero, i.size, i.bytes)) = some (some (.string ByteArray.empty), 1, 16) := by kernel_rfl
set_option maxHeartbeats 8000000 in
set_option maxRecDepth 100000 in
theorem dwords_no (d : Dr) (w : World) (hw0 : (Lit.int .i64 d.op).wf = true) (hw1 : (Lit.int .i64 d.kd).wf = true) (hr : rightD d = false) : Calls Tryd.prog 23 #[.agg #[.int .i64 d.op, .int .i64 d.kd, .int .i64 d.id, .int .i64 d.fr, .int .i64 d.tn, .int .i64 d.st, .int .i64 d.en, .int .i64 d.rt, .int .i64 d.rf, .int .i64 d.rn, .int .i64 d.rs, .int .i64 d.re, .int .i64 d.ro]] w fun e w' => e = .returned (.tuple #[.slice none 0 0, .bool false]) ∧ Below w.heap.size w w' := by
  have hB : Below w.heap.size w (w.alloc (.cells #[.int .i64 d.op, .int .i64 d.kd, .int .i64 d.id, .int .i64 d.fr, .int .i64 d.tn, .int .i64 d.st, .int .i64 d.en, .int .i64 d.rt, .int .i64 d.rf, .int .i64 d.rn, .int .i64 d.rs, .int .i64 d.re, .int .i64 d.ro] 31)) := by (repeat (first | exact Below.refl _ _ | refine Below.alloc ?_ (by first | omega | (simp; done) | (simp; omega)) _ | refine Below.setCell ?_ (by first | omega | (simp; done) | (simp; omega)) _ | refine Below.drew ?_))
  have hX := Blok.new w 31 #[.int .i64 d.op, .int .i64 d.kd, .int .i64 d.id, .int .i64 d.fr, .int .i64 d.tn, .int .i64 d.st, .int .i64 d.en, .int .i64 d.rt, .int .i64 d.rf, .int .i64 d.rn, .int .i64 d.rs, .int .i64 d.re, .int .i64 d.ro]
  have hs := hB.size
  have HR := Lib.hid hr
  clear hr
  go_enter Tryd.func23, Tryd.ntmps23
  go_upto_region 1 with fail
  generalize w.alloc (.cells #[.int .i64 d.op, .int .i64 d.kd, .int .i64 d.id, .int .i64 d.fr, .int .i64 d.tn, .int .i64 d.st, .int .i64 d.en, .int .i64 d.rt, .int .i64 d.rf, .int .i64 d.rn, .int .i64 d.rs, .int .i64 d.re, .int .i64 d.ro] 31) = w0 at *
  have y0 : w0.cell? ⟨w.heap.size, 0, none⟩ = some (.int .i64 d.op) := hX.cell 0
  have y1 : w0.cell? ⟨w.heap.size, 1, none⟩ = some (.int .i64 d.kd) := hX.cell 1
  have y2 : w0.cell? ⟨w.heap.size, 2, none⟩ = some (.int .i64 d.id) := hX.cell 2
  have y3 : w0.cell? ⟨w.heap.size, 3, none⟩ = some (.int .i64 d.fr) := hX.cell 3
  have y4 : w0.cell? ⟨w.heap.size, 4, none⟩ = some (.int .i64 d.tn) := hX.cell 4
  have y5 : w0.cell? ⟨w.heap.size, 5, none⟩ = some (.int .i64 d.st) := hX.cell 5
  have y6 : w0.cell? ⟨w.heap.size, 6, none⟩ = some (.int .i64 d.en) := hX.cell 6
  have y7 : w0.cell? ⟨w.heap.size, 7, none⟩ = some (.int .i64 d.rt) := hX.cell 7
  have y8 : w0.cell? ⟨w.heap.size, 8, none⟩ = some (.int .i64 d.rf) := hX.cell 8
  have y9 : w0.cell? ⟨w.heap.size, 9, none⟩ = some (.int .i64 d.rn) := hX.cell 9
  have y10 : w0.cell? ⟨w.heap.size, 10, none⟩ = some (.int .i64 d.rs) := hX.cell 10
  have y11 : w0.cell? ⟨w.heap.size, 11, none⟩ = some (.int .i64 d.re) := hX.cell 11
  have y12 : w0.cell? ⟨w.heap.size, 12, none⟩ = some (.int .i64 d.ro) := hX.cell 12
  have lt_y := hX.lt
  go_wp2_with fail
  clear y0 y1 y2 y3 y4 y5 y6 y7 y8 y9 y10 y11 y12 lt_y
  refine (dright_any d w0 hw0 hw1 false HR.out).mono ?_
  rintro e w1 ⟨rfl, hb⟩
  replace hB := hB.trans (hb.mono hs)
  go_wp2_with fail
  go_ret2
  exact ⟨rfl, hB⟩
set_option maxHeartbeats 16000000 in
set_option maxRecDepth 100000 in
theorem dwords_yes (d : Dr) (w : World) (hw0 : (Lit.int .i64 d.op).wf = true) (hw1 : (Lit.int .i64 d.kd).wf = true) (hr : rightD d = true) (ht : TenTab w) : Calls Tryd.prog 23 #[.agg #[.int .i64 d.op, .int .i64 d.kd, .int .i64 d.id, .int .i64 d.fr, .int .i64 d.tn, .int .i64 d.st, .int .i64 d.en, .int .i64 d.rt, .int .i64 d.rf, .int .i64 d.rn, .int .i64 d.rs, .int .i64 d.re, .int .i64 d.ro]] w fun e w' => ∃ v, e = .returned (.tuple #[v, .bool true]) ∧ w'.ownsRow w.heap.size 9 1 v (2 + (numsD d).length) (vs (wordsD d)) ∧ Below w.heap.size w w' := by
  obtain ⟨i0, hi0, hz0, hz1, hz2⟩ := info_parts infoS04
  have hB : Below w.heap.size w (w.alloc (.cells #[.int .i64 d.op, .int .i64 d.kd, .int .i64 d.id, .int .i64 d.fr, .int .i64 d.tn, .int .i64 d.st, .int .i64 d.en, .int .i64 d.rt, .int .i64 d.rf, .int .i64 d.rn, .int .i64 d.rs, .int .i64 d.re, .int .i64 d.ro] 31)) := by (repeat (first | exact Below.refl _ _ | refine Below.alloc ?_ (by first | omega | (simp; done) | (simp; omega)) _ | refine Below.setCell ?_ (by first | omega | (simp; done) | (simp; omega)) _ | refine Below.drew ?_))
  have hX := Blok.new w 31 #[.int .i64 d.op, .int .i64 d.kd, .int .i64 d.id, .int .i64 d.fr, .int .i64 d.tn, .int .i64 d.st, .int .i64 d.en, .int .i64 d.rt, .int .i64 d.rf, .int .i64 d.rn, .int .i64 d.rs, .int .i64 d.re, .int .i64 d.ro]
  have hs := hB.size
  have HR := Lib.hid hr
  have HT := Lib.hid (ht.below hB)
  have HT0 := Lib.hid (fun w' (hb : Below w.heap.size w w') => ht.below hb)
  have hkn : knownD d = true := by unfold rightD at hr; simp only [Bool.and_eq_true] at hr; exact hr.1
  obtain ⟨f1, f2, f3, y, hfv, hfc, _, hop, hkd⟩ := form_nums d hkn
  have HN := Lib.hid (right_nums hr)
  have HFV := Lib.hid hfv
  have HFC := Lib.hid hfc
  clear hr ht hkn hfv hfc
  obtain ⟨ns, hns⟩ : ∃ ns, numsD d = ns := ⟨_, rfl⟩
  obtain ⟨m, hm⟩ : ∃ m, ns.length = m := ⟨_, rfl⟩
  obtain ⟨so, hso⟩ : ∃ so, gS opW d.op.toNat = so := ⟨_, rfl⟩
  obtain ⟨sk, hsk⟩ : ∃ sk, gS kdW d.kd.toNat = sk := ⟨_, rfl⟩
  have hwd : wordsD d = [so, sk] ++ ns.map Lib.itoa := by unfold wordsD; rw [hso, hsk, hns]
  rw [hwd, hns, hm]
  rw [hns] at HN HFC
  have hmb : m ≤ 6 := by
    rw [← hm, ← hns]
    unfold numsD
    repeat' split
    all_goals simp [nums0, nums1, nums2, nums3, nums4, nums5]
  have HM := Lib.hid hm
  have HSO := Lib.hid hso
  have HSK := Lib.hid hsk
  clear hwd hns hm hso hsk
  go_enter Tryd.func23, Tryd.ntmps23
  go_upto_region 1 with fail
  generalize w.alloc (.cells #[.int .i64 d.op, .int .i64 d.kd, .int .i64 d.id, .int .i64 d.fr, .int .i64 d.tn, .int .i64 d.st, .int .i64 d.en, .int .i64 d.rt, .int .i64 d.rf, .int .i64 d.rn, .int .i64 d.rs, .int .i64 d.re, .int .i64 d.ro] 31) = w0 at *
  have y0 : w0.cell? ⟨w.heap.size, 0, none⟩ = some (.int .i64 d.op) := hX.cell 0
  have y1 : w0.cell? ⟨w.heap.size, 1, none⟩ = some (.int .i64 d.kd) := hX.cell 1
  have y2 : w0.cell? ⟨w.heap.size, 2, none⟩ = some (.int .i64 d.id) := hX.cell 2
  have y3 : w0.cell? ⟨w.heap.size, 3, none⟩ = some (.int .i64 d.fr) := hX.cell 3
  have y4 : w0.cell? ⟨w.heap.size, 4, none⟩ = some (.int .i64 d.tn) := hX.cell 4
  have y5 : w0.cell? ⟨w.heap.size, 5, none⟩ = some (.int .i64 d.st) := hX.cell 5
  have y6 : w0.cell? ⟨w.heap.size, 6, none⟩ = some (.int .i64 d.en) := hX.cell 6
  have y7 : w0.cell? ⟨w.heap.size, 7, none⟩ = some (.int .i64 d.rt) := hX.cell 7
  have y8 : w0.cell? ⟨w.heap.size, 8, none⟩ = some (.int .i64 d.rf) := hX.cell 8
  have y9 : w0.cell? ⟨w.heap.size, 9, none⟩ = some (.int .i64 d.rn) := hX.cell 9
  have y10 : w0.cell? ⟨w.heap.size, 10, none⟩ = some (.int .i64 d.rs) := hX.cell 10
  have y11 : w0.cell? ⟨w.heap.size, 11, none⟩ = some (.int .i64 d.re) := hX.cell 11
  have y12 : w0.cell? ⟨w.heap.size, 12, none⟩ = some (.int .i64 d.ro) := hX.cell 12
  have lt_y := hX.lt
  go_wp2_with fail
  clear y0 y1 y2 y3 y4 y5 y6 y7 y8 y9 y10 y11 y12 lt_y
  refine (dright_any d w0 hw0 hw1 true HR.out).mono ?_
  rintro e w2 ⟨rfl, hb⟩
  replace HT := Lib.hid (HT.out.below hb)
  replace hX := hX.below hb hX.lt
  replace hB := hB.trans (hb.mono hs)
  replace hs := hB.size
  clear hb
  go_upto_region 3 with fail
  go_cut [4] (fun v wx => ∃ g, v = .slice (some ⟨g, 0, none⟩) 2 2 ∧ wx.ownsRow w.heap.size 9 1 (.slice (some ⟨g, 0, none⟩) 2 2) 2 (vs [so, sk]) ∧ Below w2.heap.size w2 wx)
  case first =>
    obtain ⟨ko, hko, hko1⟩ : ∃ ko : Nat, d.op = (ko : Int) ∧ ko < 4 := by
      rcases hop with h | h | h
      · exact ⟨1, h, by omega⟩
      · exact ⟨2, h, by omega⟩
      · exact ⟨3, h, by omega⟩
    obtain ⟨kk, hkk, hkk1⟩ : ∃ kk : Nat, d.kd = (kk : Int) ∧ kk < 3 := by
      rcases hkd with h | h
      · exact ⟨1, h, by omega⟩
      · exact ⟨2, h, by omega⟩
    have r0 : w2.cell? ⟨w.heap.size, 0, none⟩ = some (.int .i64 (ko : Int)) := by rw [← hko]; exact hX.cell 0
    have r1 : w2.cell? ⟨w.heap.size, 1, none⟩ = some (.int .i64 (kk : Int)) := by rw [← hkk]; exact hX.cell 1
    have lt_x := hX.lt
    have HS := Lib.hid hs
    have HSO1 : Hid (gS opW ko = so) := by have h := HSO.out; rw [hko] at h; exact h
    have HSK1 : Hid (gS kdW kk = sk) := by have h := HSK.out; rw [hkk] at h; exact h
    have b1 : (ko : Int) < 4 := by omega
    have b2 : (kk : Int) < 3 := by omega
    have b3 : (0 : Int) ≤ (ko : Int) := by omega
    have b4 : (0 : Int) ≤ (kk : Int) := by omega
    clear hX hB hs HR HT HN HFV HFC hw0 hw1 hop hkd hko hkk HSO HSK
    refine gen_frame ?_
    intro a0 ha0
    try simp only [List.append]
    refine wp_region_frames rfl (by kernel_rfl) (by kernel_rfl) (fun V x w' => Below w2.heap.size w2 w' ∧ (V.getD 0 true = true → ∃ b, x 0 = .slice (some ⟨b, 0, none⟩) 4 4 ∧ Sl w' w'.heap.size 1 (some ⟨b, 0, none⟩) 4 4 (vs opW)) ∧ (V.getD 1 true = true → x 1 = .pointer (some ⟨w.heap.size, 0, none⟩)) ∧ (V.getD 2 true = true → x 2 = .int .i64 (ko : Int)) ∧ (V.getD 3 true = true → ∃ ad, x 3 = .pointer (some ad) ∧ w'.cell? ad = some (.string (bs so))) ∧ (V.getD 4 true = true → x 4 = .string (bs so)) ∧ (V.getD 5 true = true → ∃ b, x 5 = .slice (some ⟨b, 0, none⟩) 3 3 ∧ Sl w' w'.heap.size 1 (some ⟨b, 0, none⟩) 3 3 (vs kdW)) ∧ (V.getD 6 true = true → x 6 = .pointer (some ⟨w.heap.size, 1, none⟩)) ∧ (V.getD 7 true = true → x 7 = .int .i64 (kk : Int)) ∧ (V.getD 8 true = true → ∃ ad, x 8 = .pointer (some ad) ∧ w'.cell? ad = some (.string (bs sk))) ∧ (V.getD 9 true = true → x 9 = .string (bs sk)) ∧ (V.getD 10 true = true → ∃ g, x 10 = .slice (some ⟨g, 0, none⟩) 2 2 ∧ w'.ownsRow w.heap.size 9 1 (.slice (some ⟨g, 0, none⟩) 2 2) 2 (vs [so, sk])) ∧ (V.getD 11 true = true → ∃ g, x 11 = .slice (some ⟨g, 0, none⟩) 2 2 ∧ w'.ownsRow w.heap.size 9 1 (.slice (some ⟨g, 0, none⟩) 2 2) 2 (vs [so, sk]))) ?_ ?_ ?_
    · intro x
      refine ⟨(Below.refl _ _).drew, ?_, ?_, ?_, ?_, ?_, ?_, ?_, ?_, ?_, ?_, ?_, ?_⟩ <;> exact fun h => by simp at h
    · intro V x b w' hbq hsz hF i hi hun haf hcl
      obtain ⟨hBw, f0, f1, f2, f3, f4, f5, f6, f7, f8, f9, f10, f11⟩ := hF
      have hbe : b = putAll a0 [some 10, some 11, some 12, some 13, some 14, some 15, some 16, some 17, some 18, some 19, some 20, some 4] x 0 := hbq
      have hz0 : a0.tmps.size = 43 := by rw [ha0]; rfl
      have e1 : b.eval (.tmp 1) = .pointer (some ⟨w.heap.size, 0, none⟩) := by rw [hbe, eval_out _ _ _ (by decide), ha0]; rfl
      have t1 : b.tmps[1]?.getD undef = .pointer (some ⟨w.heap.size, 0, none⟩) := by simpa [Act.eval] using e1
      clear hbq
      have hi' : i < 12 := hi
      clear hi
      obtain rfl | rfl | rfl | rfl | rfl | rfl | rfl | rfl | rfl | rfl | rfl | rfl : i = 0 ∨ i = 1 ∨ i = 2 ∨ i = 3 ∨ i = 4 ∨ i = 5 ∨ i = 6 ∨ i = 7 ∨ i = 8 ∨ i = 9 ∨ i = 10 ∨ i = 11 := by omega
      · refine wpOp_of rfl ?_
        refine step_call rfl 31 #[] _ rfl #[] (by simp) Tryd.func31 rfl rfl ?_
        refine (opw_ex _).mono ?_
        rintro e w'' ⟨b0, rfl, hs0, hb⟩
        exact ⟨_, rfl, _, _, rfl, rfl, ⟨hBw.trans (hb.mono hBw.size), fun _ => ⟨b0, upd_same _ _ _, hs0⟩, fun h => by rw [upd_ne x _ (by decide)]; exact f1 (by rw [← getD_set_ne true (show 0 ≠ 1 by decide)]; exact h), fun h => by rw [upd_ne x _ (by decide)]; exact f2 (by rw [← getD_set_ne true (show 0 ≠ 2 by decide)]; exact h), fun h => by obtain ⟨ad, hx, hc0⟩ := f3 (by rw [← getD_set_ne true (show 0 ≠ 3 by decide)]; exact h); exact ⟨ad, by rw [upd_ne x _ (by decide)]; exact hx, (hb.cell (block_lt_of_cell hc0)).trans hc0⟩, fun h => by rw [upd_ne x _ (by decide)]; exact f4 (by rw [← getD_set_ne true (show 0 ≠ 4 by decide)]; exact h), fun h => by obtain ⟨b0, hx, hs0⟩ := f5 (by rw [← getD_set_ne true (show 0 ≠ 5 by decide)]; exact h); exact ⟨b0, by rw [upd_ne x _ (by decide)]; exact hx, hs0.up hb⟩, fun h => by rw [upd_ne x _ (by decide)]; exact f6 (by rw [← getD_set_ne true (show 0 ≠ 6 by decide)]; exact h), fun h => by rw [upd_ne x _ (by decide)]; exact f7 (by rw [← getD_set_ne true (show 0 ≠ 7 by decide)]; exact h), fun h => by obtain ⟨ad, hx, hc0⟩ := f8 (by rw [← getD_set_ne true (show 0 ≠ 8 by decide)]; exact h); exact ⟨ad, by rw [upd_ne x _ (by decide)]; exact hx, (hb.cell (block_lt_of_cell hc0)).trans hc0⟩, fun h => by rw [upd_ne x _ (by decide)]; exact f9 (by rw [← getD_set_ne true (show 0 ≠ 9 by decide)]; exact h), fun h => by obtain ⟨g, hx, ho⟩ := f10 (by rw [← getD_set_ne true (show 0 ≠ 10 by decide)]; exact h); exact ⟨g, by rw [upd_ne x _ (by decide)]; exact hx, own_below ho hb⟩, fun h => by obtain ⟨g, hx, ho⟩ := f11 (by rw [← getD_set_ne true (show 0 ≠ 11 by decide)]; exact h); exact ⟨g, by rw [upd_ne x _ (by decide)]; exact hx, own_below ho hb⟩⟩⟩
      · refine wpOp_runs (v := .pointer (some ⟨w.heap.size, 0, none⟩)) rfl rfl (by simp [execOp, go_sem, t1]) ⟨_, _, rfl, rfl, ⟨hBw, fun h => by obtain ⟨b0, hx, hs0⟩ := f0 (by rw [← getD_set_ne true (show 1 ≠ 0 by decide)]; exact h); exact ⟨b0, by rw [upd_ne x _ (by decide)]; exact hx, hs0⟩, fun _ => upd_same _ _ _, fun h => by rw [upd_ne x _ (by decide)]; exact f2 (by rw [← getD_set_ne true (show 1 ≠ 2 by decide)]; exact h), fun h => by obtain ⟨ad, hx, hc0⟩ := f3 (by rw [← getD_set_ne true (show 1 ≠ 3 by decide)]; exact h); exact ⟨ad, by rw [upd_ne x _ (by decide)]; exact hx, hc0⟩, fun h => by rw [upd_ne x _ (by decide)]; exact f4 (by rw [← getD_set_ne true (show 1 ≠ 4 by decide)]; exact h), fun h => by obtain ⟨b0, hx, hs0⟩ := f5 (by rw [← getD_set_ne true (show 1 ≠ 5 by decide)]; exact h); exact ⟨b0, by rw [upd_ne x _ (by decide)]; exact hx, hs0⟩, fun h => by rw [upd_ne x _ (by decide)]; exact f6 (by rw [← getD_set_ne true (show 1 ≠ 6 by decide)]; exact h), fun h => by rw [upd_ne x _ (by decide)]; exact f7 (by rw [← getD_set_ne true (show 1 ≠ 7 by decide)]; exact h), fun h => by obtain ⟨ad, hx, hc0⟩ := f8 (by rw [← getD_set_ne true (show 1 ≠ 8 by decide)]; exact h); exact ⟨ad, by rw [upd_ne x _ (by decide)]; exact hx, hc0⟩, fun h => by rw [upd_ne x _ (by decide)]; exact f9 (by rw [← getD_set_ne true (show 1 ≠ 9 by decide)]; exact h), fun h => by obtain ⟨g, hx, ho⟩ := f10 (by rw [← getD_set_ne true (show 1 ≠ 10 by decide)]; exact h); exact ⟨g, by rw [upd_ne x _ (by decide)]; exact hx, ho⟩, fun h => by obtain ⟨g, hx, ho⟩ := f11 (by rw [← getD_set_ne true (show 1 ≠ 11 by decide)]; exact h); exact ⟨g, by rw [upd_ne x _ (by decide)]; exact hx, ho⟩⟩⟩
      · have d1 := getD_ft (haf _ rfl ⟨1, .data⟩ (by simp) rfl)
        have e11 : b.eval (.tmp 11) = .pointer (some ⟨w.heap.size, 0, none⟩) := by rw [hbe, eval_in _ _ _ 1 (by decide) rfl (by rw [hz0]; decide)]; exact f1 d1
        have t11 : b.tmps[11]?.getD undef = .pointer (some ⟨w.heap.size, 0, none⟩) := by have tv := e11; simpa only [Act.eval, Array.getD_eq_getD_getElem?] using tv
        have rr := (hBw.cell (block_lt_of_cell r0)).trans r0
        refine wpOp_runs (v := .int .i64 (ko : Int)) rfl rfl (by simp [execOp, go_sem, t11, rr]) ⟨_, _, rfl, rfl, ⟨hBw, fun h => by obtain ⟨b0, hx, hs0⟩ := f0 (by rw [← getD_set_ne true (show 2 ≠ 0 by decide)]; exact h); exact ⟨b0, by rw [upd_ne x _ (by decide)]; exact hx, hs0⟩, fun h => by rw [upd_ne x _ (by decide)]; exact f1 (by rw [← getD_set_ne true (show 2 ≠ 1 by decide)]; exact h), fun _ => upd_same _ _ _, fun h => by obtain ⟨ad, hx, hc0⟩ := f3 (by rw [← getD_set_ne true (show 2 ≠ 3 by decide)]; exact h); exact ⟨ad, by rw [upd_ne x _ (by decide)]; exact hx, hc0⟩, fun h => by rw [upd_ne x _ (by decide)]; exact f4 (by rw [← getD_set_ne true (show 2 ≠ 4 by decide)]; exact h), fun h => by obtain ⟨b0, hx, hs0⟩ := f5 (by rw [← getD_set_ne true (show 2 ≠ 5 by decide)]; exact h); exact ⟨b0, by rw [upd_ne x _ (by decide)]; exact hx, hs0⟩, fun h => by rw [upd_ne x _ (by decide)]; exact f6 (by rw [← getD_set_ne true (show 2 ≠ 6 by decide)]; exact h), fun h => by rw [upd_ne x _ (by decide)]; exact f7 (by rw [← getD_set_ne true (show 2 ≠ 7 by decide)]; exact h), fun h => by obtain ⟨ad, hx, hc0⟩ := f8 (by rw [← getD_set_ne true (show 2 ≠ 8 by decide)]; exact h); exact ⟨ad, by rw [upd_ne x _ (by decide)]; exact hx, hc0⟩, fun h => by rw [upd_ne x _ (by decide)]; exact f9 (by rw [← getD_set_ne true (show 2 ≠ 9 by decide)]; exact h), fun h => by obtain ⟨g, hx, ho⟩ := f10 (by rw [← getD_set_ne true (show 2 ≠ 10 by decide)]; exact h); exact ⟨g, by rw [upd_ne x _ (by decide)]; exact hx, ho⟩, fun h => by obtain ⟨g, hx, ho⟩ := f11 (by rw [← getD_set_ne true (show 2 ≠ 11 by decide)]; exact h); exact ⟨g, by rw [upd_ne x _ (by decide)]; exact hx, ho⟩⟩⟩
      · have d0 := getD_ft (haf _ rfl ⟨0, .data⟩ (by simp) rfl)
        have d2 := getD_ft (haf _ rfl ⟨2, .data⟩ (by simp) rfl)
        obtain ⟨b0, hx0, hs0⟩ := f0 d0
        have e10 : b.eval (.tmp 10) = .slice (some ⟨b0, 0, none⟩) 4 4 := by rw [hbe, eval_in _ _ _ 0 (by decide) rfl (by rw [hz0]; decide)]; exact hx0
        have t10 : b.tmps[10]?.getD undef = .slice (some ⟨b0, 0, none⟩) 4 4 := by have tv := e10; simpa only [Act.eval, Array.getD_eq_getD_getElem?] using tv
        have e12 : b.eval (.tmp 12) = .int .i64 (ko : Int) := by rw [hbe, eval_in _ _ _ 2 (by decide) rfl (by rw [hz0]; decide)]; exact f2 d2
        have t12 : b.tmps[12]?.getD undef = .int .i64 (ko : Int) := by have tv := e12; simpa only [Act.eval, Array.getD_eq_getD_getElem?] using tv
        obtain ⟨ad, ead, _, hc0⟩ := hs0.lst.atS (k := ko) rfl hko1
        injection ead with ead
        subst ead
        rw [HSO1.out] at hc0
        refine wpOp_runs (v := .pointer (some ((⟨b0, 0, none⟩ : Addr).add ko))) rfl rfl (by simp [execOp, go_sem, t10, t12, b1, b3]) ⟨_, _, rfl, rfl, ⟨hBw, fun h => by obtain ⟨b0, hx, hs0⟩ := f0 (by rw [← getD_set_ne true (show 3 ≠ 0 by decide)]; exact h); exact ⟨b0, by rw [upd_ne x _ (by decide)]; exact hx, hs0⟩, fun h => by rw [upd_ne x _ (by decide)]; exact f1 (by rw [← getD_set_ne true (show 3 ≠ 1 by decide)]; exact h), fun h => by rw [upd_ne x _ (by decide)]; exact f2 (by rw [← getD_set_ne true (show 3 ≠ 2 by decide)]; exact h), fun _ => ⟨_, upd_same _ _ _, hc0⟩, fun h => by rw [upd_ne x _ (by decide)]; exact f4 (by rw [← getD_set_ne true (show 3 ≠ 4 by decide)]; exact h), fun h => by obtain ⟨b0, hx, hs0⟩ := f5 (by rw [← getD_set_ne true (show 3 ≠ 5 by decide)]; exact h); exact ⟨b0, by rw [upd_ne x _ (by decide)]; exact hx, hs0⟩, fun h => by rw [upd_ne x _ (by decide)]; exact f6 (by rw [← getD_set_ne true (show 3 ≠ 6 by decide)]; exact h), fun h => by rw [upd_ne x _ (by decide)]; exact f7 (by rw [← getD_set_ne true (show 3 ≠ 7 by decide)]; exact h), fun h => by obtain ⟨ad, hx, hc0⟩ := f8 (by rw [← getD_set_ne true (show 3 ≠ 8 by decide)]; exact h); exact ⟨ad, by rw [upd_ne x _ (by decide)]; exact hx, hc0⟩, fun h => by rw [upd_ne x _ (by decide)]; exact f9 (by rw [← getD_set_ne true (show 3 ≠ 9 by decide)]; exact h), fun h => by obtain ⟨g, hx, ho⟩ := f10 (by rw [← getD_set_ne true (show 3 ≠ 10 by decide)]; exact h); exact ⟨g, by rw [upd_ne x _ (by decide)]; exact hx, ho⟩, fun h => by obtain ⟨g, hx, ho⟩ := f11 (by rw [← getD_set_ne true (show 3 ≠ 11 by decide)]; exact h); exact ⟨g, by rw [upd_ne x _ (by decide)]; exact hx, ho⟩⟩⟩
      · have d3 := getD_ft (haf _ rfl ⟨3, .data⟩ (by simp) rfl)
        obtain ⟨ad, hx0, hc0⟩ := f3 d3
        have e13 : b.eval (.tmp 13) = .pointer (some ad) := by rw [hbe, eval_in _ _ _ 3 (by decide) rfl (by rw [hz0]; decide)]; exact hx0
        have t13 : b.tmps[13]?.getD undef = .pointer (some ad) := by have tv := e13; simpa only [Act.eval, Array.getD_eq_getD_getElem?] using tv
        refine wpOp_runs (v := .string (bs so)) rfl rfl (by simp [execOp, go_sem, t13, hc0]) ⟨_, _, rfl, rfl, ⟨hBw, fun h => by obtain ⟨b0, hx, hs0⟩ := f0 (by rw [← getD_set_ne true (show 4 ≠ 0 by decide)]; exact h); exact ⟨b0, by rw [upd_ne x _ (by decide)]; exact hx, hs0⟩, fun h => by rw [upd_ne x _ (by decide)]; exact f1 (by rw [← getD_set_ne true (show 4 ≠ 1 by decide)]; exact h), fun h => by rw [upd_ne x _ (by decide)]; exact f2 (by rw [← getD_set_ne true (show 4 ≠ 2 by decide)]; exact h), fun h => by obtain ⟨ad, hx, hc0⟩ := f3 (by rw [← getD_set_ne true (show 4 ≠ 3 by decide)]; exact h); exact ⟨ad, by rw [upd_ne x _ (by decide)]; exact hx, hc0⟩, fun _ => upd_same _ _ _, fun h => by obtain ⟨b0, hx, hs0⟩ := f5 (by rw [← getD_set_ne true (show 4 ≠ 5 by decide)]; exact h); exact ⟨b0, by rw [upd_ne x _ (by decide)]; exact hx, hs0⟩, fun h => by rw [upd_ne x _ (by decide)]; exact f6 (by rw [← getD_set_ne true (show 4 ≠ 6 by decide)]; exact h), fun h => by rw [upd_ne x _ (by decide)]; exact f7 (by rw [← getD_set_ne true (show 4 ≠ 7 by decide)]; exact h), fun h => by obtain ⟨ad, hx, hc0⟩ := f8 (by rw [← getD_set_ne true (show 4 ≠ 8 by decide)]; exact h); exact ⟨ad, by rw [upd_ne x _ (by decide)]; exact hx, hc0⟩, fun h => by rw [upd_ne x _ (by decide)]; exact f9 (by rw [← getD_set_ne true (show 4 ≠ 9 by decide)]; exact h), fun h => by obtain ⟨g, hx, ho⟩ := f10 (by rw [← getD_set_ne true (show 4 ≠ 10 by decide)]; exact h); exact ⟨g, by rw [upd_ne x _ (by decide)]; exact hx, ho⟩, fun h => by obtain ⟨g, hx, ho⟩ := f11 (by rw [← getD_set_ne true (show 4 ≠ 11 by decide)]; exact h); exact ⟨g, by rw [upd_ne x _ (by decide)]; exact hx, ho⟩⟩⟩
      · refine wpOp_of rfl ?_
        refine step_call rfl 32 #[] _ rfl #[] (by simp) Tryd.func32 rfl rfl ?_
        refine (kdw_ex _).mono ?_
        rintro e w'' ⟨b0, rfl, hs0, hb⟩
        exact ⟨_, rfl, _, _, rfl, rfl, ⟨hBw.trans (hb.mono hBw.size), fun h => by obtain ⟨b0, hx, hs0⟩ := f0 (by rw [← getD_set_ne true (show 5 ≠ 0 by decide)]; exact h); exact ⟨b0, by rw [upd_ne x _ (by decide)]; exact hx, hs0.up hb⟩, fun h => by rw [upd_ne x _ (by decide)]; exact f1 (by rw [← getD_set_ne true (show 5 ≠ 1 by decide)]; exact h), fun h => by rw [upd_ne x _ (by decide)]; exact f2 (by rw [← getD_set_ne true (show 5 ≠ 2 by decide)]; exact h), fun h => by obtain ⟨ad, hx, hc0⟩ := f3 (by rw [← getD_set_ne true (show 5 ≠ 3 by decide)]; exact h); exact ⟨ad, by rw [upd_ne x _ (by decide)]; exact hx, (hb.cell (block_lt_of_cell hc0)).trans hc0⟩, fun h => by rw [upd_ne x _ (by decide)]; exact f4 (by rw [← getD_set_ne true (show 5 ≠ 4 by decide)]; exact h), fun _ => ⟨b0, upd_same _ _ _, hs0⟩, fun h => by rw [upd_ne x _ (by decide)]; exact f6 (by rw [← getD_set_ne true (show 5 ≠ 6 by decide)]; exact h), fun h => by rw [upd_ne x _ (by decide)]; exact f7 (by rw [← getD_set_ne true (show 5 ≠ 7 by decide)]; exact h), fun h => by obtain ⟨ad, hx, hc0⟩ := f8 (by rw [← getD_set_ne true (show 5 ≠ 8 by decide)]; exact h); exact ⟨ad, by rw [upd_ne x _ (by decide)]; exact hx, (hb.cell (block_lt_of_cell hc0)).trans hc0⟩, fun h => by rw [upd_ne x _ (by decide)]; exact f9 (by rw [← getD_set_ne true (show 5 ≠ 9 by decide)]; exact h), fun h => by obtain ⟨g, hx, ho⟩ := f10 (by rw [← getD_set_ne true (show 5 ≠ 10 by decide)]; exact h); exact ⟨g, by rw [upd_ne x _ (by decide)]; exact hx, own_below ho hb⟩, fun h => by obtain ⟨g, hx, ho⟩ := f11 (by rw [← getD_set_ne true (show 5 ≠ 11 by decide)]; exact h); exact ⟨g, by rw [upd_ne x _ (by decide)]; exact hx, own_below ho hb⟩⟩⟩
      · refine wpOp_runs (v := .pointer (some ⟨w.heap.size, 1, none⟩)) rfl rfl (by simp [execOp, go_sem, t1]) ⟨_, _, rfl, rfl, ⟨hBw, fun h => by obtain ⟨b0, hx, hs0⟩ := f0 (by rw [← getD_set_ne true (show 6 ≠ 0 by decide)]; exact h); exact ⟨b0, by rw [upd_ne x _ (by decide)]; exact hx, hs0⟩, fun h => by rw [upd_ne x _ (by decide)]; exact f1 (by rw [← getD_set_ne true (show 6 ≠ 1 by decide)]; exact h), fun h => by rw [upd_ne x _ (by decide)]; exact f2 (by rw [← getD_set_ne true (show 6 ≠ 2 by decide)]; exact h), fun h => by obtain ⟨ad, hx, hc0⟩ := f3 (by rw [← getD_set_ne true (show 6 ≠ 3 by decide)]; exact h); exact ⟨ad, by rw [upd_ne x _ (by decide)]; exact hx, hc0⟩, fun h => by rw [upd_ne x _ (by decide)]; exact f4 (by rw [← getD_set_ne true (show 6 ≠ 4 by decide)]; exact h), fun h => by obtain ⟨b0, hx, hs0⟩ := f5 (by rw [← getD_set_ne true (show 6 ≠ 5 by decide)]; exact h); exact ⟨b0, by rw [upd_ne x _ (by decide)]; exact hx, hs0⟩, fun _ => upd_same _ _ _, fun h => by rw [upd_ne x _ (by decide)]; exact f7 (by rw [← getD_set_ne true (show 6 ≠ 7 by decide)]; exact h), fun h => by obtain ⟨ad, hx, hc0⟩ := f8 (by rw [← getD_set_ne true (show 6 ≠ 8 by decide)]; exact h); exact ⟨ad, by rw [upd_ne x _ (by decide)]; exact hx, hc0⟩, fun h => by rw [upd_ne x _ (by decide)]; exact f9 (by rw [← getD_set_ne true (show 6 ≠ 9 by decide)]; exact h), fun h => by obtain ⟨g, hx, ho⟩ := f10 (by rw [← getD_set_ne true (show 6 ≠ 10 by decide)]; exact h); exact ⟨g, by rw [upd_ne x _ (by decide)]; exact hx, ho⟩, fun h => by obtain ⟨g, hx, ho⟩ := f11 (by rw [← getD_set_ne true (show 6 ≠ 11 by decide)]; exact h); exact ⟨g, by rw [upd_ne x _ (by decide)]; exact hx, ho⟩⟩⟩
      · have d6 := getD_ft (haf _ rfl ⟨6, .data⟩ (by simp) rfl)
        have e16 : b.eval (.tmp 16) = .pointer (some ⟨w.heap.size, 1, none⟩) := by rw [hbe, eval_in _ _ _ 6 (by decide) rfl (by rw [hz0]; decide)]; exact f6 d6
        have t16 : b.tmps[16]?.getD undef = .pointer (some ⟨w.heap.size, 1, none⟩) := by have tv := e16; simpa only [Act.eval, Array.getD_eq_getD_getElem?] using tv
        have rr := (hBw.cell (block_lt_of_cell r1)).trans r1
        refine wpOp_runs (v := .int .i64 (kk : Int)) rfl rfl (by simp [execOp, go_sem, t16, rr]) ⟨_, _, rfl, rfl, ⟨hBw, fun h => by obtain ⟨b0, hx, hs0⟩ := f0 (by rw [← getD_set_ne true (show 7 ≠ 0 by decide)]; exact h); exact ⟨b0, by rw [upd_ne x _ (by decide)]; exact hx, hs0⟩, fun h => by rw [upd_ne x _ (by decide)]; exact f1 (by rw [← getD_set_ne true (show 7 ≠ 1 by decide)]; exact h), fun h => by rw [upd_ne x _ (by decide)]; exact f2 (by rw [← getD_set_ne true (show 7 ≠ 2 by decide)]; exact h), fun h => by obtain ⟨ad, hx, hc0⟩ := f3 (by rw [← getD_set_ne true (show 7 ≠ 3 by decide)]; exact h); exact ⟨ad, by rw [upd_ne x _ (by decide)]; exact hx, hc0⟩, fun h => by rw [upd_ne x _ (by decide)]; exact f4 (by rw [← getD_set_ne true (show 7 ≠ 4 by decide)]; exact h), fun h => by obtain ⟨b0, hx, hs0⟩ := f5 (by rw [← getD_set_ne true (show 7 ≠ 5 by decide)]; exact h); exact ⟨b0, by rw [upd_ne x _ (by decide)]; exact hx, hs0⟩, fun h => by rw [upd_ne x _ (by decide)]; exact f6 (by rw [← getD_set_ne true (show 7 ≠ 6 by decide)]; exact h), fun _ => upd_same _ _ _, fun h => by obtain ⟨ad, hx, hc0⟩ := f8 (by rw [← getD_set_ne true (show 7 ≠ 8 by decide)]; exact h); exact ⟨ad, by rw [upd_ne x _ (by decide)]; exact hx, hc0⟩, fun h => by rw [upd_ne x _ (by decide)]; exact f9 (by rw [← getD_set_ne true (show 7 ≠ 9 by decide)]; exact h), fun h => by obtain ⟨g, hx, ho⟩ := f10 (by rw [← getD_set_ne true (show 7 ≠ 10 by decide)]; exact h); exact ⟨g, by rw [upd_ne x _ (by decide)]; exact hx, ho⟩, fun h => by obtain ⟨g, hx, ho⟩ := f11 (by rw [← getD_set_ne true (show 7 ≠ 11 by decide)]; exact h); exact ⟨g, by rw [upd_ne x _ (by decide)]; exact hx, ho⟩⟩⟩
      · have d5 := getD_ft (haf _ rfl ⟨5, .data⟩ (by simp) rfl)
        have d7 := getD_ft (haf _ rfl ⟨7, .data⟩ (by simp) rfl)
        obtain ⟨b0, hx0, hs0⟩ := f5 d5
        have e15 : b.eval (.tmp 15) = .slice (some ⟨b0, 0, none⟩) 3 3 := by rw [hbe, eval_in _ _ _ 5 (by decide) rfl (by rw [hz0]; decide)]; exact hx0
        have t15 : b.tmps[15]?.getD undef = .slice (some ⟨b0, 0, none⟩) 3 3 := by have tv := e15; simpa only [Act.eval, Array.getD_eq_getD_getElem?] using tv
        have e17 : b.eval (.tmp 17) = .int .i64 (kk : Int) := by rw [hbe, eval_in _ _ _ 7 (by decide) rfl (by rw [hz0]; decide)]; exact f7 d7
        have t17 : b.tmps[17]?.getD undef = .int .i64 (kk : Int) := by have tv := e17; simpa only [Act.eval, Array.getD_eq_getD_getElem?] using tv
        obtain ⟨ad, ead, _, hc0⟩ := hs0.lst.atS (k := kk) rfl hkk1
        injection ead with ead
        subst ead
        rw [HSK1.out] at hc0
        refine wpOp_runs (v := .pointer (some ((⟨b0, 0, none⟩ : Addr).add kk))) rfl rfl (by simp [execOp, go_sem, t15, t17, b2, b4]) ⟨_, _, rfl, rfl, ⟨hBw, fun h => by obtain ⟨b0, hx, hs0⟩ := f0 (by rw [← getD_set_ne true (show 8 ≠ 0 by decide)]; exact h); exact ⟨b0, by rw [upd_ne x _ (by decide)]; exact hx, hs0⟩, fun h => by rw [upd_ne x _ (by decide)]; exact f1 (by rw [← getD_set_ne true (show 8 ≠ 1 by decide)]; exact h), fun h => by rw [upd_ne x _ (by decide)]; exact f2 (by rw [← getD_set_ne true (show 8 ≠ 2 by decide)]; exact h), fun h => by obtain ⟨ad, hx, hc0⟩ := f3 (by rw [← getD_set_ne true (show 8 ≠ 3 by decide)]; exact h); exact ⟨ad, by rw [upd_ne x _ (by decide)]; exact hx, hc0⟩, fun h => by rw [upd_ne x _ (by decide)]; exact f4 (by rw [← getD_set_ne true (show 8 ≠ 4 by decide)]; exact h), fun h => by obtain ⟨b0, hx, hs0⟩ := f5 (by rw [← getD_set_ne true (show 8 ≠ 5 by decide)]; exact h); exact ⟨b0, by rw [upd_ne x _ (by decide)]; exact hx, hs0⟩, fun h => by rw [upd_ne x _ (by decide)]; exact f6 (by rw [← getD_set_ne true (show 8 ≠ 6 by decide)]; exact h), fun h => by rw [upd_ne x _ (by decide)]; exact f7 (by rw [← getD_set_ne true (show 8 ≠ 7 by decide)]; exact h), fun _ => ⟨_, upd_same _ _ _, hc0⟩, fun h => by rw [upd_ne x _ (by decide)]; exact f9 (by rw [← getD_set_ne true (show 8 ≠ 9 by decide)]; exact h), fun h => by obtain ⟨g, hx, ho⟩ := f10 (by rw [← getD_set_ne true (show 8 ≠ 10 by decide)]; exact h); exact ⟨g, by rw [upd_ne x _ (by decide)]; exact hx, ho⟩, fun h => by obtain ⟨g, hx, ho⟩ := f11 (by rw [← getD_set_ne true (show 8 ≠ 11 by decide)]; exact h); exact ⟨g, by rw [upd_ne x _ (by decide)]; exact hx, ho⟩⟩⟩
      · have d8 := getD_ft (haf _ rfl ⟨8, .data⟩ (by simp) rfl)
        obtain ⟨ad, hx0, hc0⟩ := f8 d8
        have e18 : b.eval (.tmp 18) = .pointer (some ad) := by rw [hbe, eval_in _ _ _ 8 (by decide) rfl (by rw [hz0]; decide)]; exact hx0
        have t18 : b.tmps[18]?.getD undef = .pointer (some ad) := by have tv := e18; simpa only [Act.eval, Array.getD_eq_getD_getElem?] using tv
        refine wpOp_runs (v := .string (bs sk)) rfl rfl (by simp [execOp, go_sem, t18, hc0]) ⟨_, _, rfl, rfl, ⟨hBw, fun h => by obtain ⟨b0, hx, hs0⟩ := f0 (by rw [← getD_set_ne true (show 9 ≠ 0 by decide)]; exact h); exact ⟨b0, by rw [upd_ne x _ (by decide)]; exact hx, hs0⟩, fun h => by rw [upd_ne x _ (by decide)]; exact f1 (by rw [← getD_set_ne true (show 9 ≠ 1 by decide)]; exact h), fun h => by rw [upd_ne x _ (by decide)]; exact f2 (by rw [← getD_set_ne true (show 9 ≠ 2 by decide)]; exact h), fun h => by obtain ⟨ad, hx, hc0⟩ := f3 (by rw [← getD_set_ne true (show 9 ≠ 3 by decide)]; exact h); exact ⟨ad, by rw [upd_ne x _ (by decide)]; exact hx, hc0⟩, fun h => by rw [upd_ne x _ (by decide)]; exact f4 (by rw [← getD_set_ne true (show 9 ≠ 4 by decide)]; exact h), fun h => by obtain ⟨b0, hx, hs0⟩ := f5 (by rw [← getD_set_ne true (show 9 ≠ 5 by decide)]; exact h); exact ⟨b0, by rw [upd_ne x _ (by decide)]; exact hx, hs0⟩, fun h => by rw [upd_ne x _ (by decide)]; exact f6 (by rw [← getD_set_ne true (show 9 ≠ 6 by decide)]; exact h), fun h => by rw [upd_ne x _ (by decide)]; exact f7 (by rw [← getD_set_ne true (show 9 ≠ 7 by decide)]; exact h), fun h => by obtain ⟨ad, hx, hc0⟩ := f8 (by rw [← getD_set_ne true (show 9 ≠ 8 by decide)]; exact h); exact ⟨ad, by rw [upd_ne x _ (by decide)]; exact hx, hc0⟩, fun _ => upd_same _ _ _, fun h => by obtain ⟨g, hx, ho⟩ := f10 (by rw [← getD_set_ne true (show 9 ≠ 10 by decide)]; exact h); exact ⟨g, by rw [upd_ne x _ (by decide)]; exact hx, ho⟩, fun h => by obtain ⟨g, hx, ho⟩ := f11 (by rw [← getD_set_ne true (show 9 ≠ 11 by decide)]; exact h); exact ⟨g, by rw [upd_ne x _ (by decide)]; exact hx, ho⟩⟩⟩
      · have d4 := getD_ft (haf _ rfl ⟨4, .data⟩ (by simp) rfl)
        have d9 := getD_ft (haf _ rfl ⟨9, .data⟩ (by simp) rfl)
        have e14 : b.eval (.tmp 14) = .string (bs so) := by rw [hbe, eval_in _ _ _ 4 (by decide) rfl (by rw [hz0]; decide)]; exact f4 d4
        have t14 : b.tmps[14]?.getD undef = .string (bs so) := by have tv := e14; simpa only [Act.eval, Array.getD_eq_getD_getElem?] using tv
        have e19 : b.eval (.tmp 19) = .string (bs sk) := by rw [hbe, eval_in _ _ _ 9 (by decide) rfl (by rw [hz0]; decide)]; exact f9 d9
        have t19 : b.tmps[19]?.getD undef = .string (bs sk) := by have tv := e19; simpa only [Act.eval, Array.getD_eq_getD_getElem?] using tv
        have hb : Below w'.heap.size w' (w'.alloc (.cells #[.string (bs so), .string (bs sk)] 9)) := by (repeat (first | exact Below.refl _ _ | refine Below.alloc ?_ (by first | omega | (simp; done) | (simp; omega)) _ | refine Below.setCell ?_ (by first | omega | (simp; done) | (simp; omega)) _ | refine Below.drew ?_))
        refine wpOp_runs (v := .slice (some ⟨w'.heap.size, 0, none⟩) 2 2) (w' := w'.alloc (.cells #[.string (bs so), .string (bs sk)] 9)) rfl rfl (by simp [execOp, go_sem, t14, t19]) ⟨_, _, rfl, rfl, ⟨hBw.trans (hb.mono hBw.size), fun h => by obtain ⟨b0, hx, hs0⟩ := f0 (by rw [← getD_set_ne true (show 10 ≠ 0 by decide)]; exact h); exact ⟨b0, by rw [upd_ne x _ (by decide)]; exact hx, hs0.up hb⟩, fun h => by rw [upd_ne x _ (by decide)]; exact f1 (by rw [← getD_set_ne true (show 10 ≠ 1 by decide)]; exact h), fun h => by rw [upd_ne x _ (by decide)]; exact f2 (by rw [← getD_set_ne true (show 10 ≠ 2 by decide)]; exact h), fun h => by obtain ⟨ad, hx, hc0⟩ := f3 (by rw [← getD_set_ne true (show 10 ≠ 3 by decide)]; exact h); exact ⟨ad, by rw [upd_ne x _ (by decide)]; exact hx, (hb.cell (block_lt_of_cell hc0)).trans hc0⟩, fun h => by rw [upd_ne x _ (by decide)]; exact f4 (by rw [← getD_set_ne true (show 10 ≠ 4 by decide)]; exact h), fun h => by obtain ⟨b0, hx, hs0⟩ := f5 (by rw [← getD_set_ne true (show 10 ≠ 5 by decide)]; exact h); exact ⟨b0, by rw [upd_ne x _ (by decide)]; exact hx, hs0.up hb⟩, fun h => by rw [upd_ne x _ (by decide)]; exact f6 (by rw [← getD_set_ne true (show 10 ≠ 6 by decide)]; exact h), fun h => by rw [upd_ne x _ (by decide)]; exact f7 (by rw [← getD_set_ne true (show 10 ≠ 7 by decide)]; exact h), fun h => by obtain ⟨ad, hx, hc0⟩ := f8 (by rw [← getD_set_ne true (show 10 ≠ 8 by decide)]; exact h); exact ⟨ad, by rw [upd_ne x _ (by decide)]; exact hx, (hb.cell (block_lt_of_cell hc0)).trans hc0⟩, fun h => by rw [upd_ne x _ (by decide)]; exact f9 (by rw [← getD_set_ne true (show 10 ≠ 9 by decide)]; exact h), fun _ => ⟨w'.heap.size, upd_same _ _ _, own_lit w' w.heap.size 9 1 2 #[.string (bs so), .string (bs sk)] (Nat.le_trans HS.out hBw.size) rfl (by simp [maxLen])⟩, fun h => by obtain ⟨g, hx, ho⟩ := f11 (by rw [← getD_set_ne true (show 10 ≠ 11 by decide)]; exact h); exact ⟨g, by rw [upd_ne x _ (by decide)]; exact hx, own_below ho hb⟩⟩⟩
      · have d10 := getD_ft (haf _ rfl ⟨10, .data⟩ (by simp) rfl)
        obtain ⟨g, hx0, ho⟩ := f10 d10
        have e20 : b.eval (.tmp 20) = .slice (some ⟨g, 0, none⟩) 2 2 := by rw [hbe, eval_in _ _ _ 10 (by decide) rfl (by rw [hz0]; decide)]; exact hx0
        have t20 : b.tmps[20]?.getD undef = .slice (some ⟨g, 0, none⟩) 2 2 := by have tv := e20; simpa only [Act.eval, Array.getD_eq_getD_getElem?] using tv
        refine wpOp_runs (v := .slice (some ⟨g, 0, none⟩) 2 2) rfl rfl (by simp [execOp, go_sem, t20]) ⟨_, _, rfl, rfl, ⟨hBw, fun h => by obtain ⟨b0, hx, hs0⟩ := f0 (by rw [← getD_set_ne true (show 11 ≠ 0 by decide)]; exact h); exact ⟨b0, by rw [upd_ne x _ (by decide)]; exact hx, hs0⟩, fun h => by rw [upd_ne x _ (by decide)]; exact f1 (by rw [← getD_set_ne true (show 11 ≠ 1 by decide)]; exact h), fun h => by rw [upd_ne x _ (by decide)]; exact f2 (by rw [← getD_set_ne true (show 11 ≠ 2 by decide)]; exact h), fun h => by obtain ⟨ad, hx, hc0⟩ := f3 (by rw [← getD_set_ne true (show 11 ≠ 3 by decide)]; exact h); exact ⟨ad, by rw [upd_ne x _ (by decide)]; exact hx, hc0⟩, fun h => by rw [upd_ne x _ (by decide)]; exact f4 (by rw [← getD_set_ne true (show 11 ≠ 4 by decide)]; exact h), fun h => by obtain ⟨b0, hx, hs0⟩ := f5 (by rw [← getD_set_ne true (show 11 ≠ 5 by decide)]; exact h); exact ⟨b0, by rw [upd_ne x _ (by decide)]; exact hx, hs0⟩, fun h => by rw [upd_ne x _ (by decide)]; exact f6 (by rw [← getD_set_ne true (show 11 ≠ 6 by decide)]; exact h), fun h => by rw [upd_ne x _ (by decide)]; exact f7 (by rw [← getD_set_ne true (show 11 ≠ 7 by decide)]; exact h), fun h => by obtain ⟨ad, hx, hc0⟩ := f8 (by rw [← getD_set_ne true (show 11 ≠ 8 by decide)]; exact h); exact ⟨ad, by rw [upd_ne x _ (by decide)]; exact hx, hc0⟩, fun h => by rw [upd_ne x _ (by decide)]; exact f9 (by rw [← getD_set_ne true (show 11 ≠ 9 by decide)]; exact h), fun h => by obtain ⟨g, hx, ho⟩ := f10 (by rw [← getD_set_ne true (show 11 ≠ 10 by decide)]; exact h); exact ⟨g, by rw [upd_ne x _ (by decide)]; exact hx, ho⟩, fun _ => ⟨g, upd_same _ _ _, ho⟩⟩⟩
    intro V x w' hall hF
    obtain ⟨g, hx, ho⟩ := hF.2.2.2.2.2.2.2.2.2.2.2.2 (hall 11 (by decide))
    have hb := hF.1
    clear hF hall
    subst ha0
    simp only [List.map_cons, List.map_nil, putAll, hx]
    clear hx
    go_simp
    go_wp2
    go_meet
    exact ⟨g, rfl, ho, hb⟩
  case rest =>
    revert wc
    intro w3 hcut
    obtain ⟨g, rfl, hown, hb⟩ := hcut
    have HG3 := Lib.hid (hown.lt g rfl).2
    replace HT := Lib.hid (HT.out.below hb)
    replace hX := hX.below hb hX.lt
    replace hB := hB.trans (hb.mono hs)
    replace hs := hB.size
    clear hb
    go_upto_region 4 with fail
    go_cut [30, 31, 32] (fun v k z wx => ∃ A c, v = .slice A m c ∧ k = .int .i64 m ∧ z = .int .i64 0 ∧ Sl wx wx.heap.size 1 A m c (ns.map (Value.int .i64)) ∧ Below w3.heap.size w3 wx ∧ Sep w3.heap.size A m)
    case first =>
      have HFOOT := Lib.hid (fun (w' : World) (hb : Below w3.heap.size w3 w') => (show w'.cell? ⟨w.heap.size, 0, none⟩ = some (.int .i64 d.op) ∧ w'.cell? ⟨w.heap.size, 1, none⟩ = some (.int .i64 d.kd) ∧ w'.cell? ⟨w.heap.size, 2, none⟩ = some (.int .i64 d.id) ∧ w'.cell? ⟨w.heap.size, 3, none⟩ = some (.int .i64 d.fr) ∧ w'.cell? ⟨w.heap.size, 4, none⟩ = some (.int .i64 d.tn) ∧ w'.cell? ⟨w.heap.size, 5, none⟩ = some (.int .i64 d.st) ∧ w'.cell? ⟨w.heap.size, 6, none⟩ = some (.int .i64 d.en) ∧ w'.cell? ⟨w.heap.size, 7, none⟩ = some (.int .i64 d.rt) ∧ w'.cell? ⟨w.heap.size, 8, none⟩ = some (.int .i64 d.rf) ∧ w'.cell? ⟨w.heap.size, 9, none⟩ = some (.int .i64 d.rn) ∧ w'.cell? ⟨w.heap.size, 10, none⟩ = some (.int .i64 d.rs) ∧ w'.cell? ⟨w.heap.size, 11, none⟩ = some (.int .i64 d.re) ∧ w'.cell? ⟨w.heap.size, 12, none⟩ = some (.int .i64 d.ro) from ⟨(hX.below hb hX.lt).cell 0, (hX.below hb hX.lt).cell 1, (hX.below hb hX.lt).cell 2, (hX.below hb hX.lt).cell 3, (hX.below hb hX.lt).cell 4, (hX.below hb hX.lt).cell 5, (hX.below hb hX.lt).cell 6, (hX.below hb hX.lt).cell 7, (hX.below hb hX.lt).cell 8, (hX.below hb hX.lt).cell 9, (hX.below hb hX.lt).cell 10, (hX.below hb hX.lt).cell 11, (hX.below hb hX.lt).cell 12⟩))
      have r0 : w3.cell? ⟨w.heap.size, 0, none⟩ = some (.int .i64 d.op) := hX.cell 0
      have hFF := HFOOT.out w3 (Below.refl _ _)
      obtain ⟨q0, q1, q2, q3, q4, q5, q6, q7, q8, q9, q10, q11, q12⟩ := hFF
      have lt_x := hX.lt
      have hC : Below w3.heap.size w3 w3 := Below.refl _ _
      have hcf1 := HFC.out.e1
      unfold EnterF at hcf1
      have HNU := Lib.hid HFC.out.nums
      have hfd : ∀ w0 : World, (Instr.field 72 (.agg #[.func (.func f1) #[] #[], .func (.func f2) #[] #[], .func (.func f3) #[] #[]]) 0).run Tryd.prog w0 = .ok (.func (.func f1) #[] #[]) w0 := fun w0 => rfl
      clear hX hB hs HT HN HFC HR
      try simp only [List.append]
      go_region_held3 (fun w' => w'.cell? ⟨w.heap.size, 0, none⟩ = some (.int .i64 d.op) ∧ w'.cell? ⟨w.heap.size, 1, none⟩ = some (.int .i64 d.kd) ∧ w'.cell? ⟨w.heap.size, 2, none⟩ = some (.int .i64 d.id) ∧ w'.cell? ⟨w.heap.size, 3, none⟩ = some (.int .i64 d.fr) ∧ w'.cell? ⟨w.heap.size, 4, none⟩ = some (.int .i64 d.tn) ∧ w'.cell? ⟨w.heap.size, 5, none⟩ = some (.int .i64 d.st) ∧ w'.cell? ⟨w.heap.size, 6, none⟩ = some (.int .i64 d.en) ∧ w'.cell? ⟨w.heap.size, 7, none⟩ = some (.int .i64 d.rt) ∧ w'.cell? ⟨w.heap.size, 8, none⟩ = some (.int .i64 d.rf) ∧ w'.cell? ⟨w.heap.size, 9, none⟩ = some (.int .i64 d.rn) ∧ w'.cell? ⟨w.heap.size, 10, none⟩ = some (.int .i64 d.rs) ∧ w'.cell? ⟨w.heap.size, 11, none⟩ = some (.int .i64 d.re) ∧ w'.cell? ⟨w.heap.size, 12, none⟩ = some (.int .i64 d.ro))
        (first | exact HFOOT.out _ hC | exact HFOOT.out _ (by (repeat (first | exact Below.refl _ _ | exact hC | refine Below.alloc ?_ (by first | omega | (simp; done) | (simp; omega)) _ | refine Below.setCell ?_ (by first | omega | (simp; done) | (simp; omega)) _ | refine Below.drew ?_ | refine Below.trans ?_ (hC.mono (by first | omega | (simp; done) | (simp; omega)))))) | go_keep)
        (first
          | (go_at_call 33; (with_reducible refine Calls.mono (forms_any _) ?_); rintro e x1 ⟨bm, nm, S, rfl, hge, hM, hS, hbx⟩; replace hC : Below w3.heap.size w3 x1 := Below.trans (by (repeat (first | exact Below.refl _ _ | exact hC | refine Below.alloc ?_ (by first | omega | (simp; done) | (simp; omega)) _ | refine Below.setCell ?_ (by first | omega | (simp; done) | (simp; omega)) _ | refine Below.drew ?_ | refine Below.trans ?_ (hC.mono (by first | omega | (simp; done) | (simp; omega)))))) (hbx.mono (by first | exact Nat.le_refl _ | (simp; done) | (simp; omega))); have hl1 := look_form0 hM hS hw0 hw1 _ HFV.out; unfold formOf fnV at hl1; clear hM hge hbx)
          | ((with_reducible refine Calls.mono (HNU.out _) ?_); rintro e xn ⟨v, rfl, hv, hbn⟩; rw [HM.out] at hv; obtain ⟨Av, cv, rfl⟩ := slice_of_own hv; have hsv := Sl.of_own hv; have hsep : Sep w3.heap.size Av m := sep_own hv hC.size; replace hC : Below w3.heap.size w3 xn := Below.trans (by (repeat (first | exact Below.refl _ _ | exact hC | refine Below.alloc ?_ (by first | omega | (simp; done) | (simp; omega)) _ | refine Below.setCell ?_ (by first | omega | (simp; done) | (simp; omega)) _ | refine Below.drew ?_ | refine Below.trans ?_ (hC.mono (by first | omega | (simp; done) | (simp; omega)))))) (hbn.mono (by first | exact hC.size | (have := hC.size; simp at *; omega))); clear hbn hv))
      all_goals
        go_wp2
        go_meet
        exact ⟨Av, cv, rfl, rfl, rfl, hsv, hC, hsep⟩
    case rest =>
      revert wc
      intro w4 hcut
      obtain ⟨An, cn, rfl, rfl, rfl, hsl, hb, hsep⟩ := hcut
      replace HT := Lib.hid (HT.out.below hb)
      replace hown := own_below hown hb
      replace hB := hB.trans (hb.mono hs)
      replace hs := hB.size
      clear hb
      clear hX
      have HTT := HT0
      have hoff : Off An m (.slice (some ⟨g, 0, none⟩) 2 2) := fun ad e hn q hq => by
        have h1 := hsep ad e hn
        have h2 := HG3.out
        have h3 : g = q := by injection hq
        omega
      have HOF := Lib.hid hoff
      clear hsep hoff HT HG3
      go_wp2
      go_loopw [4, 32] (fun ev iv wr => ∃ (i : Nat), iv = .int .i64 i ∧ i ≤ m ∧ wr.ownsRow w.heap.size 9 1 ev (2 + i) (vs ([so, sk] ++ (ns.take i).map Lib.itoa)) ∧ Below w.heap.size w wr ∧ Sl wr wr.heap.size 1 An m cn (ns.map (Value.int .i64)) ∧ Hid (Off An m ev)) (fun _ iv _ => m - (intOf iv).toNat)
      case atStart => exact ⟨0, rfl, by omega, hown, hB, hsl, HOF⟩
      case round =>
        clear hown hB hsl hs HOF
        obtain ⟨i, rfl, hi, hown, hB, hsl, HOF⟩ := hrel
        have hsz := hB.size
        obtain ⟨Ae, ce, rfl⟩ := slice_of_own hown
        by_cases hin : i < m
        · obtain ⟨ad, rfl, hab, c0⟩ := hsl.lst.atI HM.out hin
          obtain ⟨x, hx⟩ : ∃ x, ns.getD i 0 = x := ⟨_, rfl⟩
          rw [hx] at c0
          have hxb : 0 ≤ x ∧ x ≤ 2147483647 := by
            rw [← hx]
            refine HN.out _ ?_
            rw [List.getD_eq_getElem?_getD, List.getElem?_eq_getElem (by rw [HM.out]; exact hin)]
            exact List.getElem_mem _
          have hnx : (ns.take (i + 1)).map Lib.itoa = (ns.take i).map Lib.itoa ++ [Lib.itoa x] := by
            rw [List.take_succ_eq_append_getElem (by rw [HM.out]; exact hin), List.map_append]
            rw [← hx, List.getD_eq_getElem?_getD, List.getElem?_eq_getElem (by rw [HM.out]; exact hin)]
            rfl
          have HNX := Lib.hid hnx
          have hin2 : (i : Int) < (m : Int) := by omega
          clear hnx hx
          go_wp2_with fail
          clear c0
          refine (text_any (by omega) (by omega) wr (HTT.out _ hB)).mono ?_
          rintro e w5 ⟨rfl, hb⟩
          replace hown := own_below hown hb
          replace hsl := hsl.up hb
          replace hB := hB.trans (hb.mono hsz)
          replace hsz := hB.size
          have hbl : Below w5.heap.size w5 (w5.alloc (.cells #[.string (bs (Lib.itoa x))] 9)) := by (repeat (first | exact Below.refl _ _ | refine Below.alloc ?_ (by first | omega | (simp; done) | (simp; omega)) _ | refine Below.setCell ?_ (by first | omega | (simp; done) | (simp; omega)) _ | refine Below.drew ?_))
          have HSL := Lib.hid (hsl.up hbl)
          clear hb hbl hsl
          go_wp2_with (first | (at_builtin; refine wpList_append_own_at _ rfl _ _ 56 rfl w.heap.size 9 i0 (.string ByteArray.empty) 1 16 Tryd.underlying56 hi0 hz0 hz1 hz2 rfl (by decide) _ _ _ rfl (hown.alloc _) ⟨w5.heap.size, 0, none⟩ 1 1 [.string (bs (Lib.itoa x))] rfl rfl (cell_one_new _ _ _) (fun x hx => by simp at hx; subst hx; rfl) (by unfold maxLen; omega) (by omega) (by simp; omega) ?_; intro v' w6 hown' hgrow3 hnil3 hat3))
          have hbN : Below w.heap.size w w6 := (hB.alloc hsz _).grown hgrow3 (by simp; omega) (fun q hq => (hown.lt q hq).1)
          have hslN := HSL.out.kept_off hgrow3 HOF.out
          have HOFN := Lib.hid (HOF.out.next HSL.out hat3)
          clear hgrow3 hnil3 hat3
          go_wp2_with fail
          go_roundw
          case rel => exact ⟨i + 1, by go_num, by omega, (by rw [HNX.out, ← List.append_assoc, vs_append]; exact hown'), hbN, hslN, HOFN⟩
          case measure => simp [intOf]; omega
        · obtain rfl : i = m := by omega
          have hin2 : ¬ (i : Int) < (i : Int) := by omega
          rw [List.take_of_length_le (by rw [HM.out]; exact Nat.le_refl _)] at hown
          have HOWN := Lib.hid hown
          clear hown
          go_wp2_with fail
          go_ret2
          exact ⟨_, rfl, HOWN.out, hB⟩
end Go.Proofs.YtggdomeeienjbaaDoor
