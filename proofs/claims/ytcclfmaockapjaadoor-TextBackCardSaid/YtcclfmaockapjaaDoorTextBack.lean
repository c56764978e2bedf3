
/- What was printed is read as it was, and what is read, printed, is read the same: TextBack returns true for all directives and every text. It reads tables of the library's. -/
import Derived.Test.YtcclfmaockapjaaDoorRows
import Derived.Test.YtcclfmaockapjaaDoorTie
import Derived.Test.YtcclfmaockapjaaDoorCards
import Derived.Test.YtcclfmaockapjaaDoorTxMath
import Derived.Test.YtcclfmaockapjaaDoorTen05
import Derived.Test.YtcclfmaockapjaaDoorFacts5
import Derived.Test.YtcclfmaockapjaaDoorOpenS
import Derived.Test.YtcclfmaockapjaaDoorQTail
namespace Go.Proofs.YtcclfmaockapjaaDoor
open Go.ChangeShapes Go.WideShapes Go.ChangeAt Go.RowKit Go.Sort
set_option linter.unusedSimpArgs false
set_option linter.unusedVariables false
def sumS (l : List Bytes) : Nat := (l.map fun x => x.length + 1).sum
theorem sumS_append (a b : List Bytes) : sumS (a ++ b) = sumS a + sumS b := by simp [sumS]
theorem foldL_sum : ∀ (s : Bytes) (o : List Bytes) (cur : Bytes), sumS (s.foldl stL (o, cur)).1 + (s.foldl stL (o, cur)).2.length = sumS o + cur.length + s.length
  | [], o, cur => by simp
  | c :: r, o, cur => by
    rw [List.foldl_cons]
    by_cases h : c = 10
    · subst h; rw [stL_ten, foldL_sum r, sumS_append]; simp [sumS]; omega
    · rw [stL_other h, foldL_sum r]; simp; omega
theorem fin_sum (st : Pcs) : sumS (finS st) ≤ sumS st.1 + st.2.length + 1 := by
  unfold finS
  split
  · omega
  · rw [sumS_append]; simp [sumS]; omega
theorem lines_sum (s : Bytes) : sumS (linesL s) ≤ s.length + 1 := by
  unfold linesL
  have h1 := fin_sum (s.foldl stL ([], []))
  have h2 := foldL_sum s [] []
  simp [sumS] at h2
  simp only [sumS] at h1 h2 ⊢
  omega
theorem foldW_sum : ∀ (s : Bytes) (o : List Bytes) (cur : Bytes), sumS (s.foldl stW (o, cur)).1 + (s.foldl stW (o, cur)).2.length ≤ sumS o + cur.length + s.length
  | [], o, cur => by simp
  | c :: r, o, cur => by
    rw [List.foldl_cons]
    cases h : blankC c with
    | true =>
      rw [stW_blank h]
      split
      · have := foldW_sum r o []; simp at this ⊢; omega
      · have := foldW_sum r (o ++ [cur]) []; rw [sumS_append] at this; simp [sumS] at this ⊢; omega
    | false => rw [stW_other h]; have := foldW_sum r o (cur ++ [c]); simp at this ⊢; omega
theorem words_sum (s : Bytes) : sumS (wordsL s) ≤ s.length + 1 := by
  unfold wordsL
  have h1 := fin_sum ((hashL s).foldl stW ([], []))
  have h2 := foldW_sum (hashL s) [] []
  have h3 := hash_le s
  simp [sumS] at h2
  simp only [sumS] at h1 h2 ⊢
  omega
theorem jn_sum : ∀ (l : List Bytes), (jn l).length ≤ sumS l
  | [] => by rw [jn_nil]; simp
  | [a] => by rw [jn_one]; simp [sumS]
  | a :: b :: r => by
    have ih := jn_sum (b :: r)
    rw [jn_cons]
    simp [sumS] at ih ⊢
    omega
theorem lineL_sum {l : List Bytes} (h : l ≠ []) : (lineL l).length ≤ sumS l := by
  rw [lineL_eq, List.length_append]
  match l, h with
  | [a], _ => rw [jn_one]; simp [sumS]
  | a :: b :: r, _ =>
    have ih := lineL_sum (l := b :: r) (by simp)
    rw [lineL_eq, List.length_append] at ih
    rw [jn_cons]
    simp [sumS] at ih ⊢
    omega
/-- What is read, printed, is no longer than its rows. -/
theorem text_shorter : ∀ (rows : List Bytes) (k : Int), (allL ((textF rows k).1.map wordsD)).length ≤ sumS rows
  | [], k => by simp [textF, allL]
  | r :: rs, k => by
    have ih := text_shorter rs (k + 1)
    have e : sumS (r :: rs) = r.length + 1 + sumS rs := by simp [sumS]
    rw [e]
    simp only [textF]
    split
    · omega
    · rename_i hw
      split
      · rename_i hq
        have hp := parse_words (l := wordsL r) (d := (parseD (wordsL r)).1) (Prod.ext rfl hq)
        have h1 := lineL_sum (l := wordsL r) (by intro e; rw [e] at hw; exact hw rfl)
        have h2 := words_sum r
        unfold addF
        split
        · simp only [List.map_append, List.map_cons, List.map_nil, allL, List.flatMap_append, List.flatMap_cons, List.flatMap_nil, List.append_nil, List.length_append]
          rw [hp.2]
          unfold allL at ih
          omega
        · unfold allL at ih ⊢
          omega
      · simp [allL]
/-- Rows without words, put in between. -/
theorem text_blank2 (a b : List Bytes) (x y : Bytes) (hx : (wordsL x).length = 0) (hy : (wordsL y).length = 0) (n : Nat) (hn : a.length = n) :
    textF (a ++ [x, y] ++ b) 1 = ((textF (a ++ b) 1).1, (if (n : Int) < (textF (a ++ b) 1).2.1 then (textF (a ++ b) 1).2.1 + 2 else (textF (a ++ b) 1).2.1), (textF (a ++ b) 1).2.2) := by
  have e1 : textF ([x, y] ++ b) (1 + (a.length : Int)) = textF b (1 + (a.length : Int) + 2) := by
    simp only [List.cons_append, List.nil_append, textF]
    rw [if_pos hx, if_pos hy, show 1 + (a.length : Int) + 1 + 1 = 1 + (a.length : Int) + 2 by omega]
  rw [List.append_assoc, text_join a ([x, y] ++ b) 1, text_join a b 1, e1, text_shift b (1 + (a.length : Int)) 2]
  by_cases hc : (textF a 1).2.2 = 0
  · rw [if_pos hc, if_pos hc]
    by_cases hd : (textF b (1 + (a.length : Int))).2.2 = 0
    · have h0 := text_code0 b _ hd
      unfold addF
      rw [if_pos hd, if_pos (by exact hd), if_pos hd]
      try dsimp only
      rw [h0, if_neg (by omega)]
    · have hf := text_fault b _ hd
      unfold addF
      rw [if_neg hd, if_neg (by exact hd), if_neg hd]
      try dsimp only
      rw [if_pos (by omega)]
  · rw [if_neg hc, if_neg hc]
    have hf := text_fault a 1 hc
    rw [if_neg (by omega)]
theorem lno_blank2 (a b : List Bytes) (x y : Bytes) (hx : (wordsL x).length = 0) (hy : (wordsL y).length = 0) : (lnoF (a ++ [x, y] ++ b) 1).length = (lnoF (a ++ b) 1).length := by
  have e1 : lnoF ([x, y] ++ b) (1 + (a.length : Int)) = lnoF b (1 + (a.length : Int) + 2) := by
    simp only [List.cons_append, List.nil_append, lnoF]
    rw [if_pos hx, if_pos hy, show 1 + (a.length : Int) + 1 + 1 = 1 + (a.length : Int) + 2 by omega]
  rw [List.append_assoc, lno_join a ([x, y] ++ b), lno_join a b, e1, List.length_append, List.length_append, lno_len b _ (1 + (a.length : Int))]
/-- Rows, each with a line feed behind. -/
def lfL (rows : List Bytes) : Bytes := rows.flatMap (· ++ [10])
theorem lfL_append (a b : List Bytes) : lfL (a ++ b) = lfL a ++ lfL b := by simp [lfL]
theorem lfL_len (rows : List Bytes) : (lfL rows).length = sumS rows := by
  induction rows with
  | nil => rfl
  | cons r rs ih => simp [lfL, sumS] at ih ⊢; omega
theorem foldL_lf : ∀ (rows : List Bytes) (o : List Bytes), (∀ r ∈ rows, (10 : UInt8) ∉ r) → (lfL rows).foldl stL (o, []) = (o ++ rows, [])
  | [], o, _ => by simp [lfL]
  | r :: rs, o, h => by
    have e : lfL (r :: rs) = r ++ ([10] ++ lfL rs) := by simp [lfL]
    rw [e, List.foldl_append, foldL_none _ _ _ (h r (by simp)), List.foldl_append, List.foldl_cons, List.foldl_nil, stL_ten, foldL_lf rs _ (fun q hq => h q (by simp [hq]))]
    simp
theorem lines_lf {rows : List Bytes} (h : ∀ r ∈ rows, (10 : UInt8) ∉ r) : linesL (lfL rows) = rows := by
  unfold linesL
  rw [foldL_lf rows [] h]
  simp [finS]
theorem foldL_no10 : ∀ (s : Bytes) (o : List Bytes) (cur : Bytes), (∀ x ∈ o, (10 : UInt8) ∉ x) → (10 : UInt8) ∉ cur → (∀ x ∈ (s.foldl stL (o, cur)).1, (10 : UInt8) ∉ x) ∧ (10 : UInt8) ∉ (s.foldl stL (o, cur)).2
  | [], o, cur, h1, h2 => ⟨h1, h2⟩
  | c :: r, o, cur, h1, h2 => by
    rw [List.foldl_cons]
    by_cases h : c = 10
    · subst h; rw [stL_ten]
      refine foldL_no10 r (o ++ [cur]) [] (fun x hx => ?_) (by simp)
      rcases List.mem_append.1 hx with h | h
      · exact h1 x h
      · simp at h; subst h; exact h2
    · rw [stL_other h]
      exact foldL_no10 r o (cur ++ [c]) h1 (by simp; exact ⟨h2, fun e => h e.symm⟩)
theorem lines_no10 (s : Bytes) : ∀ x ∈ linesL s, (10 : UInt8) ∉ x := by
  obtain ⟨h1, h2⟩ := foldL_no10 s [] [] (by simp) (by simp)
  intro x hx
  unfold linesL finS at hx
  split at hx
  · exact h1 x hx
  · rcases List.mem_append.1 hx with h | h
    · exact h1 x h
    · simp at h; subst h; exact h2
theorem words_rem (m : Bytes) : (wordsL ([32, 35, 32] ++ m)).length = 0 := by
  have := words_remark [32] ([32] ++ m)
  rw [show ([32] : Bytes) ++ [35] ++ ([32] ++ m) = [32, 35, 32] ++ m by simp] at this
  rw [this]
  decide
theorem wfDr_of {ns : List Int} {d : List Dr} (h : ns.map (Value.int .i64) = flatDr d) (hw : ∀ m ∈ ns, (Lit.int .i64 m).wf = true) : ∀ x ∈ d, (Lit.int .i64 x.op).wf = true ∧ (Lit.int .i64 x.kd).wf = true := by
  intro x hx
  have key : ∀ m, Value.int .i64 m ∈ x.cs → (Lit.int .i64 m).wf = true := fun m hm => by
    have : Value.int .i64 m ∈ ns.map (Value.int .i64) := by rw [h]; exact List.mem_flatMap.2 ⟨x, hx, hm⟩
    obtain ⟨q, hq, e⟩ := List.mem_map.1 this
    injection e with _ e
    subst e
    exact hw _ hq
  exact ⟨key _ (by simp [Dr.cs]), key _ (by simp [Dr.cs])⟩
theorem take_allDr {l : List Dr} {i : Nat} (h : i < l.length) : (l.take (i + 1)).all rightD = ((l.take i).all rightD && rightD (gDr l i)) := by
  rw [take_nextDr h, List.all_append]; simp
set_option maxHeartbeats 16000000 in
set_option maxRecDepth 100000 in
theorem tback_law (A : Option Addr) (n c : Nat) (d : List Dr) (hd : d.length = n) (hwf : ∀ x ∈ d, (Lit.int .i64 x.op).wf = true ∧ (Lit.int .i64 x.kd).wf = true) (s0 : ByteArray) (w : World) (ht : TenTab w) (hm : MaxAt w) (h : Sl w w.heap.size 13 A n c (flatDr d)) :
    Calls Tryd.prog 3 #[.slice A n c, .string s0] w fun e w' => e = .returned (.bool true) ∧ Below w.heap.size w w' := by
  have HD := Lib.hid hd
  have HWF := Lib.hid hwf
  clear hd hwf
  have HT := Lib.hid (fun w' (hb : Below w.heap.size w w') => ht.below hb)
  have HM := Lib.hid (fun w' (hb : Below w.heap.size w w') => hm.below hb)
  have hB := Below.refl w.heap.size w
  have hs := Nat.le_refl w.heap.size
  clear ht hm
  go_enter Tryd.func3, Tryd.ntmps3
  go_wp2_with fail
  refine (small05_any w (HT.out w hB) (HM.out w hB)).mono ?_
  rintro e y0 ⟨rfl, hb⟩
  replace hB := hB.trans (hb.mono hs)
  replace hs := hB.size
  clear hb
  replace h := h.up hB
  by_cases hn1 : 2000 < s0.size
  · clear h
    go_wp2
    go_ret
    exact ⟨rfl, hB⟩
  by_cases hn2 : 100 < n
  · clear h
    go_wp2
    go_ret
    exact ⟨rfl, hB⟩
  have hsz : s0.data.toList.length ≤ 2000 := by rw [← size_list]; omega
  have HSZ := Lib.hid hsz
  obtain ⟨rows, hrows⟩ : ∃ r, linesL s0.data.toList = r := ⟨_, rfl⟩
  obtain ⟨k, hk⟩ : ∃ n, rows.length = n := ⟨_, rfl⟩
  obtain ⟨ds, ln, cd, hz⟩ : ∃ ds ln cd, textF rows 1 = (ds, ln, cd) := ⟨_, _, _, rfl⟩
  have hkb : k ≤ 2001 := by rw [← hk, ← hrows]; have := lines_len s0.data.toList; omega
  have HSH := Lib.hid (show (allL (ds.map wordsD)).length ≤ 2001 by
    have h1 := text_shorter rows 1
    rw [hz] at h1
    have h2 := lines_sum s0.data.toList
    rw [hrows] at h2
    exact Nat.le_trans h1 (by omega))
  have HRT := Lib.hid (fun x (hx : x ∈ ds) => text_right rows 1 x (by rw [hz]; exact hx))
  have HR := Lib.hid hrows
  have HK := Lib.hid hk
  have HZ := Lib.hid hz
  clear hrows hk hz hsz
  obtain ⟨r, hr⟩ : ∃ r, printF d = r := ⟨_, rfl⟩
  have HPR := Lib.hid hr
  have hall := print_some (l := d)
  rw [hr] at hall
  have HALL := Lib.hid hall
  clear hr hall
  go_wp2_with fail
  refine (tprint_any A n c d HD.out (by omega) HWF.out y0 (HT.out y0 hB) h r HPR.out).mono ?_
  rintro e y1 ⟨rfl, hb⟩
  replace h := h.up hb
  replace hB := hB.trans (hb.mono hs)
  replace hs := hB.size
  clear hb
  obtain ⟨ok, tx, hpv, hrt⟩ : ∃ ok tx, printV r = .tuple #[.string tx, .bool ok] ∧ ((ok = false ∧ r = none ∧ tx = ⟨#[]⟩) ∨ (ok = true ∧ ∃ t, r = some t ∧ tx = bs t)) := by
    cases r with
    | none => exact ⟨false, ⟨#[]⟩, rfl, .inl ⟨rfl, rfl, rfl⟩⟩
    | some t => exact ⟨true, bs t, rfl, .inr ⟨rfl, t, rfl, rfl⟩⟩
  rw [hpv]
  clear hpv
  have hok : d.all rightD = ok := by
    rw [← HALL.out]
    rcases hrt with ⟨rfl, rfl, _⟩ | ⟨rfl, t, rfl, _⟩ <;> rfl
  have HOK := Lib.hid hok
  have HRTT := Lib.hid hrt
  clear hok hrt
  have HL := Lib.hid h
  have hB1 := hB
  have hs1 := hs
  clear h hB hs
  go_wp2
  go_loopw [8, 9] (fun bv iv wr => ∃ (i : Nat) (b : Bool), bv = .bool b ∧ iv = .int .i64 i ∧ i ≤ n ∧ Hid (b = (d.take i).all rightD) ∧ Below y1.heap.size y1 wr) (fun _ iv _ => n - (intOf iv).toNat)
  case atStart => exact ⟨0, true, rfl, rfl, by omega, by simp [Hid], Below.refl _ _⟩
  case round =>
    obtain ⟨i, b, rfl, rfl, hi, HH, hBr⟩ := hrel
    have hsr := hBr.size
    by_cases hin : i < n
    · have hil : i < d.length := by rw [HD.out]; exact hin
      have hta := take_allDr hil
      cases b
      · have HH2 : Hid (false = (d.take (i + 1)).all rightD) := by show _ = _; rw [hta, ← HH.out]; rfl
        clear hta hil
        go_wp2_with fail
        go_roundw
        case rel => exact ⟨i + 1, false, rfl, by go_num, by omega, HH2, hBr⟩
        case measure => simp [intOf]; omega
      · obtain ⟨ad, rfl, hab, c_0, c_1, c_2, c_3, c_4, c_5, c_6, c_7, c_8, c_9, c_10, c_11, c_12⟩ := (HL.out.below hBr).lst.atDr HD.out hin
        have hw1 := HWF.out _ (gDr_mem hil)
        have HH2 : Hid (rightD (gDr d i) = (d.take (i + 1)).all rightD) := by show _ = _; rw [hta, ← HH.out]; simp
        clear hta hil
        obtain ⟨x, hx⟩ : ∃ x, gDr d i = x := ⟨_, rfl⟩
        rw [hx] at c_0 c_1 c_2 c_3 c_4 c_5 c_6 c_7 c_8 c_9 c_10 c_11 c_12 hw1 HH2
        clear hx
        go_wp2_with fail
        clear c_0 c_1 c_2 c_3 c_4 c_5 c_6 c_7 c_8 c_9 c_10 c_11 c_12
        obtain ⟨q, hq⟩ : ∃ q, rightD x = q := ⟨_, rfl⟩
        rw [hq] at HH2
        refine (dright_any x wr hw1.1 hw1.2 q hq).mono ?_
        rintro e w2 ⟨rfl, hb⟩
        replace hBr := hBr.trans (hb.mono hsr)
        clear hb hq hw1
        go_wp2_with fail
        go_roundw
        case rel => exact ⟨i + 1, q, rfl, by go_num, by omega, HH2, hBr⟩
        case measure => simp [intOf]; omega
    · obtain rfl : n = i := by omega
      have hbok : b = ok := by rw [HH.out, List.take_of_length_le (by rw [HD.out]; omega)]; exact HOK.out
      subst hbok
      have hB := hB1.trans (hBr.mono hs1)
      have hs := hB.size
      have h := HL.out.up hBr
      clear hBr hsr
      rcases HRTT.out with ⟨rfl, rfl, rfl⟩ | ⟨rfl, t, rfl, rfl⟩
      · clear h
        go_wp2_with fail
        refine (tparse_any s0 rows k HR.out HK.out wr (HM.out wr hB) (by have := HSZ.out; omega) ds ln cd HZ.out).mono ?_
        rintro e z1 ⟨v, rfl, hv, hb⟩
        obtain ⟨nd, hnd⟩ : ∃ k, ds.length = k := ⟨_, rfl⟩
        rw [hnd] at hv
        have HND := Lib.hid hnd
        clear hnd
        obtain ⟨A6, c6, rfl⟩ := slice_of_own hv
        have l6 := Sl.of_own hv
        clear hv
        replace hB := hB.trans (hb.mono hs)
        replace hs := hB.size
        clear hb
        go_upto_region 17 with fail
        have hf := Blok.new z1 35 #[.int .i64 ln, .int .i64 cd]
        have hb : Below z1.heap.size z1 (z1.alloc (.cells #[.int .i64 ln, .int .i64 cd] 35)) := by (repeat (first | exact Below.refl _ _ | refine Below.alloc ?_ (by first | omega | (simp; done) | (simp; omega)) _ | refine Below.setCell ?_ (by first | omega | (simp; done) | (simp; omega)) _ | refine Below.drew ?_))
        replace l6 := l6.up hb
        replace hB := hB.trans (hb.mono hs)
        replace hs := hB.size
        clear hb
        generalize z1.alloc (.cells #[.int .i64 ln, .int .i64 cd] 35) = z2 at *
        generalize hzz : z1.heap.size = bf at *
        clear hzz
        have k_f0 : z2.cell? ⟨bf, 0, none⟩ = some (.int .i64 ln) := hf.cell 0
        have k_f1 : z2.cell? ⟨bf, 1, none⟩ = some (.int .i64 cd) := hf.cell 1
        have lt_f := hf.lt
        by_cases hcd : cd = 0
        · subst hcd
          have hbd := textF_bound rows 1 (by rw [HZ.out])
          rw [HZ.out, HK.out] at hbd
          dsimp only at hbd
          obtain ⟨hl0, hndk⟩ := hbd
          rw [HND.out] at hndk
          subst hl0
          have HPU := Lib.hid (print_all HRT.out)
          have HPT := Lib.hid (text_print HRT.out 1)
          obtain ⟨u, hu⟩ : ∃ u, allL (ds.map wordsD) = u := ⟨_, rfl⟩
          rw [hu] at HPU HPT HSH
          have HWD := Lib.hid (fun x (hx : x ∈ ds) => right_ops (HRT.out x hx))
          clear hu
          go_wp2_with fail
          clear k_f0 k_f1 lt_f
          refine (tprint_any A6 nd c6 ds HND.out (by omega) HWD.out z2 (HT.out z2 hB) l6 (some u) HPU.out).mono ?_
          rintro e z3 ⟨rfl, hb⟩
          replace l6 := l6.up hb
          replace hf := hf.below hb hf.lt
          replace hB := hB.trans (hb.mono hs)
          replace hs := hB.size
          clear hb
          dsimp only [printV]
          obtain ⟨ub, hub⟩ : ∃ x, bs u = x := ⟨_, rfl⟩
          have HUL := Lib.hid (show ub.data.toList = u by rw [← hub, bs_list])
          rw [hub]
          clear hub
          go_wp2_with fail
          refine (tparse_any ub (linesL ub.data.toList) _ rfl rfl z3 (HM.out z3 hB) (by rw [HUL.out]; have := HSH.out; omega) ds 0 0 (by rw [HUL.out]; exact HPT.out)).mono ?_
          rintro e z4 ⟨v, rfl, hv, hb⟩
          rw [HND.out] at hv
          obtain ⟨A7, c7, rfl⟩ := slice_of_own hv
          have l7 := Sl.of_own hv
          clear hv
          replace l6 := l6.up hb
          replace hf := hf.below hb hf.lt
          replace hB := hB.trans (hb.mono hs)
          replace hs := hB.size
          clear hb
          go_upto_region 21 with fail
          have hg := Blok.new z4 35 #[.int .i64 0, .int .i64 0]
          have hb : Below z4.heap.size z4 (z4.alloc (.cells #[.int .i64 0, .int .i64 0] 35)) := by (repeat (first | exact Below.refl _ _ | refine Below.alloc ?_ (by first | omega | (simp; done) | (simp; omega)) _ | refine Below.setCell ?_ (by first | omega | (simp; done) | (simp; omega)) _ | refine Below.drew ?_))
          replace l6 := l6.up hb
          replace l7 := l7.up hb
          replace hf := hf.below hb hf.lt
          replace hB := hB.trans (hb.mono hs)
          replace hs := hB.size
          clear hb
          generalize z4.alloc (.cells #[.int .i64 0, .int .i64 0] 35) = z5 at *
          generalize hzz : z4.heap.size = bg at *
          clear hzz
          have hEQ : ∀ w0 : World, (binOp .eql 35 (.agg #[.int .i64 0, .int .i64 0]) (.agg #[.int .i64 0, .int .i64 0])).run Tryd.prog w0 = .ok (.bool true) w0 := fun w0 => by have h := eqlFt 0 0 0 0 w0; simpa using h
          have k_f0 : z5.cell? ⟨bf, 0, none⟩ = some (.int .i64 0) := hf.cell 0
          have k_f1 : z5.cell? ⟨bf, 1, none⟩ = some (.int .i64 0) := hf.cell 1
          have lt_f := hf.lt
          have k_g0 : z5.cell? ⟨bg, 0, none⟩ = some (.int .i64 0) := hg.cell 0
          have k_g1 : z5.cell? ⟨bg, 1, none⟩ = some (.int .i64 0) := hg.cell 1
          have lt_g := hg.lt
          clear hf hg
          go_wp2_with fail
          refine (fsame_is A7 A6 nd c7 nd c6 ds ds true (decide_eq_true rfl) z5 HND.out HND.out (by omega) l7 l6).mono ?_
          rintro e z6 ⟨rfl, hb⟩
          clear l6 l7
          replace hB := hB.trans (hb.mono hs)
          replace hs := hB.size
          clear hb
          go_wp2_with fail
          go_ret
          exact ⟨rfl, hB⟩
        · have hfl := text_fault rows 1 (by rw [HZ.out]; exact hcd)
          rw [HZ.out, HK.out] at hfl
          dsimp only at hfl
          obtain ⟨he1, he2, he3⟩ := hfl
          have hnd0 : nd = 0 := by have := HND.out; rw [he1] at this; exact this.symm
          subst hnd0
          have hcq : (cd != 0) = true := by simpa using hcd
          have hle : ln ≤ (k : Int) := by omega
          have hB9 := Lib.hid (fun (w' : World) (hb : Below z2.heap.size z2 w') => hB.trans (hb.mono hs))
          clear he1 he3 hcd l6 hf
          go_upto_region 18 with fail
          refine gen_frame ?_
          intro a0 ha0
          try simp only [List.append]
          refine wp_region_frames rfl (by kernel_rfl) (by kernel_rfl) (fun V x w' => Below z2.heap.size z2 w' ∧ (V.getD 0 true = true → x 0 = .bool true) ∧ (V.getD 1 true = true → x 1 = .bool true) ∧ (V.getD 2 true = true → x 2 = .slice A6 0 c6) ∧ (V.getD 3 true = true → x 3 = .int .i64 0) ∧ (V.getD 4 true = true → x 4 = .bool true) ∧ (V.getD 5 true = true → x 5 = .bool true) ∧ (V.getD 6 true = true → x 6 = .bool true) ∧ (V.getD 7 true = true → x 7 = .pointer (some ⟨bf, 0, none⟩)) ∧ (V.getD 8 true = true → x 8 = .int .i64 ln) ∧ (V.getD 9 true = true → x 9 = .bool true) ∧ (V.getD 10 true = true → x 10 = .bool true) ∧ (V.getD 11 true = true → x 11 = .bool true) ∧ (V.getD 12 true = true → x 12 = .pointer (some ⟨bf, 0, none⟩)) ∧ (V.getD 13 true = true → x 13 = .int .i64 ln) ∧ (V.getD 14 true = true → x 14 = .string s0) ∧ (V.getD 15 true = true → ∃ A8 c8, x 15 = .slice A8 k c8) ∧ (V.getD 16 true = true → x 16 = .int .i64 (k : Int)) ∧ (V.getD 17 true = true → x 17 = .bool true) ∧ (V.getD 18 true = true → x 18 = .bool true) ∧ (V.getD 19 true = true → x 19 = .bool true)) ?_ ?_ ?_
          · intro x
            refine ⟨(Below.refl _ _).drew, ?_, ?_, ?_, ?_, ?_, ?_, ?_, ?_, ?_, ?_, ?_, ?_, ?_, ?_, ?_, ?_, ?_, ?_, ?_, ?_⟩ <;> exact fun h => by simp at h
          · intro V x b w' hbq hsz hF i hi hun haf hcl
            obtain ⟨hBw, f0, f1, f2, f3, f4, f5, f6, f7, f8, f9, f10, f11, f12, f13, f14, f15, f16, f17, f18, f19⟩ := hF
            have hbe : b = putAll a0 [some 81, some 82, some 83, some 84, some 85, some 86, some 87, some 88, some 89, some 90, some 91, some 92, some 93, some 94, some 95, some 96, some 97, some 98, some 99, some 4] x 0 := hbq
            have hz0 : a0.tmps.size = 129 := by rw [ha0]; rfl
            have e5 : b.eval (.tmp 5) = .bool true := by rw [hbe, eval_out _ _ _ (by decide), ha0]; rfl
            have t5 : b.tmps[5]?.getD undef = .bool true := by simpa [Act.eval] using e5
            have e12 : b.eval (.tmp 12) = .slice A6 0 c6 := by rw [hbe, eval_out _ _ _ (by decide), ha0]; rfl
            have t12 : b.tmps[12]?.getD undef = .slice A6 0 c6 := by simpa [Act.eval] using e12
            have e13 : b.eval (.tmp 13) = .pointer (some ⟨bf, 0, none⟩) := by rw [hbe, eval_out _ _ _ (by decide), ha0]; rfl
            have t13 : b.tmps[13]?.getD undef = .pointer (some ⟨bf, 0, none⟩) := by simpa [Act.eval] using e13
            have e1 : b.eval (.tmp 1) = .string s0 := by rw [hbe, eval_out _ _ _ (by decide), ha0]; rfl
            have t1 : b.tmps[1]?.getD undef = .string s0 := by simpa [Act.eval] using e1
            clear hbq
            have hi' : i < 20 := hi
            clear hi
            obtain rfl | rfl | rfl | rfl | rfl | rfl | rfl | rfl | rfl | rfl | rfl | rfl | rfl | rfl | rfl | rfl | rfl | rfl | rfl | rfl : i = 0 ∨ i = 1 ∨ i = 2 ∨ i = 3 ∨ i = 4 ∨ i = 5 ∨ i = 6 ∨ i = 7 ∨ i = 8 ∨ i = 9 ∨ i = 10 ∨ i = 11 ∨ i = 12 ∨ i = 13 ∨ i = 14 ∨ i = 15 ∨ i = 16 ∨ i = 17 ∨ i = 18 ∨ i = 19 := by omega
            · refine wpOp_runs (v := .bool true) rfl rfl (by simp [execOp, go_sem, t5]) ⟨_, _, rfl, rfl, ⟨hBw, fun _ => upd_same _ _ _, fun h => by rw [upd_ne x _ (by decide)]; exact f1 (by rw [← getD_set_ne true (show 0 ≠ 1 by decide)]; exact h), fun h => by rw [upd_ne x _ (by decide)]; exact f2 (by rw [← getD_set_ne true (show 0 ≠ 2 by decide)]; exact h), fun h => by rw [upd_ne x _ (by decide)]; exact f3 (by rw [← getD_set_ne true (show 0 ≠ 3 by decide)]; exact h), fun h => by rw [upd_ne x _ (by decide)]; exact f4 (by rw [← getD_set_ne true (show 0 ≠ 4 by decide)]; exact h), fun h => by rw [upd_ne x _ (by decide)]; exact f5 (by rw [← getD_set_ne true (show 0 ≠ 5 by decide)]; exact h), fun h => by rw [upd_ne x _ (by decide)]; exact f6 (by rw [← getD_set_ne true (show 0 ≠ 6 by decide)]; exact h), fun h => by rw [upd_ne x _ (by decide)]; exact f7 (by rw [← getD_set_ne true (show 0 ≠ 7 by decide)]; exact h), fun h => by rw [upd_ne x _ (by decide)]; exact f8 (by rw [← getD_set_ne true (show 0 ≠ 8 by decide)]; exact h), fun h => by rw [upd_ne x _ (by decide)]; exact f9 (by rw [← getD_set_ne true (show 0 ≠ 9 by decide)]; exact h), fun h => by rw [upd_ne x _ (by decide)]; exact f10 (by rw [← getD_set_ne true (show 0 ≠ 10 by decide)]; exact h), fun h => by rw [upd_ne x _ (by decide)]; exact f11 (by rw [← getD_set_ne true (show 0 ≠ 11 by decide)]; exact h), fun h => by rw [upd_ne x _ (by decide)]; exact f12 (by rw [← getD_set_ne true (show 0 ≠ 12 by decide)]; exact h), fun h => by rw [upd_ne x _ (by decide)]; exact f13 (by rw [← getD_set_ne true (show 0 ≠ 13 by decide)]; exact h), fun h => by rw [upd_ne x _ (by decide)]; exact f14 (by rw [← getD_set_ne true (show 0 ≠ 14 by decide)]; exact h), fun h => by obtain ⟨A8, c8, hx⟩ := f15 (by rw [← getD_set_ne true (show 0 ≠ 15 by decide)]; exact h); exact ⟨A8, c8, by rw [upd_ne x _ (by decide)]; exact hx⟩, fun h => by rw [upd_ne x _ (by decide)]; exact f16 (by rw [← getD_set_ne true (show 0 ≠ 16 by decide)]; exact h), fun h => by rw [upd_ne x _ (by decide)]; exact f17 (by rw [← getD_set_ne true (show 0 ≠ 17 by decide)]; exact h), fun h => by rw [upd_ne x _ (by decide)]; exact f18 (by rw [← getD_set_ne true (show 0 ≠ 18 by decide)]; exact h), fun h => by rw [upd_ne x _ (by decide)]; exact f19 (by rw [← getD_set_ne true (show 0 ≠ 19 by decide)]; exact h)⟩⟩
            · have d0 := getD_ft (haf _ rfl ⟨0, .data⟩ (by simp) rfl)
              have e81 : b.eval (.tmp 81) = .bool true := by rw [hbe, eval_in _ _ _ 0 (by decide) rfl (by rw [hz0]; decide)]; exact f0 d0
              have t81 : b.tmps[81]?.getD undef = .bool true := by have tv := e81; simpa only [Act.eval, Array.getD_eq_getD_getElem?] using tv
              refine wpOp_runs (v := .bool true) rfl rfl (by simp [execOp, go_sem, t81]) ⟨_, _, rfl, rfl, ⟨hBw, fun h => by rw [upd_ne x _ (by decide)]; exact f0 (by rw [← getD_set_ne true (show 1 ≠ 0 by decide)]; exact h), fun _ => upd_same _ _ _, fun h => by rw [upd_ne x _ (by decide)]; exact f2 (by rw [← getD_set_ne true (show 1 ≠ 2 by decide)]; exact h), fun h => by rw [upd_ne x _ (by decide)]; exact f3 (by rw [← getD_set_ne true (show 1 ≠ 3 by decide)]; exact h), fun h => by rw [upd_ne x _ (by decide)]; exact f4 (by rw [← getD_set_ne true (show 1 ≠ 4 by decide)]; exact h), fun h => by rw [upd_ne x _ (by decide)]; exact f5 (by rw [← getD_set_ne true (show 1 ≠ 5 by decide)]; exact h), fun h => by rw [upd_ne x _ (by decide)]; exact f6 (by rw [← getD_set_ne true (show 1 ≠ 6 by decide)]; exact h), fun h => by rw [upd_ne x _ (by decide)]; exact f7 (by rw [← getD_set_ne true (show 1 ≠ 7 by decide)]; exact h), fun h => by rw [upd_ne x _ (by decide)]; exact f8 (by rw [← getD_set_ne true (show 1 ≠ 8 by decide)]; exact h), fun h => by rw [upd_ne x _ (by decide)]; exact f9 (by rw [← getD_set_ne true (show 1 ≠ 9 by decide)]; exact h), fun h => by rw [upd_ne x _ (by decide)]; exact f10 (by rw [← getD_set_ne true (show 1 ≠ 10 by decide)]; exact h), fun h => by rw [upd_ne x _ (by decide)]; exact f11 (by rw [← getD_set_ne true (show 1 ≠ 11 by decide)]; exact h), fun h => by rw [upd_ne x _ (by decide)]; exact f12 (by rw [← getD_set_ne true (show 1 ≠ 12 by decide)]; exact h), fun h => by rw [upd_ne x _ (by decide)]; exact f13 (by rw [← getD_set_ne true (show 1 ≠ 13 by decide)]; exact h), fun h => by rw [upd_ne x _ (by decide)]; exact f14 (by rw [← getD_set_ne true (show 1 ≠ 14 by decide)]; exact h), fun h => by obtain ⟨A8, c8, hx⟩ := f15 (by rw [← getD_set_ne true (show 1 ≠ 15 by decide)]; exact h); exact ⟨A8, c8, by rw [upd_ne x _ (by decide)]; exact hx⟩, fun h => by rw [upd_ne x _ (by decide)]; exact f16 (by rw [← getD_set_ne true (show 1 ≠ 16 by decide)]; exact h), fun h => by rw [upd_ne x _ (by decide)]; exact f17 (by rw [← getD_set_ne true (show 1 ≠ 17 by decide)]; exact h), fun h => by rw [upd_ne x _ (by decide)]; exact f18 (by rw [← getD_set_ne true (show 1 ≠ 18 by decide)]; exact h), fun h => by rw [upd_ne x _ (by decide)]; exact f19 (by rw [← getD_set_ne true (show 1 ≠ 19 by decide)]; exact h)⟩⟩
            · have d1 := getD_ft (haf _ rfl ⟨1, .guard⟩ (by simp) rfl)
              have e82 : b.eval (.tmp 82) = .bool true := by rw [hbe, eval_in _ _ _ 1 (by decide) rfl (by rw [hz0]; decide)]; exact f1 d1
              have t82 : b.tmps[82]?.getD undef = .bool true := by have tv := e82; simpa only [Act.eval, Array.getD_eq_getD_getElem?] using tv
              refine wpOp_runs_on (v := .slice A6 0 c6) rfl (wanted_on rfl rfl rfl t82) (by simp [execOp, go_sem, t12]) ⟨_, _, rfl, rfl, ⟨hBw, fun h => by rw [upd_ne x _ (by decide)]; exact f0 (by rw [← getD_set_ne true (show 2 ≠ 0 by decide)]; exact h), fun h => by rw [upd_ne x _ (by decide)]; exact f1 (by rw [← getD_set_ne true (show 2 ≠ 1 by decide)]; exact h), fun _ => upd_same _ _ _, fun h => by rw [upd_ne x _ (by decide)]; exact f3 (by rw [← getD_set_ne true (show 2 ≠ 3 by decide)]; exact h), fun h => by rw [upd_ne x _ (by decide)]; exact f4 (by rw [← getD_set_ne true (show 2 ≠ 4 by decide)]; exact h), fun h => by rw [upd_ne x _ (by decide)]; exact f5 (by rw [← getD_set_ne true (show 2 ≠ 5 by decide)]; exact h), fun h => by rw [upd_ne x _ (by decide)]; exact f6 (by rw [← getD_set_ne true (show 2 ≠ 6 by decide)]; exact h), fun h => by rw [upd_ne x _ (by decide)]; exact f7 (by rw [← getD_set_ne true (show 2 ≠ 7 by decide)]; exact h), fun h => by rw [upd_ne x _ (by decide)]; exact f8 (by rw [← getD_set_ne true (show 2 ≠ 8 by decide)]; exact h), fun h => by rw [upd_ne x _ (by decide)]; exact f9 (by rw [← getD_set_ne true (show 2 ≠ 9 by decide)]; exact h), fun h => by rw [upd_ne x _ (by decide)]; exact f10 (by rw [← getD_set_ne true (show 2 ≠ 10 by decide)]; exact h), fun h => by rw [upd_ne x _ (by decide)]; exact f11 (by rw [← getD_set_ne true (show 2 ≠ 11 by decide)]; exact h), fun h => by rw [upd_ne x _ (by decide)]; exact f12 (by rw [← getD_set_ne true (show 2 ≠ 12 by decide)]; exact h), fun h => by rw [upd_ne x _ (by decide)]; exact f13 (by rw [← getD_set_ne true (show 2 ≠ 13 by decide)]; exact h), fun h => by rw [upd_ne x _ (by decide)]; exact f14 (by rw [← getD_set_ne true (show 2 ≠ 14 by decide)]; exact h), fun h => by obtain ⟨A8, c8, hx⟩ := f15 (by rw [← getD_set_ne true (show 2 ≠ 15 by decide)]; exact h); exact ⟨A8, c8, by rw [upd_ne x _ (by decide)]; exact hx⟩, fun h => by rw [upd_ne x _ (by decide)]; exact f16 (by rw [← getD_set_ne true (show 2 ≠ 16 by decide)]; exact h), fun h => by rw [upd_ne x _ (by decide)]; exact f17 (by rw [← getD_set_ne true (show 2 ≠ 17 by decide)]; exact h), fun h => by rw [upd_ne x _ (by decide)]; exact f18 (by rw [← getD_set_ne true (show 2 ≠ 18 by decide)]; exact h), fun h => by rw [upd_ne x _ (by decide)]; exact f19 (by rw [← getD_set_ne true (show 2 ≠ 19 by decide)]; exact h)⟩⟩
            · have d1 := getD_ft (haf _ rfl ⟨1, .guard⟩ (by simp) rfl)
              have e82 : b.eval (.tmp 82) = .bool true := by rw [hbe, eval_in _ _ _ 1 (by decide) rfl (by rw [hz0]; decide)]; exact f1 d1
              have t82 : b.tmps[82]?.getD undef = .bool true := by have tv := e82; simpa only [Act.eval, Array.getD_eq_getD_getElem?] using tv
              have d2 := getD_ft (haf _ rfl ⟨2, .data⟩ (by simp) rfl)
              have e83 : b.eval (.tmp 83) = .slice A6 0 c6 := by rw [hbe, eval_in _ _ _ 2 (by decide) rfl (by rw [hz0]; decide)]; exact f2 d2
              have t83 : b.tmps[83]?.getD undef = .slice A6 0 c6 := by have tv := e83; simpa only [Act.eval, Array.getD_eq_getD_getElem?] using tv
              refine wpOp_runs_on (v := .int .i64 0) rfl (wanted_on rfl rfl rfl t82) (by simp [execOp, go_sem, t83]) ⟨_, _, rfl, rfl, ⟨hBw, fun h => by rw [upd_ne x _ (by decide)]; exact f0 (by rw [← getD_set_ne true (show 3 ≠ 0 by decide)]; exact h), fun h => by rw [upd_ne x _ (by decide)]; exact f1 (by rw [← getD_set_ne true (show 3 ≠ 1 by decide)]; exact h), fun h => by rw [upd_ne x _ (by decide)]; exact f2 (by rw [← getD_set_ne true (show 3 ≠ 2 by decide)]; exact h), fun _ => upd_same _ _ _, fun h => by rw [upd_ne x _ (by decide)]; exact f4 (by rw [← getD_set_ne true (show 3 ≠ 4 by decide)]; exact h), fun h => by rw [upd_ne x _ (by decide)]; exact f5 (by rw [← getD_set_ne true (show 3 ≠ 5 by decide)]; exact h), fun h => by rw [upd_ne x _ (by decide)]; exact f6 (by rw [← getD_set_ne true (show 3 ≠ 6 by decide)]; exact h), fun h => by rw [upd_ne x _ (by decide)]; exact f7 (by rw [← getD_set_ne true (show 3 ≠ 7 by decide)]; exact h), fun h => by rw [upd_ne x _ (by decide)]; exact f8 (by rw [← getD_set_ne true (show 3 ≠ 8 by decide)]; exact h), fun h => by rw [upd_ne x _ (by decide)]; exact f9 (by rw [← getD_set_ne true (show 3 ≠ 9 by decide)]; exact h), fun h => by rw [upd_ne x _ (by decide)]; exact f10 (by rw [← getD_set_ne true (show 3 ≠ 10 by decide)]; exact h), fun h => by rw [upd_ne x _ (by decide)]; exact f11 (by rw [← getD_set_ne true (show 3 ≠ 11 by decide)]; exact h), fun h => by rw [upd_ne x _ (by decide)]; exact f12 (by rw [← getD_set_ne true (show 3 ≠ 12 by decide)]; exact h), fun h => by rw [upd_ne x _ (by decide)]; exact f13 (by rw [← getD_set_ne true (show 3 ≠ 13 by decide)]; exact h), fun h => by rw [upd_ne x _ (by decide)]; exact f14 (by rw [← getD_set_ne true (show 3 ≠ 14 by decide)]; exact h), fun h => by obtain ⟨A8, c8, hx⟩ := f15 (by rw [← getD_set_ne true (show 3 ≠ 15 by decide)]; exact h); exact ⟨A8, c8, by rw [upd_ne x _ (by decide)]; exact hx⟩, fun h => by rw [upd_ne x _ (by decide)]; exact f16 (by rw [← getD_set_ne true (show 3 ≠ 16 by decide)]; exact h), fun h => by rw [upd_ne x _ (by decide)]; exact f17 (by rw [← getD_set_ne true (show 3 ≠ 17 by decide)]; exact h), fun h => by rw [upd_ne x _ (by decide)]; exact f18 (by rw [← getD_set_ne true (show 3 ≠ 18 by decide)]; exact h), fun h => by rw [upd_ne x _ (by decide)]; exact f19 (by rw [← getD_set_ne true (show 3 ≠ 19 by decide)]; exact h)⟩⟩
            · have d1 := getD_ft (haf _ rfl ⟨1, .guard⟩ (by simp) rfl)
              have e82 : b.eval (.tmp 82) = .bool true := by rw [hbe, eval_in _ _ _ 1 (by decide) rfl (by rw [hz0]; decide)]; exact f1 d1
              have t82 : b.tmps[82]?.getD undef = .bool true := by have tv := e82; simpa only [Act.eval, Array.getD_eq_getD_getElem?] using tv
              have d3 := getD_ft (haf _ rfl ⟨3, .data⟩ (by simp) rfl)
              have e84 : b.eval (.tmp 84) = .int .i64 0 := by rw [hbe, eval_in _ _ _ 3 (by decide) rfl (by rw [hz0]; decide)]; exact f3 d3
              have t84 : b.tmps[84]?.getD undef = .int .i64 0 := by have tv := e84; simpa only [Act.eval, Array.getD_eq_getD_getElem?] using tv
              refine wpOp_runs_on (v := .bool true) rfl (wanted_on rfl rfl rfl t82) (by simp [execOp, go_sem, t84]) ⟨_, _, rfl, rfl, ⟨hBw, fun h => by rw [upd_ne x _ (by decide)]; exact f0 (by rw [← getD_set_ne true (show 4 ≠ 0 by decide)]; exact h), fun h => by rw [upd_ne x _ (by decide)]; exact f1 (by rw [← getD_set_ne true (show 4 ≠ 1 by decide)]; exact h), fun h => by rw [upd_ne x _ (by decide)]; exact f2 (by rw [← getD_set_ne true (show 4 ≠ 2 by decide)]; exact h), fun h => by rw [upd_ne x _ (by decide)]; exact f3 (by rw [← getD_set_ne true (show 4 ≠ 3 by decide)]; exact h), fun _ => upd_same _ _ _, fun h => by rw [upd_ne x _ (by decide)]; exact f5 (by rw [← getD_set_ne true (show 4 ≠ 5 by decide)]; exact h), fun h => by rw [upd_ne x _ (by decide)]; exact f6 (by rw [← getD_set_ne true (show 4 ≠ 6 by decide)]; exact h), fun h => by rw [upd_ne x _ (by decide)]; exact f7 (by rw [← getD_set_ne true (show 4 ≠ 7 by decide)]; exact h), fun h => by rw [upd_ne x _ (by decide)]; exact f8 (by rw [← getD_set_ne true (show 4 ≠ 8 by decide)]; exact h), fun h => by rw [upd_ne x _ (by decide)]; exact f9 (by rw [← getD_set_ne true (show 4 ≠ 9 by decide)]; exact h), fun h => by rw [upd_ne x _ (by decide)]; exact f10 (by rw [← getD_set_ne true (show 4 ≠ 10 by decide)]; exact h), fun h => by rw [upd_ne x _ (by decide)]; exact f11 (by rw [← getD_set_ne true (show 4 ≠ 11 by decide)]; exact h), fun h => by rw [upd_ne x _ (by decide)]; exact f12 (by rw [← getD_set_ne true (show 4 ≠ 12 by decide)]; exact h), fun h => by rw [upd_ne x _ (by decide)]; exact f13 (by rw [← getD_set_ne true (show 4 ≠ 13 by decide)]; exact h), fun h => by rw [upd_ne x _ (by decide)]; exact f14 (by rw [← getD_set_ne true (show 4 ≠ 14 by decide)]; exact h), fun h => by obtain ⟨A8, c8, hx⟩ := f15 (by rw [← getD_set_ne true (show 4 ≠ 15 by decide)]; exact h); exact ⟨A8, c8, by rw [upd_ne x _ (by decide)]; exact hx⟩, fun h => by rw [upd_ne x _ (by decide)]; exact f16 (by rw [← getD_set_ne true (show 4 ≠ 16 by decide)]; exact h), fun h => by rw [upd_ne x _ (by decide)]; exact f17 (by rw [← getD_set_ne true (show 4 ≠ 17 by decide)]; exact h), fun h => by rw [upd_ne x _ (by decide)]; exact f18 (by rw [← getD_set_ne true (show 4 ≠ 18 by decide)]; exact h), fun h => by rw [upd_ne x _ (by decide)]; exact f19 (by rw [← getD_set_ne true (show 4 ≠ 19 by decide)]; exact h)⟩⟩
            · have d1 := getD_ft (haf _ rfl ⟨1, .data⟩ (by simp) rfl)
              have e82 : b.eval (.tmp 82) = .bool true := by rw [hbe, eval_in _ _ _ 1 (by decide) rfl (by rw [hz0]; decide)]; exact f1 d1
              have t82 : b.tmps[82]?.getD undef = .bool true := by have tv := e82; simpa only [Act.eval, Array.getD_eq_getD_getElem?] using tv
              have d4 := getD_ft (haf _ rfl ⟨4, .data⟩ (by simp) rfl)
              have e85 : b.eval (.tmp 85) = .bool true := by rw [hbe, eval_in _ _ _ 4 (by decide) rfl (by rw [hz0]; decide)]; exact f4 d4
              have t85 : b.tmps[85]?.getD undef = .bool true := by have tv := e85; simpa only [Act.eval, Array.getD_eq_getD_getElem?] using tv
              refine wpOp_runs (v := .bool true) rfl rfl (by simp [execOp, go_sem, t82, t85]) ⟨_, _, rfl, rfl, ⟨hBw, fun h => by rw [upd_ne x _ (by decide)]; exact f0 (by rw [← getD_set_ne true (show 5 ≠ 0 by decide)]; exact h), fun h => by rw [upd_ne x _ (by decide)]; exact f1 (by rw [← getD_set_ne true (show 5 ≠ 1 by decide)]; exact h), fun h => by rw [upd_ne x _ (by decide)]; exact f2 (by rw [← getD_set_ne true (show 5 ≠ 2 by decide)]; exact h), fun h => by rw [upd_ne x _ (by decide)]; exact f3 (by rw [← getD_set_ne true (show 5 ≠ 3 by decide)]; exact h), fun h => by rw [upd_ne x _ (by decide)]; exact f4 (by rw [← getD_set_ne true (show 5 ≠ 4 by decide)]; exact h), fun _ => upd_same _ _ _, fun h => by rw [upd_ne x _ (by decide)]; exact f6 (by rw [← getD_set_ne true (show 5 ≠ 6 by decide)]; exact h), fun h => by rw [upd_ne x _ (by decide)]; exact f7 (by rw [← getD_set_ne true (show 5 ≠ 7 by decide)]; exact h), fun h => by rw [upd_ne x _ (by decide)]; exact f8 (by rw [← getD_set_ne true (show 5 ≠ 8 by decide)]; exact h), fun h => by rw [upd_ne x _ (by decide)]; exact f9 (by rw [← getD_set_ne true (show 5 ≠ 9 by decide)]; exact h), fun h => by rw [upd_ne x _ (by decide)]; exact f10 (by rw [← getD_set_ne true (show 5 ≠ 10 by decide)]; exact h), fun h => by rw [upd_ne x _ (by decide)]; exact f11 (by rw [← getD_set_ne true (show 5 ≠ 11 by decide)]; exact h), fun h => by rw [upd_ne x _ (by decide)]; exact f12 (by rw [← getD_set_ne true (show 5 ≠ 12 by decide)]; exact h), fun h => by rw [upd_ne x _ (by decide)]; exact f13 (by rw [← getD_set_ne true (show 5 ≠ 13 by decide)]; exact h), fun h => by rw [upd_ne x _ (by decide)]; exact f14 (by rw [← getD_set_ne true (show 5 ≠ 14 by decide)]; exact h), fun h => by obtain ⟨A8, c8, hx⟩ := f15 (by rw [← getD_set_ne true (show 5 ≠ 15 by decide)]; exact h); exact ⟨A8, c8, by rw [upd_ne x _ (by decide)]; exact hx⟩, fun h => by rw [upd_ne x _ (by decide)]; exact f16 (by rw [← getD_set_ne true (show 5 ≠ 16 by decide)]; exact h), fun h => by rw [upd_ne x _ (by decide)]; exact f17 (by rw [← getD_set_ne true (show 5 ≠ 17 by decide)]; exact h), fun h => by rw [upd_ne x _ (by decide)]; exact f18 (by rw [← getD_set_ne true (show 5 ≠ 18 by decide)]; exact h), fun h => by rw [upd_ne x _ (by decide)]; exact f19 (by rw [← getD_set_ne true (show 5 ≠ 19 by decide)]; exact h)⟩⟩
            · have d5 := getD_ft (haf _ rfl ⟨5, .data⟩ (by simp) rfl)
              have e86 : b.eval (.tmp 86) = .bool true := by rw [hbe, eval_in _ _ _ 5 (by decide) rfl (by rw [hz0]; decide)]; exact f5 d5
              have t86 : b.tmps[86]?.getD undef = .bool true := by have tv := e86; simpa only [Act.eval, Array.getD_eq_getD_getElem?] using tv
              refine wpOp_runs (v := .bool true) rfl rfl (by simp [execOp, go_sem, t86]) ⟨_, _, rfl, rfl, ⟨hBw, fun h => by rw [upd_ne x _ (by decide)]; exact f0 (by rw [← getD_set_ne true (show 6 ≠ 0 by decide)]; exact h), fun h => by rw [upd_ne x _ (by decide)]; exact f1 (by rw [← getD_set_ne true (show 6 ≠ 1 by decide)]; exact h), fun h => by rw [upd_ne x _ (by decide)]; exact f2 (by rw [← getD_set_ne true (show 6 ≠ 2 by decide)]; exact h), fun h => by rw [upd_ne x _ (by decide)]; exact f3 (by rw [← getD_set_ne true (show 6 ≠ 3 by decide)]; exact h), fun h => by rw [upd_ne x _ (by decide)]; exact f4 (by rw [← getD_set_ne true (show 6 ≠ 4 by decide)]; exact h), fun h => by rw [upd_ne x _ (by decide)]; exact f5 (by rw [← getD_set_ne true (show 6 ≠ 5 by decide)]; exact h), fun _ => upd_same _ _ _, fun h => by rw [upd_ne x _ (by decide)]; exact f7 (by rw [← getD_set_ne true (show 6 ≠ 7 by decide)]; exact h), fun h => by rw [upd_ne x _ (by decide)]; exact f8 (by rw [← getD_set_ne true (show 6 ≠ 8 by decide)]; exact h), fun h => by rw [upd_ne x _ (by decide)]; exact f9 (by rw [← getD_set_ne true (show 6 ≠ 9 by decide)]; exact h), fun h => by rw [upd_ne x _ (by decide)]; exact f10 (by rw [← getD_set_ne true (show 6 ≠ 10 by decide)]; exact h), fun h => by rw [upd_ne x _ (by decide)]; exact f11 (by rw [← getD_set_ne true (show 6 ≠ 11 by decide)]; exact h), fun h => by rw [upd_ne x _ (by decide)]; exact f12 (by rw [← getD_set_ne true (show 6 ≠ 12 by decide)]; exact h), fun h => by rw [upd_ne x _ (by decide)]; exact f13 (by rw [← getD_set_ne true (show 6 ≠ 13 by decide)]; exact h), fun h => by rw [upd_ne x _ (by decide)]; exact f14 (by rw [← getD_set_ne true (show 6 ≠ 14 by decide)]; exact h), fun h => by obtain ⟨A8, c8, hx⟩ := f15 (by rw [← getD_set_ne true (show 6 ≠ 15 by decide)]; exact h); exact ⟨A8, c8, by rw [upd_ne x _ (by decide)]; exact hx⟩, fun h => by rw [upd_ne x _ (by decide)]; exact f16 (by rw [← getD_set_ne true (show 6 ≠ 16 by decide)]; exact h), fun h => by rw [upd_ne x _ (by decide)]; exact f17 (by rw [← getD_set_ne true (show 6 ≠ 17 by decide)]; exact h), fun h => by rw [upd_ne x _ (by decide)]; exact f18 (by rw [← getD_set_ne true (show 6 ≠ 18 by decide)]; exact h), fun h => by rw [upd_ne x _ (by decide)]; exact f19 (by rw [← getD_set_ne true (show 6 ≠ 19 by decide)]; exact h)⟩⟩
            · have d6 := getD_ft (haf _ rfl ⟨6, .guard⟩ (by simp) rfl)
              have e87 : b.eval (.tmp 87) = .bool true := by rw [hbe, eval_in _ _ _ 6 (by decide) rfl (by rw [hz0]; decide)]; exact f6 d6
              have t87 : b.tmps[87]?.getD undef = .bool true := by have tv := e87; simpa only [Act.eval, Array.getD_eq_getD_getElem?] using tv
              refine wpOp_runs_on (v := .pointer (some ⟨bf, 0, none⟩)) rfl (wanted_on rfl rfl rfl t87) (by simp [execOp, go_sem, t13]) ⟨_, _, rfl, rfl, ⟨hBw, fun h => by rw [upd_ne x _ (by decide)]; exact f0 (by rw [← getD_set_ne true (show 7 ≠ 0 by decide)]; exact h), fun h => by rw [upd_ne x _ (by decide)]; exact f1 (by rw [← getD_set_ne true (show 7 ≠ 1 by decide)]; exact h), fun h => by rw [upd_ne x _ (by decide)]; exact f2 (by rw [← getD_set_ne true (show 7 ≠ 2 by decide)]; exact h), fun h => by rw [upd_ne x _ (by decide)]; exact f3 (by rw [← getD_set_ne true (show 7 ≠ 3 by decide)]; exact h), fun h => by rw [upd_ne x _ (by decide)]; exact f4 (by rw [← getD_set_ne true (show 7 ≠ 4 by decide)]; exact h), fun h => by rw [upd_ne x _ (by decide)]; exact f5 (by rw [← getD_set_ne true (show 7 ≠ 5 by decide)]; exact h), fun h => by rw [upd_ne x _ (by decide)]; exact f6 (by rw [← getD_set_ne true (show 7 ≠ 6 by decide)]; exact h), fun _ => upd_same _ _ _, fun h => by rw [upd_ne x _ (by decide)]; exact f8 (by rw [← getD_set_ne true (show 7 ≠ 8 by decide)]; exact h), fun h => by rw [upd_ne x _ (by decide)]; exact f9 (by rw [← getD_set_ne true (show 7 ≠ 9 by decide)]; exact h), fun h => by rw [upd_ne x _ (by decide)]; exact f10 (by rw [← getD_set_ne true (show 7 ≠ 10 by decide)]; exact h), fun h => by rw [upd_ne x _ (by decide)]; exact f11 (by rw [← getD_set_ne true (show 7 ≠ 11 by decide)]; exact h), fun h => by rw [upd_ne x _ (by decide)]; exact f12 (by rw [← getD_set_ne true (show 7 ≠ 12 by decide)]; exact h), fun h => by rw [upd_ne x _ (by decide)]; exact f13 (by rw [← getD_set_ne true (show 7 ≠ 13 by decide)]; exact h), fun h => by rw [upd_ne x _ (by decide)]; exact f14 (by rw [← getD_set_ne true (show 7 ≠ 14 by decide)]; exact h), fun h => by obtain ⟨A8, c8, hx⟩ := f15 (by rw [← getD_set_ne true (show 7 ≠ 15 by decide)]; exact h); exact ⟨A8, c8, by rw [upd_ne x _ (by decide)]; exact hx⟩, fun h => by rw [upd_ne x _ (by decide)]; exact f16 (by rw [← getD_set_ne true (show 7 ≠ 16 by decide)]; exact h), fun h => by rw [upd_ne x _ (by decide)]; exact f17 (by rw [← getD_set_ne true (show 7 ≠ 17 by decide)]; exact h), fun h => by rw [upd_ne x _ (by decide)]; exact f18 (by rw [← getD_set_ne true (show 7 ≠ 18 by decide)]; exact h), fun h => by rw [upd_ne x _ (by decide)]; exact f19 (by rw [← getD_set_ne true (show 7 ≠ 19 by decide)]; exact h)⟩⟩
            · have d6 := getD_ft (haf _ rfl ⟨6, .guard⟩ (by simp) rfl)
              have e87 : b.eval (.tmp 87) = .bool true := by rw [hbe, eval_in _ _ _ 6 (by decide) rfl (by rw [hz0]; decide)]; exact f6 d6
              have t87 : b.tmps[87]?.getD undef = .bool true := by have tv := e87; simpa only [Act.eval, Array.getD_eq_getD_getElem?] using tv
              have d7 := getD_ft (haf _ rfl ⟨7, .data⟩ (by simp) rfl)
              have e88 : b.eval (.tmp 88) = .pointer (some ⟨bf, 0, none⟩) := by rw [hbe, eval_in _ _ _ 7 (by decide) rfl (by rw [hz0]; decide)]; exact f7 d7
              have t88 : b.tmps[88]?.getD undef = .pointer (some ⟨bf, 0, none⟩) := by have tv := e88; simpa only [Act.eval, Array.getD_eq_getD_getElem?] using tv
              have rr := (hBw.cell (block_lt_of_cell k_f0)).trans k_f0
              refine wpOp_runs_on (v := .int .i64 ln) rfl (wanted_on rfl rfl rfl t87) (by simp [execOp, go_sem, t88, rr]) ⟨_, _, rfl, rfl, ⟨hBw, fun h => by rw [upd_ne x _ (by decide)]; exact f0 (by rw [← getD_set_ne true (show 8 ≠ 0 by decide)]; exact h), fun h => by rw [upd_ne x _ (by decide)]; exact f1 (by rw [← getD_set_ne true (show 8 ≠ 1 by decide)]; exact h), fun h => by rw [upd_ne x _ (by decide)]; exact f2 (by rw [← getD_set_ne true (show 8 ≠ 2 by decide)]; exact h), fun h => by rw [upd_ne x _ (by decide)]; exact f3 (by rw [← getD_set_ne true (show 8 ≠ 3 by decide)]; exact h), fun h => by rw [upd_ne x _ (by decide)]; exact f4 (by rw [← getD_set_ne true (show 8 ≠ 4 by decide)]; exact h), fun h => by rw [upd_ne x _ (by decide)]; exact f5 (by rw [← getD_set_ne true (show 8 ≠ 5 by decide)]; exact h), fun h => by rw [upd_ne x _ (by decide)]; exact f6 (by rw [← getD_set_ne true (show 8 ≠ 6 by decide)]; exact h), fun h => by rw [upd_ne x _ (by decide)]; exact f7 (by rw [← getD_set_ne true (show 8 ≠ 7 by decide)]; exact h), fun _ => upd_same _ _ _, fun h => by rw [upd_ne x _ (by decide)]; exact f9 (by rw [← getD_set_ne true (show 8 ≠ 9 by decide)]; exact h), fun h => by rw [upd_ne x _ (by decide)]; exact f10 (by rw [← getD_set_ne true (show 8 ≠ 10 by decide)]; exact h), fun h => by rw [upd_ne x _ (by decide)]; exact f11 (by rw [← getD_set_ne true (show 8 ≠ 11 by decide)]; exact h), fun h => by rw [upd_ne x _ (by decide)]; exact f12 (by rw [← getD_set_ne true (show 8 ≠ 12 by decide)]; exact h), fun h => by rw [upd_ne x _ (by decide)]; exact f13 (by rw [← getD_set_ne true (show 8 ≠ 13 by decide)]; exact h), fun h => by rw [upd_ne x _ (by decide)]; exact f14 (by rw [← getD_set_ne true (show 8 ≠ 14 by decide)]; exact h), fun h => by obtain ⟨A8, c8, hx⟩ := f15 (by rw [← getD_set_ne true (show 8 ≠ 15 by decide)]; exact h); exact ⟨A8, c8, by rw [upd_ne x _ (by decide)]; exact hx⟩, fun h => by rw [upd_ne x _ (by decide)]; exact f16 (by rw [← getD_set_ne true (show 8 ≠ 16 by decide)]; exact h), fun h => by rw [upd_ne x _ (by decide)]; exact f17 (by rw [← getD_set_ne true (show 8 ≠ 17 by decide)]; exact h), fun h => by rw [upd_ne x _ (by decide)]; exact f18 (by rw [← getD_set_ne true (show 8 ≠ 18 by decide)]; exact h), fun h => by rw [upd_ne x _ (by decide)]; exact f19 (by rw [← getD_set_ne true (show 8 ≠ 19 by decide)]; exact h)⟩⟩
            · have d6 := getD_ft (haf _ rfl ⟨6, .guard⟩ (by simp) rfl)
              have e87 : b.eval (.tmp 87) = .bool true := by rw [hbe, eval_in _ _ _ 6 (by decide) rfl (by rw [hz0]; decide)]; exact f6 d6
              have t87 : b.tmps[87]?.getD undef = .bool true := by have tv := e87; simpa only [Act.eval, Array.getD_eq_getD_getElem?] using tv
              have d8 := getD_ft (haf _ rfl ⟨8, .data⟩ (by simp) rfl)
              have e89 : b.eval (.tmp 89) = .int .i64 ln := by rw [hbe, eval_in _ _ _ 8 (by decide) rfl (by rw [hz0]; decide)]; exact f8 d8
              have t89 : b.tmps[89]?.getD undef = .int .i64 ln := by have tv := e89; simpa only [Act.eval, Array.getD_eq_getD_getElem?] using tv
              refine wpOp_runs_on (v := .bool true) rfl (wanted_on rfl rfl rfl t87) (by simp [execOp, go_sem, t89, he2]) ⟨_, _, rfl, rfl, ⟨hBw, fun h => by rw [upd_ne x _ (by decide)]; exact f0 (by rw [← getD_set_ne true (show 9 ≠ 0 by decide)]; exact h), fun h => by rw [upd_ne x _ (by decide)]; exact f1 (by rw [← getD_set_ne true (show 9 ≠ 1 by decide)]; exact h), fun h => by rw [upd_ne x _ (by decide)]; exact f2 (by rw [← getD_set_ne true (show 9 ≠ 2 by decide)]; exact h), fun h => by rw [upd_ne x _ (by decide)]; exact f3 (by rw [← getD_set_ne true (show 9 ≠ 3 by decide)]; exact h), fun h => by rw [upd_ne x _ (by decide)]; exact f4 (by rw [← getD_set_ne true (show 9 ≠ 4 by decide)]; exact h), fun h => by rw [upd_ne x _ (by decide)]; exact f5 (by rw [← getD_set_ne true (show 9 ≠ 5 by decide)]; exact h), fun h => by rw [upd_ne x _ (by decide)]; exact f6 (by rw [← getD_set_ne true (show 9 ≠ 6 by decide)]; exact h), fun h => by rw [upd_ne x _ (by decide)]; exact f7 (by rw [← getD_set_ne true (show 9 ≠ 7 by decide)]; exact h), fun h => by rw [upd_ne x _ (by decide)]; exact f8 (by rw [← getD_set_ne true (show 9 ≠ 8 by decide)]; exact h), fun _ => upd_same _ _ _, fun h => by rw [upd_ne x _ (by decide)]; exact f10 (by rw [← getD_set_ne true (show 9 ≠ 10 by decide)]; exact h), fun h => by rw [upd_ne x _ (by decide)]; exact f11 (by rw [← getD_set_ne true (show 9 ≠ 11 by decide)]; exact h), fun h => by rw [upd_ne x _ (by decide)]; exact f12 (by rw [← getD_set_ne true (show 9 ≠ 12 by decide)]; exact h), fun h => by rw [upd_ne x _ (by decide)]; exact f13 (by rw [← getD_set_ne true (show 9 ≠ 13 by decide)]; exact h), fun h => by rw [upd_ne x _ (by decide)]; exact f14 (by rw [← getD_set_ne true (show 9 ≠ 14 by decide)]; exact h), fun h => by obtain ⟨A8, c8, hx⟩ := f15 (by rw [← getD_set_ne true (show 9 ≠ 15 by decide)]; exact h); exact ⟨A8, c8, by rw [upd_ne x _ (by decide)]; exact hx⟩, fun h => by rw [upd_ne x _ (by decide)]; exact f16 (by rw [← getD_set_ne true (show 9 ≠ 16 by decide)]; exact h), fun h => by rw [upd_ne x _ (by decide)]; exact f17 (by rw [← getD_set_ne true (show 9 ≠ 17 by decide)]; exact h), fun h => by rw [upd_ne x _ (by decide)]; exact f18 (by rw [← getD_set_ne true (show 9 ≠ 18 by decide)]; exact h), fun h => by rw [upd_ne x _ (by decide)]; exact f19 (by rw [← getD_set_ne true (show 9 ≠ 19 by decide)]; exact h)⟩⟩
            · have d6 := getD_ft (haf _ rfl ⟨6, .data⟩ (by simp) rfl)
              have e87 : b.eval (.tmp 87) = .bool true := by rw [hbe, eval_in _ _ _ 6 (by decide) rfl (by rw [hz0]; decide)]; exact f6 d6
              have t87 : b.tmps[87]?.getD undef = .bool true := by have tv := e87; simpa only [Act.eval, Array.getD_eq_getD_getElem?] using tv
              have d9 := getD_ft (haf _ rfl ⟨9, .data⟩ (by simp) rfl)
              have e90 : b.eval (.tmp 90) = .bool true := by rw [hbe, eval_in _ _ _ 9 (by decide) rfl (by rw [hz0]; decide)]; exact f9 d9
              have t90 : b.tmps[90]?.getD undef = .bool true := by have tv := e90; simpa only [Act.eval, Array.getD_eq_getD_getElem?] using tv
              refine wpOp_runs (v := .bool true) rfl rfl (by simp [execOp, go_sem, t87, t90]) ⟨_, _, rfl, rfl, ⟨hBw, fun h => by rw [upd_ne x _ (by decide)]; exact f0 (by rw [← getD_set_ne true (show 10 ≠ 0 by decide)]; exact h), fun h => by rw [upd_ne x _ (by decide)]; exact f1 (by rw [← getD_set_ne true (show 10 ≠ 1 by decide)]; exact h), fun h => by rw [upd_ne x _ (by decide)]; exact f2 (by rw [← getD_set_ne true (show 10 ≠ 2 by decide)]; exact h), fun h => by rw [upd_ne x _ (by decide)]; exact f3 (by rw [← getD_set_ne true (show 10 ≠ 3 by decide)]; exact h), fun h => by rw [upd_ne x _ (by decide)]; exact f4 (by rw [← getD_set_ne true (show 10 ≠ 4 by decide)]; exact h), fun h => by rw [upd_ne x _ (by decide)]; exact f5 (by rw [← getD_set_ne true (show 10 ≠ 5 by decide)]; exact h), fun h => by rw [upd_ne x _ (by decide)]; exact f6 (by rw [← getD_set_ne true (show 10 ≠ 6 by decide)]; exact h), fun h => by rw [upd_ne x _ (by decide)]; exact f7 (by rw [← getD_set_ne true (show 10 ≠ 7 by decide)]; exact h), fun h => by rw [upd_ne x _ (by decide)]; exact f8 (by rw [← getD_set_ne true (show 10 ≠ 8 by decide)]; exact h), fun h => by rw [upd_ne x _ (by decide)]; exact f9 (by rw [← getD_set_ne true (show 10 ≠ 9 by decide)]; exact h), fun _ => upd_same _ _ _, fun h => by rw [upd_ne x _ (by decide)]; exact f11 (by rw [← getD_set_ne true (show 10 ≠ 11 by decide)]; exact h), fun h => by rw [upd_ne x _ (by decide)]; exact f12 (by rw [← getD_set_ne true (show 10 ≠ 12 by decide)]; exact h), fun h => by rw [upd_ne x _ (by decide)]; exact f13 (by rw [← getD_set_ne true (show 10 ≠ 13 by decide)]; exact h), fun h => by rw [upd_ne x _ (by decide)]; exact f14 (by rw [← getD_set_ne true (show 10 ≠ 14 by decide)]; exact h), fun h => by obtain ⟨A8, c8, hx⟩ := f15 (by rw [← getD_set_ne true (show 10 ≠ 15 by decide)]; exact h); exact ⟨A8, c8, by rw [upd_ne x _ (by decide)]; exact hx⟩, fun h => by rw [upd_ne x _ (by decide)]; exact f16 (by rw [← getD_set_ne true (show 10 ≠ 16 by decide)]; exact h), fun h => by rw [upd_ne x _ (by decide)]; exact f17 (by rw [← getD_set_ne true (show 10 ≠ 17 by decide)]; exact h), fun h => by rw [upd_ne x _ (by decide)]; exact f18 (by rw [← getD_set_ne true (show 10 ≠ 18 by decide)]; exact h), fun h => by rw [upd_ne x _ (by decide)]; exact f19 (by rw [← getD_set_ne true (show 10 ≠ 19 by decide)]; exact h)⟩⟩
            · have d10 := getD_ft (haf _ rfl ⟨10, .data⟩ (by simp) rfl)
              have e91 : b.eval (.tmp 91) = .bool true := by rw [hbe, eval_in _ _ _ 10 (by decide) rfl (by rw [hz0]; decide)]; exact f10 d10
              have t91 : b.tmps[91]?.getD undef = .bool true := by have tv := e91; simpa only [Act.eval, Array.getD_eq_getD_getElem?] using tv
              refine wpOp_runs (v := .bool true) rfl rfl (by simp [execOp, go_sem, t91]) ⟨_, _, rfl, rfl, ⟨hBw, fun h => by rw [upd_ne x _ (by decide)]; exact f0 (by rw [← getD_set_ne true (show 11 ≠ 0 by decide)]; exact h), fun h => by rw [upd_ne x _ (by decide)]; exact f1 (by rw [← getD_set_ne true (show 11 ≠ 1 by decide)]; exact h), fun h => by rw [upd_ne x _ (by decide)]; exact f2 (by rw [← getD_set_ne true (show 11 ≠ 2 by decide)]; exact h), fun h => by rw [upd_ne x _ (by decide)]; exact f3 (by rw [← getD_set_ne true (show 11 ≠ 3 by decide)]; exact h), fun h => by rw [upd_ne x _ (by decide)]; exact f4 (by rw [← getD_set_ne true (show 11 ≠ 4 by decide)]; exact h), fun h => by rw [upd_ne x _ (by decide)]; exact f5 (by rw [← getD_set_ne true (show 11 ≠ 5 by decide)]; exact h), fun h => by rw [upd_ne x _ (by decide)]; exact f6 (by rw [← getD_set_ne true (show 11 ≠ 6 by decide)]; exact h), fun h => by rw [upd_ne x _ (by decide)]; exact f7 (by rw [← getD_set_ne true (show 11 ≠ 7 by decide)]; exact h), fun h => by rw [upd_ne x _ (by decide)]; exact f8 (by rw [← getD_set_ne true (show 11 ≠ 8 by decide)]; exact h), fun h => by rw [upd_ne x _ (by decide)]; exact f9 (by rw [← getD_set_ne true (show 11 ≠ 9 by decide)]; exact h), fun h => by rw [upd_ne x _ (by decide)]; exact f10 (by rw [← getD_set_ne true (show 11 ≠ 10 by decide)]; exact h), fun _ => upd_same _ _ _, fun h => by rw [upd_ne x _ (by decide)]; exact f12 (by rw [← getD_set_ne true (show 11 ≠ 12 by decide)]; exact h), fun h => by rw [upd_ne x _ (by decide)]; exact f13 (by rw [← getD_set_ne true (show 11 ≠ 13 by decide)]; exact h), fun h => by rw [upd_ne x _ (by decide)]; exact f14 (by rw [← getD_set_ne true (show 11 ≠ 14 by decide)]; exact h), fun h => by obtain ⟨A8, c8, hx⟩ := f15 (by rw [← getD_set_ne true (show 11 ≠ 15 by decide)]; exact h); exact ⟨A8, c8, by rw [upd_ne x _ (by decide)]; exact hx⟩, fun h => by rw [upd_ne x _ (by decide)]; exact f16 (by rw [← getD_set_ne true (show 11 ≠ 16 by decide)]; exact h), fun h => by rw [upd_ne x _ (by decide)]; exact f17 (by rw [← getD_set_ne true (show 11 ≠ 17 by decide)]; exact h), fun h => by rw [upd_ne x _ (by decide)]; exact f18 (by rw [← getD_set_ne true (show 11 ≠ 18 by decide)]; exact h), fun h => by rw [upd_ne x _ (by decide)]; exact f19 (by rw [← getD_set_ne true (show 11 ≠ 19 by decide)]; exact h)⟩⟩
            · have d11 := getD_ft (haf _ rfl ⟨11, .guard⟩ (by simp) rfl)
              have e92 : b.eval (.tmp 92) = .bool true := by rw [hbe, eval_in _ _ _ 11 (by decide) rfl (by rw [hz0]; decide)]; exact f11 d11
              have t92 : b.tmps[92]?.getD undef = .bool true := by have tv := e92; simpa only [Act.eval, Array.getD_eq_getD_getElem?] using tv
              refine wpOp_runs_on (v := .pointer (some ⟨bf, 0, none⟩)) rfl (wanted_on rfl rfl rfl t92) (by simp [execOp, go_sem, t13]) ⟨_, _, rfl, rfl, ⟨hBw, fun h => by rw [upd_ne x _ (by decide)]; exact f0 (by rw [← getD_set_ne true (show 12 ≠ 0 by decide)]; exact h), fun h => by rw [upd_ne x _ (by decide)]; exact f1 (by rw [← getD_set_ne true (show 12 ≠ 1 by decide)]; exact h), fun h => by rw [upd_ne x _ (by decide)]; exact f2 (by rw [← getD_set_ne true (show 12 ≠ 2 by decide)]; exact h), fun h => by rw [upd_ne x _ (by decide)]; exact f3 (by rw [← getD_set_ne true (show 12 ≠ 3 by decide)]; exact h), fun h => by rw [upd_ne x _ (by decide)]; exact f4 (by rw [← getD_set_ne true (show 12 ≠ 4 by decide)]; exact h), fun h => by rw [upd_ne x _ (by decide)]; exact f5 (by rw [← getD_set_ne true (show 12 ≠ 5 by decide)]; exact h), fun h => by rw [upd_ne x _ (by decide)]; exact f6 (by rw [← getD_set_ne true (show 12 ≠ 6 by decide)]; exact h), fun h => by rw [upd_ne x _ (by decide)]; exact f7 (by rw [← getD_set_ne true (show 12 ≠ 7 by decide)]; exact h), fun h => by rw [upd_ne x _ (by decide)]; exact f8 (by rw [← getD_set_ne true (show 12 ≠ 8 by decide)]; exact h), fun h => by rw [upd_ne x _ (by decide)]; exact f9 (by rw [← getD_set_ne true (show 12 ≠ 9 by decide)]; exact h), fun h => by rw [upd_ne x _ (by decide)]; exact f10 (by rw [← getD_set_ne true (show 12 ≠ 10 by decide)]; exact h), fun h => by rw [upd_ne x _ (by decide)]; exact f11 (by rw [← getD_set_ne true (show 12 ≠ 11 by decide)]; exact h), fun _ => upd_same _ _ _, fun h => by rw [upd_ne x _ (by decide)]; exact f13 (by rw [← getD_set_ne true (show 12 ≠ 13 by decide)]; exact h), fun h => by rw [upd_ne x _ (by decide)]; exact f14 (by rw [← getD_set_ne true (show 12 ≠ 14 by decide)]; exact h), fun h => by obtain ⟨A8, c8, hx⟩ := f15 (by rw [← getD_set_ne true (show 12 ≠ 15 by decide)]; exact h); exact ⟨A8, c8, by rw [upd_ne x _ (by decide)]; exact hx⟩, fun h => by rw [upd_ne x _ (by decide)]; exact f16 (by rw [← getD_set_ne true (show 12 ≠ 16 by decide)]; exact h), fun h => by rw [upd_ne x _ (by decide)]; exact f17 (by rw [← getD_set_ne true (show 12 ≠ 17 by decide)]; exact h), fun h => by rw [upd_ne x _ (by decide)]; exact f18 (by rw [← getD_set_ne true (show 12 ≠ 18 by decide)]; exact h), fun h => by rw [upd_ne x _ (by decide)]; exact f19 (by rw [← getD_set_ne true (show 12 ≠ 19 by decide)]; exact h)⟩⟩
            · have d11 := getD_ft (haf _ rfl ⟨11, .guard⟩ (by simp) rfl)
              have e92 : b.eval (.tmp 92) = .bool true := by rw [hbe, eval_in _ _ _ 11 (by decide) rfl (by rw [hz0]; decide)]; exact f11 d11
              have t92 : b.tmps[92]?.getD undef = .bool true := by have tv := e92; simpa only [Act.eval, Array.getD_eq_getD_getElem?] using tv
              have d12 := getD_ft (haf _ rfl ⟨12, .data⟩ (by simp) rfl)
              have e93 : b.eval (.tmp 93) = .pointer (some ⟨bf, 0, none⟩) := by rw [hbe, eval_in _ _ _ 12 (by decide) rfl (by rw [hz0]; decide)]; exact f12 d12
              have t93 : b.tmps[93]?.getD undef = .pointer (some ⟨bf, 0, none⟩) := by have tv := e93; simpa only [Act.eval, Array.getD_eq_getD_getElem?] using tv
              have rr := (hBw.cell (block_lt_of_cell k_f0)).trans k_f0
              refine wpOp_runs_on (v := .int .i64 ln) rfl (wanted_on rfl rfl rfl t92) (by simp [execOp, go_sem, t93, rr]) ⟨_, _, rfl, rfl, ⟨hBw, fun h => by rw [upd_ne x _ (by decide)]; exact f0 (by rw [← getD_set_ne true (show 13 ≠ 0 by decide)]; exact h), fun h => by rw [upd_ne x _ (by decide)]; exact f1 (by rw [← getD_set_ne true (show 13 ≠ 1 by decide)]; exact h), fun h => by rw [upd_ne x _ (by decide)]; exact f2 (by rw [← getD_set_ne true (show 13 ≠ 2 by decide)]; exact h), fun h => by rw [upd_ne x _ (by decide)]; exact f3 (by rw [← getD_set_ne true (show 13 ≠ 3 by decide)]; exact h), fun h => by rw [upd_ne x _ (by decide)]; exact f4 (by rw [← getD_set_ne true (show 13 ≠ 4 by decide)]; exact h), fun h => by rw [upd_ne x _ (by decide)]; exact f5 (by rw [← getD_set_ne true (show 13 ≠ 5 by decide)]; exact h), fun h => by rw [upd_ne x _ (by decide)]; exact f6 (by rw [← getD_set_ne true (show 13 ≠ 6 by decide)]; exact h), fun h => by rw [upd_ne x _ (by decide)]; exact f7 (by rw [← getD_set_ne true (show 13 ≠ 7 by decide)]; exact h), fun h => by rw [upd_ne x _ (by decide)]; exact f8 (by rw [← getD_set_ne true (show 13 ≠ 8 by decide)]; exact h), fun h => by rw [upd_ne x _ (by decide)]; exact f9 (by rw [← getD_set_ne true (show 13 ≠ 9 by decide)]; exact h), fun h => by rw [upd_ne x _ (by decide)]; exact f10 (by rw [← getD_set_ne true (show 13 ≠ 10 by decide)]; exact h), fun h => by rw [upd_ne x _ (by decide)]; exact f11 (by rw [← getD_set_ne true (show 13 ≠ 11 by decide)]; exact h), fun h => by rw [upd_ne x _ (by decide)]; exact f12 (by rw [← getD_set_ne true (show 13 ≠ 12 by decide)]; exact h), fun _ => upd_same _ _ _, fun h => by rw [upd_ne x _ (by decide)]; exact f14 (by rw [← getD_set_ne true (show 13 ≠ 14 by decide)]; exact h), fun h => by obtain ⟨A8, c8, hx⟩ := f15 (by rw [← getD_set_ne true (show 13 ≠ 15 by decide)]; exact h); exact ⟨A8, c8, by rw [upd_ne x _ (by decide)]; exact hx⟩, fun h => by rw [upd_ne x _ (by decide)]; exact f16 (by rw [← getD_set_ne true (show 13 ≠ 16 by decide)]; exact h), fun h => by rw [upd_ne x _ (by decide)]; exact f17 (by rw [← getD_set_ne true (show 13 ≠ 17 by decide)]; exact h), fun h => by rw [upd_ne x _ (by decide)]; exact f18 (by rw [← getD_set_ne true (show 13 ≠ 18 by decide)]; exact h), fun h => by rw [upd_ne x _ (by decide)]; exact f19 (by rw [← getD_set_ne true (show 13 ≠ 19 by decide)]; exact h)⟩⟩
            · have d11 := getD_ft (haf _ rfl ⟨11, .guard⟩ (by simp) rfl)
              have e92 : b.eval (.tmp 92) = .bool true := by rw [hbe, eval_in _ _ _ 11 (by decide) rfl (by rw [hz0]; decide)]; exact f11 d11
              have t92 : b.tmps[92]?.getD undef = .bool true := by have tv := e92; simpa only [Act.eval, Array.getD_eq_getD_getElem?] using tv
              refine wpOp_runs_on (v := .string s0) rfl (wanted_on rfl rfl rfl t92) (by simp [execOp, go_sem, t1]) ⟨_, _, rfl, rfl, ⟨hBw, fun h => by rw [upd_ne x _ (by decide)]; exact f0 (by rw [← getD_set_ne true (show 14 ≠ 0 by decide)]; exact h), fun h => by rw [upd_ne x _ (by decide)]; exact f1 (by rw [← getD_set_ne true (show 14 ≠ 1 by decide)]; exact h), fun h => by rw [upd_ne x _ (by decide)]; exact f2 (by rw [← getD_set_ne true (show 14 ≠ 2 by decide)]; exact h), fun h => by rw [upd_ne x _ (by decide)]; exact f3 (by rw [← getD_set_ne true (show 14 ≠ 3 by decide)]; exact h), fun h => by rw [upd_ne x _ (by decide)]; exact f4 (by rw [← getD_set_ne true (show 14 ≠ 4 by decide)]; exact h), fun h => by rw [upd_ne x _ (by decide)]; exact f5 (by rw [← getD_set_ne true (show 14 ≠ 5 by decide)]; exact h), fun h => by rw [upd_ne x _ (by decide)]; exact f6 (by rw [← getD_set_ne true (show 14 ≠ 6 by decide)]; exact h), fun h => by rw [upd_ne x _ (by decide)]; exact f7 (by rw [← getD_set_ne true (show 14 ≠ 7 by decide)]; exact h), fun h => by rw [upd_ne x _ (by decide)]; exact f8 (by rw [← getD_set_ne true (show 14 ≠ 8 by decide)]; exact h), fun h => by rw [upd_ne x _ (by decide)]; exact f9 (by rw [← getD_set_ne true (show 14 ≠ 9 by decide)]; exact h), fun h => by rw [upd_ne x _ (by decide)]; exact f10 (by rw [← getD_set_ne true (show 14 ≠ 10 by decide)]; exact h), fun h => by rw [upd_ne x _ (by decide)]; exact f11 (by rw [← getD_set_ne true (show 14 ≠ 11 by decide)]; exact h), fun h => by rw [upd_ne x _ (by decide)]; exact f12 (by rw [← getD_set_ne true (show 14 ≠ 12 by decide)]; exact h), fun h => by rw [upd_ne x _ (by decide)]; exact f13 (by rw [← getD_set_ne true (show 14 ≠ 13 by decide)]; exact h), fun _ => upd_same _ _ _, fun h => by obtain ⟨A8, c8, hx⟩ := f15 (by rw [← getD_set_ne true (show 14 ≠ 15 by decide)]; exact h); exact ⟨A8, c8, by rw [upd_ne x _ (by decide)]; exact hx⟩, fun h => by rw [upd_ne x _ (by decide)]; exact f16 (by rw [← getD_set_ne true (show 14 ≠ 16 by decide)]; exact h), fun h => by rw [upd_ne x _ (by decide)]; exact f17 (by rw [← getD_set_ne true (show 14 ≠ 17 by decide)]; exact h), fun h => by rw [upd_ne x _ (by decide)]; exact f18 (by rw [← getD_set_ne true (show 14 ≠ 18 by decide)]; exact h), fun h => by rw [upd_ne x _ (by decide)]; exact f19 (by rw [← getD_set_ne true (show 14 ≠ 19 by decide)]; exact h)⟩⟩
            · have d11 := getD_ft (haf _ rfl ⟨11, .guard⟩ (by simp) rfl)
              have e92 : b.eval (.tmp 92) = .bool true := by rw [hbe, eval_in _ _ _ 11 (by decide) rfl (by rw [hz0]; decide)]; exact f11 d11
              have t92 : b.tmps[92]?.getD undef = .bool true := by have tv := e92; simpa only [Act.eval, Array.getD_eq_getD_getElem?] using tv
              have d14 := getD_ft (haf _ rfl ⟨14, .data⟩ (by simp) rfl)
              have e95 : b.eval (.tmp 95) = .string s0 := by rw [hbe, eval_in _ _ _ 14 (by decide) rfl (by rw [hz0]; decide)]; exact f14 d14
              have t95 : b.tmps[95]?.getD undef = .string s0 := by have tv := e95; simpa only [Act.eval, Array.getD_eq_getD_getElem?] using tv
              refine wpOp_call_on rfl (wanted_on rfl rfl rfl t92) 12 #[.tmp 95] _ rfl #[.string s0] (by simp [e95]) Tryd.func12 rfl rfl ?_
              refine (lines_is s0 rows k HR.out HK.out w' (HM.out w' (hB9.out w' hBw)) (by have := HSZ.out; omega)).mono ?_
              rintro e w'' ⟨A8, c8, rfl, h8, hb⟩
              exact ⟨_, rfl, _, _, rfl, rfl, ⟨hBw.trans (hb.mono hBw.size), fun h => by rw [upd_ne x _ (by decide)]; exact f0 (by rw [← getD_set_ne true (show 15 ≠ 0 by decide)]; exact h), fun h => by rw [upd_ne x _ (by decide)]; exact f1 (by rw [← getD_set_ne true (show 15 ≠ 1 by decide)]; exact h), fun h => by rw [upd_ne x _ (by decide)]; exact f2 (by rw [← getD_set_ne true (show 15 ≠ 2 by decide)]; exact h), fun h => by rw [upd_ne x _ (by decide)]; exact f3 (by rw [← getD_set_ne true (show 15 ≠ 3 by decide)]; exact h), fun h => by rw [upd_ne x _ (by decide)]; exact f4 (by rw [← getD_set_ne true (show 15 ≠ 4 by decide)]; exact h), fun h => by rw [upd_ne x _ (by decide)]; exact f5 (by rw [← getD_set_ne true (show 15 ≠ 5 by decide)]; exact h), fun h => by rw [upd_ne x _ (by decide)]; exact f6 (by rw [← getD_set_ne true (show 15 ≠ 6 by decide)]; exact h), fun h => by rw [upd_ne x _ (by decide)]; exact f7 (by rw [← getD_set_ne true (show 15 ≠ 7 by decide)]; exact h), fun h => by rw [upd_ne x _ (by decide)]; exact f8 (by rw [← getD_set_ne true (show 15 ≠ 8 by decide)]; exact h), fun h => by rw [upd_ne x _ (by decide)]; exact f9 (by rw [← getD_set_ne true (show 15 ≠ 9 by decide)]; exact h), fun h => by rw [upd_ne x _ (by decide)]; exact f10 (by rw [← getD_set_ne true (show 15 ≠ 10 by decide)]; exact h), fun h => by rw [upd_ne x _ (by decide)]; exact f11 (by rw [← getD_set_ne true (show 15 ≠ 11 by decide)]; exact h), fun h => by rw [upd_ne x _ (by decide)]; exact f12 (by rw [← getD_set_ne true (show 15 ≠ 12 by decide)]; exact h), fun h => by rw [upd_ne x _ (by decide)]; exact f13 (by rw [← getD_set_ne true (show 15 ≠ 13 by decide)]; exact h), fun h => by rw [upd_ne x _ (by decide)]; exact f14 (by rw [← getD_set_ne true (show 15 ≠ 14 by decide)]; exact h), fun _ => ⟨A8, c8, upd_same _ _ _⟩, fun h => by rw [upd_ne x _ (by decide)]; exact f16 (by rw [← getD_set_ne true (show 15 ≠ 16 by decide)]; exact h), fun h => by rw [upd_ne x _ (by decide)]; exact f17 (by rw [← getD_set_ne true (show 15 ≠ 17 by decide)]; exact h), fun h => by rw [upd_ne x _ (by decide)]; exact f18 (by rw [← getD_set_ne true (show 15 ≠ 18 by decide)]; exact h), fun h => by rw [upd_ne x _ (by decide)]; exact f19 (by rw [← getD_set_ne true (show 15 ≠ 19 by decide)]; exact h)⟩⟩
            · have d11 := getD_ft (haf _ rfl ⟨11, .guard⟩ (by simp) rfl)
              have e92 : b.eval (.tmp 92) = .bool true := by rw [hbe, eval_in _ _ _ 11 (by decide) rfl (by rw [hz0]; decide)]; exact f11 d11
              have t92 : b.tmps[92]?.getD undef = .bool true := by have tv := e92; simpa only [Act.eval, Array.getD_eq_getD_getElem?] using tv
              have d15 := getD_ft (haf _ rfl ⟨15, .data⟩ (by simp) rfl)
              obtain ⟨A8, c8, hx⟩ := f15 d15
              have e96 : b.eval (.tmp 96) = .slice A8 k c8 := by rw [hbe, eval_in _ _ _ 15 (by decide) rfl (by rw [hz0]; decide)]; exact hx
              have t96 : b.tmps[96]?.getD undef = .slice A8 k c8 := by have tv := e96; simpa only [Act.eval, Array.getD_eq_getD_getElem?] using tv
              refine wpOp_runs_on (v := .int .i64 (k : Int)) rfl (wanted_on rfl rfl rfl t92) (by simp [execOp, go_sem, t96]) ⟨_, _, rfl, rfl, ⟨hBw, fun h => by rw [upd_ne x _ (by decide)]; exact f0 (by rw [← getD_set_ne true (show 16 ≠ 0 by decide)]; exact h), fun h => by rw [upd_ne x _ (by decide)]; exact f1 (by rw [← getD_set_ne true (show 16 ≠ 1 by decide)]; exact h), fun h => by rw [upd_ne x _ (by decide)]; exact f2 (by rw [← getD_set_ne true (show 16 ≠ 2 by decide)]; exact h), fun h => by rw [upd_ne x _ (by decide)]; exact f3 (by rw [← getD_set_ne true (show 16 ≠ 3 by decide)]; exact h), fun h => by rw [upd_ne x _ (by decide)]; exact f4 (by rw [← getD_set_ne true (show 16 ≠ 4 by decide)]; exact h), fun h => by rw [upd_ne x _ (by decide)]; exact f5 (by rw [← getD_set_ne true (show 16 ≠ 5 by decide)]; exact h), fun h => by rw [upd_ne x _ (by decide)]; exact f6 (by rw [← getD_set_ne true (show 16 ≠ 6 by decide)]; exact h), fun h => by rw [upd_ne x _ (by decide)]; exact f7 (by rw [← getD_set_ne true (show 16 ≠ 7 by decide)]; exact h), fun h => by rw [upd_ne x _ (by decide)]; exact f8 (by rw [← getD_set_ne true (show 16 ≠ 8 by decide)]; exact h), fun h => by rw [upd_ne x _ (by decide)]; exact f9 (by rw [← getD_set_ne true (show 16 ≠ 9 by decide)]; exact h), fun h => by rw [upd_ne x _ (by decide)]; exact f10 (by rw [← getD_set_ne true (show 16 ≠ 10 by decide)]; exact h), fun h => by rw [upd_ne x _ (by decide)]; exact f11 (by rw [← getD_set_ne true (show 16 ≠ 11 by decide)]; exact h), fun h => by rw [upd_ne x _ (by decide)]; exact f12 (by rw [← getD_set_ne true (show 16 ≠ 12 by decide)]; exact h), fun h => by rw [upd_ne x _ (by decide)]; exact f13 (by rw [← getD_set_ne true (show 16 ≠ 13 by decide)]; exact h), fun h => by rw [upd_ne x _ (by decide)]; exact f14 (by rw [← getD_set_ne true (show 16 ≠ 14 by decide)]; exact h), fun h => by obtain ⟨A8, c8, hx⟩ := f15 (by rw [← getD_set_ne true (show 16 ≠ 15 by decide)]; exact h); exact ⟨A8, c8, by rw [upd_ne x _ (by decide)]; exact hx⟩, fun _ => upd_same _ _ _, fun h => by rw [upd_ne x _ (by decide)]; exact f17 (by rw [← getD_set_ne true (show 16 ≠ 17 by decide)]; exact h), fun h => by rw [upd_ne x _ (by decide)]; exact f18 (by rw [← getD_set_ne true (show 16 ≠ 18 by decide)]; exact h), fun h => by rw [upd_ne x _ (by decide)]; exact f19 (by rw [← getD_set_ne true (show 16 ≠ 19 by decide)]; exact h)⟩⟩
            · have d11 := getD_ft (haf _ rfl ⟨11, .guard⟩ (by simp) rfl)
              have e92 : b.eval (.tmp 92) = .bool true := by rw [hbe, eval_in _ _ _ 11 (by decide) rfl (by rw [hz0]; decide)]; exact f11 d11
              have t92 : b.tmps[92]?.getD undef = .bool true := by have tv := e92; simpa only [Act.eval, Array.getD_eq_getD_getElem?] using tv
              have d13 := getD_ft (haf _ rfl ⟨13, .data⟩ (by simp) rfl)
              have e94 : b.eval (.tmp 94) = .int .i64 ln := by rw [hbe, eval_in _ _ _ 13 (by decide) rfl (by rw [hz0]; decide)]; exact f13 d13
              have t94 : b.tmps[94]?.getD undef = .int .i64 ln := by have tv := e94; simpa only [Act.eval, Array.getD_eq_getD_getElem?] using tv
              have d16 := getD_ft (haf _ rfl ⟨16, .data⟩ (by simp) rfl)
              have e97 : b.eval (.tmp 97) = .int .i64 (k : Int) := by rw [hbe, eval_in _ _ _ 16 (by decide) rfl (by rw [hz0]; decide)]; exact f16 d16
              have t97 : b.tmps[97]?.getD undef = .int .i64 (k : Int) := by have tv := e97; simpa only [Act.eval, Array.getD_eq_getD_getElem?] using tv
              refine wpOp_runs_on (v := .bool true) rfl (wanted_on rfl rfl rfl t92) (by simp [execOp, go_sem, t94, t97, hle]) ⟨_, _, rfl, rfl, ⟨hBw, fun h => by rw [upd_ne x _ (by decide)]; exact f0 (by rw [← getD_set_ne true (show 17 ≠ 0 by decide)]; exact h), fun h => by rw [upd_ne x _ (by decide)]; exact f1 (by rw [← getD_set_ne true (show 17 ≠ 1 by decide)]; exact h), fun h => by rw [upd_ne x _ (by decide)]; exact f2 (by rw [← getD_set_ne true (show 17 ≠ 2 by decide)]; exact h), fun h => by rw [upd_ne x _ (by decide)]; exact f3 (by rw [← getD_set_ne true (show 17 ≠ 3 by decide)]; exact h), fun h => by rw [upd_ne x _ (by decide)]; exact f4 (by rw [← getD_set_ne true (show 17 ≠ 4 by decide)]; exact h), fun h => by rw [upd_ne x _ (by decide)]; exact f5 (by rw [← getD_set_ne true (show 17 ≠ 5 by decide)]; exact h), fun h => by rw [upd_ne x _ (by decide)]; exact f6 (by rw [← getD_set_ne true (show 17 ≠ 6 by decide)]; exact h), fun h => by rw [upd_ne x _ (by decide)]; exact f7 (by rw [← getD_set_ne true (show 17 ≠ 7 by decide)]; exact h), fun h => by rw [upd_ne x _ (by decide)]; exact f8 (by rw [← getD_set_ne true (show 17 ≠ 8 by decide)]; exact h), fun h => by rw [upd_ne x _ (by decide)]; exact f9 (by rw [← getD_set_ne true (show 17 ≠ 9 by decide)]; exact h), fun h => by rw [upd_ne x _ (by decide)]; exact f10 (by rw [← getD_set_ne true (show 17 ≠ 10 by decide)]; exact h), fun h => by rw [upd_ne x _ (by decide)]; exact f11 (by rw [← getD_set_ne true (show 17 ≠ 11 by decide)]; exact h), fun h => by rw [upd_ne x _ (by decide)]; exact f12 (by rw [← getD_set_ne true (show 17 ≠ 12 by decide)]; exact h), fun h => by rw [upd_ne x _ (by decide)]; exact f13 (by rw [← getD_set_ne true (show 17 ≠ 13 by decide)]; exact h), fun h => by rw [upd_ne x _ (by decide)]; exact f14 (by rw [← getD_set_ne true (show 17 ≠ 14 by decide)]; exact h), fun h => by obtain ⟨A8, c8, hx⟩ := f15 (by rw [← getD_set_ne true (show 17 ≠ 15 by decide)]; exact h); exact ⟨A8, c8, by rw [upd_ne x _ (by decide)]; exact hx⟩, fun h => by rw [upd_ne x _ (by decide)]; exact f16 (by rw [← getD_set_ne true (show 17 ≠ 16 by decide)]; exact h), fun _ => upd_same _ _ _, fun h => by rw [upd_ne x _ (by decide)]; exact f18 (by rw [← getD_set_ne true (show 17 ≠ 18 by decide)]; exact h), fun h => by rw [upd_ne x _ (by decide)]; exact f19 (by rw [← getD_set_ne true (show 17 ≠ 19 by decide)]; exact h)⟩⟩
            · have d11 := getD_ft (haf _ rfl ⟨11, .data⟩ (by simp) rfl)
              have e92 : b.eval (.tmp 92) = .bool true := by rw [hbe, eval_in _ _ _ 11 (by decide) rfl (by rw [hz0]; decide)]; exact f11 d11
              have t92 : b.tmps[92]?.getD undef = .bool true := by have tv := e92; simpa only [Act.eval, Array.getD_eq_getD_getElem?] using tv
              have d17 := getD_ft (haf _ rfl ⟨17, .data⟩ (by simp) rfl)
              have e98 : b.eval (.tmp 98) = .bool true := by rw [hbe, eval_in _ _ _ 17 (by decide) rfl (by rw [hz0]; decide)]; exact f17 d17
              have t98 : b.tmps[98]?.getD undef = .bool true := by have tv := e98; simpa only [Act.eval, Array.getD_eq_getD_getElem?] using tv
              refine wpOp_runs (v := .bool true) rfl rfl (by simp [execOp, go_sem, t92, t98]) ⟨_, _, rfl, rfl, ⟨hBw, fun h => by rw [upd_ne x _ (by decide)]; exact f0 (by rw [← getD_set_ne true (show 18 ≠ 0 by decide)]; exact h), fun h => by rw [upd_ne x _ (by decide)]; exact f1 (by rw [← getD_set_ne true (show 18 ≠ 1 by decide)]; exact h), fun h => by rw [upd_ne x _ (by decide)]; exact f2 (by rw [← getD_set_ne true (show 18 ≠ 2 by decide)]; exact h), fun h => by rw [upd_ne x _ (by decide)]; exact f3 (by rw [← getD_set_ne true (show 18 ≠ 3 by decide)]; exact h), fun h => by rw [upd_ne x _ (by decide)]; exact f4 (by rw [← getD_set_ne true (show 18 ≠ 4 by decide)]; exact h), fun h => by rw [upd_ne x _ (by decide)]; exact f5 (by rw [← getD_set_ne true (show 18 ≠ 5 by decide)]; exact h), fun h => by rw [upd_ne x _ (by decide)]; exact f6 (by rw [← getD_set_ne true (show 18 ≠ 6 by decide)]; exact h), fun h => by rw [upd_ne x _ (by decide)]; exact f7 (by rw [← getD_set_ne true (show 18 ≠ 7 by decide)]; exact h), fun h => by rw [upd_ne x _ (by decide)]; exact f8 (by rw [← getD_set_ne true (show 18 ≠ 8 by decide)]; exact h), fun h => by rw [upd_ne x _ (by decide)]; exact f9 (by rw [← getD_set_ne true (show 18 ≠ 9 by decide)]; exact h), fun h => by rw [upd_ne x _ (by decide)]; exact f10 (by rw [← getD_set_ne true (show 18 ≠ 10 by decide)]; exact h), fun h => by rw [upd_ne x _ (by decide)]; exact f11 (by rw [← getD_set_ne true (show 18 ≠ 11 by decide)]; exact h), fun h => by rw [upd_ne x _ (by decide)]; exact f12 (by rw [← getD_set_ne true (show 18 ≠ 12 by decide)]; exact h), fun h => by rw [upd_ne x _ (by decide)]; exact f13 (by rw [← getD_set_ne true (show 18 ≠ 13 by decide)]; exact h), fun h => by rw [upd_ne x _ (by decide)]; exact f14 (by rw [← getD_set_ne true (show 18 ≠ 14 by decide)]; exact h), fun h => by obtain ⟨A8, c8, hx⟩ := f15 (by rw [← getD_set_ne true (show 18 ≠ 15 by decide)]; exact h); exact ⟨A8, c8, by rw [upd_ne x _ (by decide)]; exact hx⟩, fun h => by rw [upd_ne x _ (by decide)]; exact f16 (by rw [← getD_set_ne true (show 18 ≠ 16 by decide)]; exact h), fun h => by rw [upd_ne x _ (by decide)]; exact f17 (by rw [← getD_set_ne true (show 18 ≠ 17 by decide)]; exact h), fun _ => upd_same _ _ _, fun h => by rw [upd_ne x _ (by decide)]; exact f19 (by rw [← getD_set_ne true (show 18 ≠ 19 by decide)]; exact h)⟩⟩
            · have d18 := getD_ft (haf _ rfl ⟨18, .data⟩ (by simp) rfl)
              have e99 : b.eval (.tmp 99) = .bool true := by rw [hbe, eval_in _ _ _ 18 (by decide) rfl (by rw [hz0]; decide)]; exact f18 d18
              have t99 : b.tmps[99]?.getD undef = .bool true := by have tv := e99; simpa only [Act.eval, Array.getD_eq_getD_getElem?] using tv
              refine wpOp_runs (v := .bool true) rfl rfl (by simp [execOp, go_sem, t99]) ⟨_, _, rfl, rfl, ⟨hBw, fun h => by rw [upd_ne x _ (by decide)]; exact f0 (by rw [← getD_set_ne true (show 19 ≠ 0 by decide)]; exact h), fun h => by rw [upd_ne x _ (by decide)]; exact f1 (by rw [← getD_set_ne true (show 19 ≠ 1 by decide)]; exact h), fun h => by rw [upd_ne x _ (by decide)]; exact f2 (by rw [← getD_set_ne true (show 19 ≠ 2 by decide)]; exact h), fun h => by rw [upd_ne x _ (by decide)]; exact f3 (by rw [← getD_set_ne true (show 19 ≠ 3 by decide)]; exact h), fun h => by rw [upd_ne x _ (by decide)]; exact f4 (by rw [← getD_set_ne true (show 19 ≠ 4 by decide)]; exact h), fun h => by rw [upd_ne x _ (by decide)]; exact f5 (by rw [← getD_set_ne true (show 19 ≠ 5 by decide)]; exact h), fun h => by rw [upd_ne x _ (by decide)]; exact f6 (by rw [← getD_set_ne true (show 19 ≠ 6 by decide)]; exact h), fun h => by rw [upd_ne x _ (by decide)]; exact f7 (by rw [← getD_set_ne true (show 19 ≠ 7 by decide)]; exact h), fun h => by rw [upd_ne x _ (by decide)]; exact f8 (by rw [← getD_set_ne true (show 19 ≠ 8 by decide)]; exact h), fun h => by rw [upd_ne x _ (by decide)]; exact f9 (by rw [← getD_set_ne true (show 19 ≠ 9 by decide)]; exact h), fun h => by rw [upd_ne x _ (by decide)]; exact f10 (by rw [← getD_set_ne true (show 19 ≠ 10 by decide)]; exact h), fun h => by rw [upd_ne x _ (by decide)]; exact f11 (by rw [← getD_set_ne true (show 19 ≠ 11 by decide)]; exact h), fun h => by rw [upd_ne x _ (by decide)]; exact f12 (by rw [← getD_set_ne true (show 19 ≠ 12 by decide)]; exact h), fun h => by rw [upd_ne x _ (by decide)]; exact f13 (by rw [← getD_set_ne true (show 19 ≠ 13 by decide)]; exact h), fun h => by rw [upd_ne x _ (by decide)]; exact f14 (by rw [← getD_set_ne true (show 19 ≠ 14 by decide)]; exact h), fun h => by obtain ⟨A8, c8, hx⟩ := f15 (by rw [← getD_set_ne true (show 19 ≠ 15 by decide)]; exact h); exact ⟨A8, c8, by rw [upd_ne x _ (by decide)]; exact hx⟩, fun h => by rw [upd_ne x _ (by decide)]; exact f16 (by rw [← getD_set_ne true (show 19 ≠ 16 by decide)]; exact h), fun h => by rw [upd_ne x _ (by decide)]; exact f17 (by rw [← getD_set_ne true (show 19 ≠ 17 by decide)]; exact h), fun h => by rw [upd_ne x _ (by decide)]; exact f18 (by rw [← getD_set_ne true (show 19 ≠ 18 by decide)]; exact h), fun _ => upd_same _ _ _⟩⟩
          intro V x w' hall hF
          obtain ⟨hbF, f0, f1, f2, f3, f4, f5, f6, f7, f8, f9, f10, f11, f12, f13, f14, f15, f16, f17, f18, f19⟩ := hF
          have hx19 := f19 (hall 19 (by decide))
          clear hall f0 f1 f2 f3 f4 f5 f6 f7 f8 f9 f10 f11 f12 f13 f14 f15 f16 f17 f18 f19
          subst ha0
          simp only [List.map_cons, List.map_nil, putAll, hx19]
          clear hx19
          go_simp
          go_wp2_with fail
          go_ret
          exact ⟨rfl, hB9.out _ hbF⟩
      · have hall : ∀ x ∈ d, rightD x = true := by
          have := HOK.out
          rw [List.all_eq_true] at this
          exact this
        have hpt : t = allL (d.map wordsD) := by
          have h1 := HPR.out
          rw [print_all hall] at h1
          injection h1 with h1
          exact h1.symm
        have HPT := Lib.hid (show textF (linesL (bs t).data.toList) 1 = (d, 0, 0) by rw [bs_list, hpt]; exact text_print hall 1)
        have HTL := Lib.hid (show (bs t).data.toList.length ≤ 50000 by
          rw [bs_list, hpt]
          have h1 := print_len hall
          rw [HD.out] at h1
          have : n * 200 ≤ 100 * 200 := Nat.mul_le_mul (by omega) (Nat.le_refl _)
          omega)
        clear hall hpt
        obtain ⟨tb, htb⟩ : ∃ x, bs t = x := ⟨_, rfl⟩
        rw [htb] at HPT HTL
        rw [htb]
        clear htb
        go_wp2_with fail
        refine (tparse_any tb (linesL tb.data.toList) _ rfl rfl wr (HM.out wr hB) HTL.out d 0 0 HPT.out).mono ?_
        rintro e u1 ⟨v, rfl, hv, hb⟩
        rw [HD.out] at hv
        obtain ⟨A5, c5, rfl⟩ := slice_of_own hv
        have l5 := Sl.of_own hv
        clear hv
        replace h := h.up hb
        replace hB := hB.trans (hb.mono hs)
        replace hs := hB.size
        clear hb
        go_upto_region 14 with fail
        have hf := Blok.new u1 35 #[.int .i64 0, .int .i64 0]
        have hb : Below u1.heap.size u1 (u1.alloc (.cells #[.int .i64 0, .int .i64 0] 35)) := by (repeat (first | exact Below.refl _ _ | refine Below.alloc ?_ (by first | omega | (simp; done) | (simp; omega)) _ | refine Below.setCell ?_ (by first | omega | (simp; done) | (simp; omega)) _ | refine Below.drew ?_))
        replace h := h.up hb
        replace l5 := l5.up hb
        replace hB := hB.trans (hb.mono hs)
        replace hs := hB.size
        clear hb
        generalize u1.alloc (.cells #[.int .i64 0, .int .i64 0] 35) = u2 at *
        generalize hzz : u1.heap.size = bf at *
        clear hzz
        have hNE : ∀ w0 : World, (binOp .neq 35 (.agg #[.int .i64 0, .int .i64 0]) (.agg #[.int .i64 0, .int .i64 0])).run Tryd.prog w0 = .ok (.bool false) w0 := fun w0 => by have h := neqFt 0 0 0 0 w0; simpa using h
        have k_f0 : u2.cell? ⟨bf, 0, none⟩ = some (.int .i64 0) := hf.cell 0
        have k_f1 : u2.cell? ⟨bf, 1, none⟩ = some (.int .i64 0) := hf.cell 1
        have lt_f := hf.lt
        clear hf
        go_wp2_with fail
        refine (fsame_is A5 A n c5 n c d d true (decide_eq_true rfl) u2 HD.out HD.out (by omega) l5 h).mono ?_
        rintro e u3 ⟨rfl, hb⟩
        clear l5 h k_f0 k_f1 lt_f
        replace hB := hB.trans (hb.mono hs)
        replace hs := hB.size
        clear hb
        clear hNE
        go_wp2_with fail
        refine (tparse_any s0 rows k HR.out HK.out u3 (HM.out u3 hB) (by have := HSZ.out; omega) ds ln cd HZ.out).mono ?_
        rintro e z1 ⟨v, rfl, hv, hb⟩
        obtain ⟨nd, hnd⟩ : ∃ k, ds.length = k := ⟨_, rfl⟩
        rw [hnd] at hv
        have HND := Lib.hid hnd
        clear hnd
        obtain ⟨A6, c6, rfl⟩ := slice_of_own hv
        have l6 := Sl.of_own hv
        clear hv
        replace hB := hB.trans (hb.mono hs)
        replace hs := hB.size
        clear hb
        go_upto_region 17 with fail
        have hf := Blok.new z1 35 #[.int .i64 ln, .int .i64 cd]
        have hb : Below z1.heap.size z1 (z1.alloc (.cells #[.int .i64 ln, .int .i64 cd] 35)) := by (repeat (first | exact Below.refl _ _ | refine Below.alloc ?_ (by first | omega | (simp; done) | (simp; omega)) _ | refine Below.setCell ?_ (by first | omega | (simp; done) | (simp; omega)) _ | refine Below.drew ?_))
        replace l6 := l6.up hb
        replace hB := hB.trans (hb.mono hs)
        replace hs := hB.size
        clear hb
        generalize z1.alloc (.cells #[.int .i64 ln, .int .i64 cd] 35) = z2 at *
        generalize hzz : z1.heap.size = bf at *
        clear hzz
        have k_f0 : z2.cell? ⟨bf, 0, none⟩ = some (.int .i64 ln) := hf.cell 0
        have k_f1 : z2.cell? ⟨bf, 1, none⟩ = some (.int .i64 cd) := hf.cell 1
        have lt_f := hf.lt
        by_cases hcd : cd = 0
        · subst hcd
          have hbd := textF_bound rows 1 (by rw [HZ.out])
          rw [HZ.out, HK.out] at hbd
          dsimp only at hbd
          obtain ⟨hl0, hndk⟩ := hbd
          rw [HND.out] at hndk
          subst hl0
          have HPU := Lib.hid (print_all HRT.out)
          have HPT := Lib.hid (text_print HRT.out 1)
          obtain ⟨u, hu⟩ : ∃ u, allL (ds.map wordsD) = u := ⟨_, rfl⟩
          rw [hu] at HPU HPT HSH
          have HWD := Lib.hid (fun x (hx : x ∈ ds) => right_ops (HRT.out x hx))
          clear hu
          go_wp2_with fail
          clear k_f0 k_f1 lt_f
          refine (tprint_any A6 nd c6 ds HND.out (by omega) HWD.out z2 (HT.out z2 hB) l6 (some u) HPU.out).mono ?_
          rintro e z3 ⟨rfl, hb⟩
          replace l6 := l6.up hb
          replace hf := hf.below hb hf.lt
          replace hB := hB.trans (hb.mono hs)
          replace hs := hB.size
          clear hb
          dsimp only [printV]
          obtain ⟨ub, hub⟩ : ∃ x, bs u = x := ⟨_, rfl⟩
          have HUL := Lib.hid (show ub.data.toList = u by rw [← hub, bs_list])
          rw [hub]
          clear hub
          go_wp2_with fail
          refine (tparse_any ub (linesL ub.data.toList) _ rfl rfl z3 (HM.out z3 hB) (by rw [HUL.out]; have := HSH.out; omega) ds 0 0 (by rw [HUL.out]; exact HPT.out)).mono ?_
          rintro e z4 ⟨v, rfl, hv, hb⟩
          rw [HND.out] at hv
          obtain ⟨A7, c7, rfl⟩ := slice_of_own hv
          have l7 := Sl.of_own hv
          clear hv
          replace l6 := l6.up hb
          replace hf := hf.below hb hf.lt
          replace hB := hB.trans (hb.mono hs)
          replace hs := hB.size
          clear hb
          go_upto_region 21 with fail
          have hg := Blok.new z4 35 #[.int .i64 0, .int .i64 0]
          have hb : Below z4.heap.size z4 (z4.alloc (.cells #[.int .i64 0, .int .i64 0] 35)) := by (repeat (first | exact Below.refl _ _ | refine Below.alloc ?_ (by first | omega | (simp; done) | (simp; omega)) _ | refine Below.setCell ?_ (by first | omega | (simp; done) | (simp; omega)) _ | refine Below.drew ?_))
          replace l6 := l6.up hb
          replace l7 := l7.up hb
          replace hf := hf.below hb hf.lt
          replace hB := hB.trans (hb.mono hs)
          replace hs := hB.size
          clear hb
          generalize z4.alloc (.cells #[.int .i64 0, .int .i64 0] 35) = z5 at *
          generalize hzz : z4.heap.size = bg at *
          clear hzz
          have hEQ : ∀ w0 : World, (binOp .eql 35 (.agg #[.int .i64 0, .int .i64 0]) (.agg #[.int .i64 0, .int .i64 0])).run Tryd.prog w0 = .ok (.bool true) w0 := fun w0 => by have h := eqlFt 0 0 0 0 w0; simpa using h
          have k_f0 : z5.cell? ⟨bf, 0, none⟩ = some (.int .i64 0) := hf.cell 0
          have k_f1 : z5.cell? ⟨bf, 1, none⟩ = some (.int .i64 0) := hf.cell 1
          have lt_f := hf.lt
          have k_g0 : z5.cell? ⟨bg, 0, none⟩ = some (.int .i64 0) := hg.cell 0
          have k_g1 : z5.cell? ⟨bg, 1, none⟩ = some (.int .i64 0) := hg.cell 1
          have lt_g := hg.lt
          clear hf hg
          go_wp2_with fail
          refine (fsame_is A7 A6 nd c7 nd c6 ds ds true (decide_eq_true rfl) z5 HND.out HND.out (by omega) l7 l6).mono ?_
          rintro e z6 ⟨rfl, hb⟩
          clear l6 l7
          replace hB := hB.trans (hb.mono hs)
          replace hs := hB.size
          clear hb
          go_wp2_with fail
          go_ret
          exact ⟨rfl, hB⟩
        · have hfl := text_fault rows 1 (by rw [HZ.out]; exact hcd)
          rw [HZ.out, HK.out] at hfl
          dsimp only at hfl
          obtain ⟨he1, he2, he3⟩ := hfl
          have hnd0 : nd = 0 := by have := HND.out; rw [he1] at this; exact this.symm
          subst hnd0
          have hcq : (cd != 0) = true := by simpa using hcd
          have hle : ln ≤ (k : Int) := by omega
          have hB9 := Lib.hid (fun (w' : World) (hb : Below z2.heap.size z2 w') => hB.trans (hb.mono hs))
          clear he1 he3 hcd l6 hf
          go_upto_region 18 with fail
          refine gen_frame ?_
          intro a0 ha0
          try simp only [List.append]
          refine wp_region_frames rfl (by kernel_rfl) (by kernel_rfl) (fun V x w' => Below z2.heap.size z2 w' ∧ (V.getD 0 true = true → x 0 = .bool true) ∧ (V.getD 1 true = true → x 1 = .bool true) ∧ (V.getD 2 true = true → x 2 = .slice A6 0 c6) ∧ (V.getD 3 true = true → x 3 = .int .i64 0) ∧ (V.getD 4 true = true → x 4 = .bool true) ∧ (V.getD 5 true = true → x 5 = .bool true) ∧ (V.getD 6 true = true → x 6 = .bool true) ∧ (V.getD 7 true = true → x 7 = .pointer (some ⟨bf, 0, none⟩)) ∧ (V.getD 8 true = true → x 8 = .int .i64 ln) ∧ (V.getD 9 true = true → x 9 = .bool true) ∧ (V.getD 10 true = true → x 10 = .bool true) ∧ (V.getD 11 true = true → x 11 = .bool true) ∧ (V.getD 12 true = true → x 12 = .pointer (some ⟨bf, 0, none⟩)) ∧ (V.getD 13 true = true → x 13 = .int .i64 ln) ∧ (V.getD 14 true = true → x 14 = .string s0) ∧ (V.getD 15 true = true → ∃ A8 c8, x 15 = .slice A8 k c8) ∧ (V.getD 16 true = true → x 16 = .int .i64 (k : Int)) ∧ (V.getD 17 true = true → x 17 = .bool true) ∧ (V.getD 18 true = true → x 18 = .bool true) ∧ (V.getD 19 true = true → x 19 = .bool true)) ?_ ?_ ?_
          · intro x
            refine ⟨(Below.refl _ _).drew, ?_, ?_, ?_, ?_, ?_, ?_, ?_, ?_, ?_, ?_, ?_, ?_, ?_, ?_, ?_, ?_, ?_, ?_, ?_, ?_⟩ <;> exact fun h => by simp at h
          · intro V x b w' hbq hsz hF i hi hun haf hcl
            obtain ⟨hBw, f0, f1, f2, f3, f4, f5, f6, f7, f8, f9, f10, f11, f12, f13, f14, f15, f16, f17, f18, f19⟩ := hF
            have hbe : b = putAll a0 [some 81, some 82, some 83, some 84, some 85, some 86, some 87, some 88, some 89, some 90, some 91, some 92, some 93, some 94, some 95, some 96, some 97, some 98, some 99, some 4] x 0 := hbq
            have hz0 : a0.tmps.size = 129 := by rw [ha0]; rfl
            have e5 : b.eval (.tmp 5) = .bool true := by rw [hbe, eval_out _ _ _ (by decide), ha0]; rfl
            have t5 : b.tmps[5]?.getD undef = .bool true := by simpa [Act.eval] using e5
            have e12 : b.eval (.tmp 12) = .slice A6 0 c6 := by rw [hbe, eval_out _ _ _ (by decide), ha0]; rfl
            have t12 : b.tmps[12]?.getD undef = .slice A6 0 c6 := by simpa [Act.eval] using e12
            have e13 : b.eval (.tmp 13) = .pointer (some ⟨bf, 0, none⟩) := by rw [hbe, eval_out _ _ _ (by decide), ha0]; rfl
            have t13 : b.tmps[13]?.getD undef = .pointer (some ⟨bf, 0, none⟩) := by simpa [Act.eval] using e13
            have e1 : b.eval (.tmp 1) = .string s0 := by rw [hbe, eval_out _ _ _ (by decide), ha0]; rfl
            have t1 : b.tmps[1]?.getD undef = .string s0 := by simpa [Act.eval] using e1
            clear hbq
            have hi' : i < 20 := hi
            clear hi
            obtain rfl | rfl | rfl | rfl | rfl | rfl | rfl | rfl | rfl | rfl | rfl | rfl | rfl | rfl | rfl | rfl | rfl | rfl | rfl | rfl : i = 0 ∨ i = 1 ∨ i = 2 ∨ i = 3 ∨ i = 4 ∨ i = 5 ∨ i = 6 ∨ i = 7 ∨ i = 8 ∨ i = 9 ∨ i = 10 ∨ i = 11 ∨ i = 12 ∨ i = 13 ∨ i = 14 ∨ i = 15 ∨ i = 16 ∨ i = 17 ∨ i = 18 ∨ i = 19 := by omega
            · refine wpOp_runs (v := .bool true) rfl rfl (by simp [execOp, go_sem, t5]) ⟨_, _, rfl, rfl, ⟨hBw, fun _ => upd_same _ _ _, fun h => by rw [upd_ne x _ (by decide)]; exact f1 (by rw [← getD_set_ne true (show 0 ≠ 1 by decide)]; exact h), fun h => by rw [upd_ne x _ (by decide)]; exact f2 (by rw [← getD_set_ne true (show 0 ≠ 2 by decide)]; exact h), fun h => by rw [upd_ne x _ (by decide)]; exact f3 (by rw [← getD_set_ne true (show 0 ≠ 3 by decide)]; exact h), fun h => by rw [upd_ne x _ (by decide)]; exact f4 (by rw [← getD_set_ne true (show 0 ≠ 4 by decide)]; exact h), fun h => by rw [upd_ne x _ (by decide)]; exact f5 (by rw [← getD_set_ne true (show 0 ≠ 5 by decide)]; exact h), fun h => by rw [upd_ne x _ (by decide)]; exact f6 (by rw [← getD_set_ne true (show 0 ≠ 6 by decide)]; exact h), fun h => by rw [upd_ne x _ (by decide)]; exact f7 (by rw [← getD_set_ne true (show 0 ≠ 7 by decide)]; exact h), fun h => by rw [upd_ne x _ (by decide)]; exact f8 (by rw [← getD_set_ne true (show 0 ≠ 8 by decide)]; exact h), fun h => by rw [upd_ne x _ (by decide)]; exact f9 (by rw [← getD_set_ne true (show 0 ≠ 9 by decide)]; exact h), fun h => by rw [upd_ne x _ (by decide)]; exact f10 (by rw [← getD_set_ne true (show 0 ≠ 10 by decide)]; exact h), fun h => by rw [upd_ne x _ (by decide)]; exact f11 (by rw [← getD_set_ne true (show 0 ≠ 11 by decide)]; exact h), fun h => by rw [upd_ne x _ (by decide)]; exact f12 (by rw [← getD_set_ne true (show 0 ≠ 12 by decide)]; exact h), fun h => by rw [upd_ne x _ (by decide)]; exact f13 (by rw [← getD_set_ne true (show 0 ≠ 13 by decide)]; exact h), fun h => by rw [upd_ne x _ (by decide)]; exact f14 (by rw [← getD_set_ne true (show 0 ≠ 14 by decide)]; exact h), fun h => by obtain ⟨A8, c8, hx⟩ := f15 (by rw [← getD_set_ne true (show 0 ≠ 15 by decide)]; exact h); exact ⟨A8, c8, by rw [upd_ne x _ (by decide)]; exact hx⟩, fun h => by rw [upd_ne x _ (by decide)]; exact f16 (by rw [← getD_set_ne true (show 0 ≠ 16 by decide)]; exact h), fun h => by rw [upd_ne x _ (by decide)]; exact f17 (by rw [← getD_set_ne true (show 0 ≠ 17 by decide)]; exact h), fun h => by rw [upd_ne x _ (by decide)]; exact f18 (by rw [← getD_set_ne true (show 0 ≠ 18 by decide)]; exact h), fun h => by rw [upd_ne x _ (by decide)]; exact f19 (by rw [← getD_set_ne true (show 0 ≠ 19 by decide)]; exact h)⟩⟩
            · have d0 := getD_ft (haf _ rfl ⟨0, .data⟩ (by simp) rfl)
              have e81 : b.eval (.tmp 81) = .bool true := by rw [hbe, eval_in _ _ _ 0 (by decide) rfl (by rw [hz0]; decide)]; exact f0 d0
              have t81 : b.tmps[81]?.getD undef = .bool true := by have tv := e81; simpa only [Act.eval, Array.getD_eq_getD_getElem?] using tv
              refine wpOp_runs (v := .bool true) rfl rfl (by simp [execOp, go_sem, t81]) ⟨_, _, rfl, rfl, ⟨hBw, fun h => by rw [upd_ne x _ (by decide)]; exact f0 (by rw [← getD_set_ne true (show 1 ≠ 0 by decide)]; exact h), fun _ => upd_same _ _ _, fun h => by rw [upd_ne x _ (by decide)]; exact f2 (by rw [← getD_set_ne true (show 1 ≠ 2 by decide)]; exact h), fun h => by rw [upd_ne x _ (by decide)]; exact f3 (by rw [← getD_set_ne true (show 1 ≠ 3 by decide)]; exact h), fun h => by rw [upd_ne x _ (by decide)]; exact f4 (by rw [← getD_set_ne true (show 1 ≠ 4 by decide)]; exact h), fun h => by rw [upd_ne x _ (by decide)]; exact f5 (by rw [← getD_set_ne true (show 1 ≠ 5 by decide)]; exact h), fun h => by rw [upd_ne x _ (by decide)]; exact f6 (by rw [← getD_set_ne true (show 1 ≠ 6 by decide)]; exact h), fun h => by rw [upd_ne x _ (by decide)]; exact f7 (by rw [← getD_set_ne true (show 1 ≠ 7 by decide)]; exact h), fun h => by rw [upd_ne x _ (by decide)]; exact f8 (by rw [← getD_set_ne true (show 1 ≠ 8 by decide)]; exact h), fun h => by rw [upd_ne x _ (by decide)]; exact f9 (by rw [← getD_set_ne true (show 1 ≠ 9 by decide)]; exact h), fun h => by rw [upd_ne x _ (by decide)]; exact f10 (by rw [← getD_set_ne true (show 1 ≠ 10 by decide)]; exact h), fun h => by rw [upd_ne x _ (by decide)]; exact f11 (by rw [← getD_set_ne true (show 1 ≠ 11 by decide)]; exact h), fun h => by rw [upd_ne x _ (by decide)]; exact f12 (by rw [← getD_set_ne true (show 1 ≠ 12 by decide)]; exact h), fun h => by rw [upd_ne x _ (by decide)]; exact f13 (by rw [← getD_set_ne true (show 1 ≠ 13 by decide)]; exact h), fun h => by rw [upd_ne x _ (by decide)]; exact f14 (by rw [← getD_set_ne true (show 1 ≠ 14 by decide)]; exact h), fun h => by obtain ⟨A8, c8, hx⟩ := f15 (by rw [← getD_set_ne true (show 1 ≠ 15 by decide)]; exact h); exact ⟨A8, c8, by rw [upd_ne x _ (by decide)]; exact hx⟩, fun h => by rw [upd_ne x _ (by decide)]; exact f16 (by rw [← getD_set_ne true (show 1 ≠ 16 by decide)]; exact h), fun h => by rw [upd_ne x _ (by decide)]; exact f17 (by rw [← getD_set_ne true (show 1 ≠ 17 by decide)]; exact h), fun h => by rw [upd_ne x _ (by decide)]; exact f18 (by rw [← getD_set_ne true (show 1 ≠ 18 by decide)]; exact h), fun h => by rw [upd_ne x _ (by decide)]; exact f19 (by rw [← getD_set_ne true (show 1 ≠ 19 by decide)]; exact h)⟩⟩
            · have d1 := getD_ft (haf _ rfl ⟨1, .guard⟩ (by simp) rfl)
              have e82 : b.eval (.tmp 82) = .bool true := by rw [hbe, eval_in _ _ _ 1 (by decide) rfl (by rw [hz0]; decide)]; exact f1 d1
              have t82 : b.tmps[82]?.getD undef = .bool true := by have tv := e82; simpa only [Act.eval, Array.getD_eq_getD_getElem?] using tv
              refine wpOp_runs_on (v := .slice A6 0 c6) rfl (wanted_on rfl rfl rfl t82) (by simp [execOp, go_sem, t12]) ⟨_, _, rfl, rfl, ⟨hBw, fun h => by rw [upd_ne x _ (by decide)]; exact f0 (by rw [← getD_set_ne true (show 2 ≠ 0 by decide)]; exact h), fun h => by rw [upd_ne x _ (by decide)]; exact f1 (by rw [← getD_set_ne true (show 2 ≠ 1 by decide)]; exact h), fun _ => upd_same _ _ _, fun h => by rw [upd_ne x _ (by decide)]; exact f3 (by rw [← getD_set_ne true (show 2 ≠ 3 by decide)]; exact h), fun h => by rw [upd_ne x _ (by decide)]; exact f4 (by rw [← getD_set_ne true (show 2 ≠ 4 by decide)]; exact h), fun h => by rw [upd_ne x _ (by decide)]; exact f5 (by rw [← getD_set_ne true (show 2 ≠ 5 by decide)]; exact h), fun h => by rw [upd_ne x _ (by decide)]; exact f6 (by rw [← getD_set_ne true (show 2 ≠ 6 by decide)]; exact h), fun h => by rw [upd_ne x _ (by decide)]; exact f7 (by rw [← getD_set_ne true (show 2 ≠ 7 by decide)]; exact h), fun h => by rw [upd_ne x _ (by decide)]; exact f8 (by rw [← getD_set_ne true (show 2 ≠ 8 by decide)]; exact h), fun h => by rw [upd_ne x _ (by decide)]; exact f9 (by rw [← getD_set_ne true (show 2 ≠ 9 by decide)]; exact h), fun h => by rw [upd_ne x _ (by decide)]; exact f10 (by rw [← getD_set_ne true (show 2 ≠ 10 by decide)]; exact h), fun h => by rw [upd_ne x _ (by decide)]; exact f11 (by rw [← getD_set_ne true (show 2 ≠ 11 by decide)]; exact h), fun h => by rw [upd_ne x _ (by decide)]; exact f12 (by rw [← getD_set_ne true (show 2 ≠ 12 by decide)]; exact h), fun h => by rw [upd_ne x _ (by decide)]; exact f13 (by rw [← getD_set_ne true (show 2 ≠ 13 by decide)]; exact h), fun h => by rw [upd_ne x _ (by decide)]; exact f14 (by rw [← getD_set_ne true (show 2 ≠ 14 by decide)]; exact h), fun h => by obtain ⟨A8, c8, hx⟩ := f15 (by rw [← getD_set_ne true (show 2 ≠ 15 by decide)]; exact h); exact ⟨A8, c8, by rw [upd_ne x _ (by decide)]; exact hx⟩, fun h => by rw [upd_ne x _ (by decide)]; exact f16 (by rw [← getD_set_ne true (show 2 ≠ 16 by decide)]; exact h), fun h => by rw [upd_ne x _ (by decide)]; exact f17 (by rw [← getD_set_ne true (show 2 ≠ 17 by decide)]; exact h), fun h => by rw [upd_ne x _ (by decide)]; exact f18 (by rw [← getD_set_ne true (show 2 ≠ 18 by decide)]; exact h), fun h => by rw [upd_ne x _ (by decide)]; exact f19 (by rw [← getD_set_ne true (show 2 ≠ 19 by decide)]; exact h)⟩⟩
            · have d1 := getD_ft (haf _ rfl ⟨1, .guard⟩ (by simp) rfl)
              have e82 : b.eval (.tmp 82) = .bool true := by rw [hbe, eval_in _ _ _ 1 (by decide) rfl (by rw [hz0]; decide)]; exact f1 d1
              have t82 : b.tmps[82]?.getD undef = .bool true := by have tv := e82; simpa only [Act.eval, Array.getD_eq_getD_getElem?] using tv
              have d2 := getD_ft (haf _ rfl ⟨2, .data⟩ (by simp) rfl)
              have e83 : b.eval (.tmp 83) = .slice A6 0 c6 := by rw [hbe, eval_in _ _ _ 2 (by decide) rfl (by rw [hz0]; decide)]; exact f2 d2
              have t83 : b.tmps[83]?.getD undef = .slice A6 0 c6 := by have tv := e83; simpa only [Act.eval, Array.getD_eq_getD_getElem?] using tv
              refine wpOp_runs_on (v := .int .i64 0) rfl (wanted_on rfl rfl rfl t82) (by simp [execOp, go_sem, t83]) ⟨_, _, rfl, rfl, ⟨hBw, fun h => by rw [upd_ne x _ (by decide)]; exact f0 (by rw [← getD_set_ne true (show 3 ≠ 0 by decide)]; exact h), fun h => by rw [upd_ne x _ (by decide)]; exact f1 (by rw [← getD_set_ne true (show 3 ≠ 1 by decide)]; exact h), fun h => by rw [upd_ne x _ (by decide)]; exact f2 (by rw [← getD_set_ne true (show 3 ≠ 2 by decide)]; exact h), fun _ => upd_same _ _ _, fun h => by rw [upd_ne x _ (by decide)]; exact f4 (by rw [← getD_set_ne true (show 3 ≠ 4 by decide)]; exact h), fun h => by rw [upd_ne x _ (by decide)]; exact f5 (by rw [← getD_set_ne true (show 3 ≠ 5 by decide)]; exact h), fun h => by rw [upd_ne x _ (by decide)]; exact f6 (by rw [← getD_set_ne true (show 3 ≠ 6 by decide)]; exact h), fun h => by rw [upd_ne x _ (by decide)]; exact f7 (by rw [← getD_set_ne true (show 3 ≠ 7 by decide)]; exact h), fun h => by rw [upd_ne x _ (by decide)]; exact f8 (by rw [← getD_set_ne true (show 3 ≠ 8 by decide)]; exact h), fun h => by rw [upd_ne x _ (by decide)]; exact f9 (by rw [← getD_set_ne true (show 3 ≠ 9 by decide)]; exact h), fun h => by rw [upd_ne x _ (by decide)]; exact f10 (by rw [← getD_set_ne true (show 3 ≠ 10 by decide)]; exact h), fun h => by rw [upd_ne x _ (by decide)]; exact f11 (by rw [← getD_set_ne true (show 3 ≠ 11 by decide)]; exact h), fun h => by rw [upd_ne x _ (by decide)]; exact f12 (by rw [← getD_set_ne true (show 3 ≠ 12 by decide)]; exact h), fun h => by rw [upd_ne x _ (by decide)]; exact f13 (by rw [← getD_set_ne true (show 3 ≠ 13 by decide)]; exact h), fun h => by rw [upd_ne x _ (by decide)]; exact f14 (by rw [← getD_set_ne true (show 3 ≠ 14 by decide)]; exact h), fun h => by obtain ⟨A8, c8, hx⟩ := f15 (by rw [← getD_set_ne true (show 3 ≠ 15 by decide)]; exact h); exact ⟨A8, c8, by rw [upd_ne x _ (by decide)]; exact hx⟩, fun h => by rw [upd_ne x _ (by decide)]; exact f16 (by rw [← getD_set_ne true (show 3 ≠ 16 by decide)]; exact h), fun h => by rw [upd_ne x _ (by decide)]; exact f17 (by rw [← getD_set_ne true (show 3 ≠ 17 by decide)]; exact h), fun h => by rw [upd_ne x _ (by decide)]; exact f18 (by rw [← getD_set_ne true (show 3 ≠ 18 by decide)]; exact h), fun h => by rw [upd_ne x _ (by decide)]; exact f19 (by rw [← getD_set_ne true (show 3 ≠ 19 by decide)]; exact h)⟩⟩
            · have d1 := getD_ft (haf _ rfl ⟨1, .guard⟩ (by simp) rfl)
              have e82 : b.eval (.tmp 82) = .bool true := by rw [hbe, eval_in _ _ _ 1 (by decide) rfl (by rw [hz0]; decide)]; exact f1 d1
              have t82 : b.tmps[82]?.getD undef = .bool true := by have tv := e82; simpa only [Act.eval, Array.getD_eq_getD_getElem?] using tv
              have d3 := getD_ft (haf _ rfl ⟨3, .data⟩ (by simp) rfl)
              have e84 : b.eval (.tmp 84) = .int .i64 0 := by rw [hbe, eval_in _ _ _ 3 (by decide) rfl (by rw [hz0]; decide)]; exact f3 d3
              have t84 : b.tmps[84]?.getD undef = .int .i64 0 := by have tv := e84; simpa only [Act.eval, Array.getD_eq_getD_getElem?] using tv
              refine wpOp_runs_on (v := .bool true) rfl (wanted_on rfl rfl rfl t82) (by simp [execOp, go_sem, t84]) ⟨_, _, rfl, rfl, ⟨hBw, fun h => by rw [upd_ne x _ (by decide)]; exact f0 (by rw [← getD_set_ne true (show 4 ≠ 0 by decide)]; exact h), fun h => by rw [upd_ne x _ (by decide)]; exact f1 (by rw [← getD_set_ne true (show 4 ≠ 1 by decide)]; exact h), fun h => by rw [upd_ne x _ (by decide)]; exact f2 (by rw [← getD_set_ne true (show 4 ≠ 2 by decide)]; exact h), fun h => by rw [upd_ne x _ (by decide)]; exact f3 (by rw [← getD_set_ne true (show 4 ≠ 3 by decide)]; exact h), fun _ => upd_same _ _ _, fun h => by rw [upd_ne x _ (by decide)]; exact f5 (by rw [← getD_set_ne true (show 4 ≠ 5 by decide)]; exact h), fun h => by rw [upd_ne x _ (by decide)]; exact f6 (by rw [← getD_set_ne true (show 4 ≠ 6 by decide)]; exact h), fun h => by rw [upd_ne x _ (by decide)]; exact f7 (by rw [← getD_set_ne true (show 4 ≠ 7 by decide)]; exact h), fun h => by rw [upd_ne x _ (by decide)]; exact f8 (by rw [← getD_set_ne true (show 4 ≠ 8 by decide)]; exact h), fun h => by rw [upd_ne x _ (by decide)]; exact f9 (by rw [← getD_set_ne true (show 4 ≠ 9 by decide)]; exact h), fun h => by rw [upd_ne x _ (by decide)]; exact f10 (by rw [← getD_set_ne true (show 4 ≠ 10 by decide)]; exact h), fun h => by rw [upd_ne x _ (by decide)]; exact f11 (by rw [← getD_set_ne true (show 4 ≠ 11 by decide)]; exact h), fun h => by rw [upd_ne x _ (by decide)]; exact f12 (by rw [← getD_set_ne true (show 4 ≠ 12 by decide)]; exact h), fun h => by rw [upd_ne x _ (by decide)]; exact f13 (by rw [← getD_set_ne true (show 4 ≠ 13 by decide)]; exact h), fun h => by rw [upd_ne x _ (by decide)]; exact f14 (by rw [← getD_set_ne true (show 4 ≠ 14 by decide)]; exact h), fun h => by obtain ⟨A8, c8, hx⟩ := f15 (by rw [← getD_set_ne true (show 4 ≠ 15 by decide)]; exact h); exact ⟨A8, c8, by rw [upd_ne x _ (by decide)]; exact hx⟩, fun h => by rw [upd_ne x _ (by decide)]; exact f16 (by rw [← getD_set_ne true (show 4 ≠ 16 by decide)]; exact h), fun h => by rw [upd_ne x _ (by decide)]; exact f17 (by rw [← getD_set_ne true (show 4 ≠ 17 by decide)]; exact h), fun h => by rw [upd_ne x _ (by decide)]; exact f18 (by rw [← getD_set_ne true (show 4 ≠ 18 by decide)]; exact h), fun h => by rw [upd_ne x _ (by decide)]; exact f19 (by rw [← getD_set_ne true (show 4 ≠ 19 by decide)]; exact h)⟩⟩
            · have d1 := getD_ft (haf _ rfl ⟨1, .data⟩ (by simp) rfl)
              have e82 : b.eval (.tmp 82) = .bool true := by rw [hbe, eval_in _ _ _ 1 (by decide) rfl (by rw [hz0]; decide)]; exact f1 d1
              have t82 : b.tmps[82]?.getD undef = .bool true := by have tv := e82; simpa only [Act.eval, Array.getD_eq_getD_getElem?] using tv
              have d4 := getD_ft (haf _ rfl ⟨4, .data⟩ (by simp) rfl)
              have e85 : b.eval (.tmp 85) = .bool true := by rw [hbe, eval_in _ _ _ 4 (by decide) rfl (by rw [hz0]; decide)]; exact f4 d4
              have t85 : b.tmps[85]?.getD undef = .bool true := by have tv := e85; simpa only [Act.eval, Array.getD_eq_getD_getElem?] using tv
              refine wpOp_runs (v := .bool true) rfl rfl (by simp [execOp, go_sem, t82, t85]) ⟨_, _, rfl, rfl, ⟨hBw, fun h => by rw [upd_ne x _ (by decide)]; exact f0 (by rw [← getD_set_ne true (show 5 ≠ 0 by decide)]; exact h), fun h => by rw [upd_ne x _ (by decide)]; exact f1 (by rw [← getD_set_ne true (show 5 ≠ 1 by decide)]; exact h), fun h => by rw [upd_ne x _ (by decide)]; exact f2 (by rw [← getD_set_ne true (show 5 ≠ 2 by decide)]; exact h), fun h => by rw [upd_ne x _ (by decide)]; exact f3 (by rw [← getD_set_ne true (show 5 ≠ 3 by decide)]; exact h), fun h => by rw [upd_ne x _ (by decide)]; exact f4 (by rw [← getD_set_ne true (show 5 ≠ 4 by decide)]; exact h), fun _ => upd_same _ _ _, fun h => by rw [upd_ne x _ (by decide)]; exact f6 (by rw [← getD_set_ne true (show 5 ≠ 6 by decide)]; exact h), fun h => by rw [upd_ne x _ (by decide)]; exact f7 (by rw [← getD_set_ne true (show 5 ≠ 7 by decide)]; exact h), fun h => by rw [upd_ne x _ (by decide)]; exact f8 (by rw [← getD_set_ne true (show 5 ≠ 8 by decide)]; exact h), fun h => by rw [upd_ne x _ (by decide)]; exact f9 (by rw [← getD_set_ne true (show 5 ≠ 9 by decide)]; exact h), fun h => by rw [upd_ne x _ (by decide)]; exact f10 (by rw [← getD_set_ne true (show 5 ≠ 10 by decide)]; exact h), fun h => by rw [upd_ne x _ (by decide)]; exact f11 (by rw [← getD_set_ne true (show 5 ≠ 11 by decide)]; exact h), fun h => by rw [upd_ne x _ (by decide)]; exact f12 (by rw [← getD_set_ne true (show 5 ≠ 12 by decide)]; exact h), fun h => by rw [upd_ne x _ (by decide)]; exact f13 (by rw [← getD_set_ne true (show 5 ≠ 13 by decide)]; exact h), fun h => by rw [upd_ne x _ (by decide)]; exact f14 (by rw [← getD_set_ne true (show 5 ≠ 14 by decide)]; exact h), fun h => by obtain ⟨A8, c8, hx⟩ := f15 (by rw [← getD_set_ne true (show 5 ≠ 15 by decide)]; exact h); exact ⟨A8, c8, by rw [upd_ne x _ (by decide)]; exact hx⟩, fun h => by rw [upd_ne x _ (by decide)]; exact f16 (by rw [← getD_set_ne true (show 5 ≠ 16 by decide)]; exact h), fun h => by rw [upd_ne x _ (by decide)]; exact f17 (by rw [← getD_set_ne true (show 5 ≠ 17 by decide)]; exact h), fun h => by rw [upd_ne x _ (by decide)]; exact f18 (by rw [← getD_set_ne true (show 5 ≠ 18 by decide)]; exact h), fun h => by rw [upd_ne x _ (by decide)]; exact f19 (by rw [← getD_set_ne true (show 5 ≠ 19 by decide)]; exact h)⟩⟩
            · have d5 := getD_ft (haf _ rfl ⟨5, .data⟩ (by simp) rfl)
              have e86 : b.eval (.tmp 86) = .bool true := by rw [hbe, eval_in _ _ _ 5 (by decide) rfl (by rw [hz0]; decide)]; exact f5 d5
              have t86 : b.tmps[86]?.getD undef = .bool true := by have tv := e86; simpa only [Act.eval, Array.getD_eq_getD_getElem?] using tv
              refine wpOp_runs (v := .bool true) rfl rfl (by simp [execOp, go_sem, t86]) ⟨_, _, rfl, rfl, ⟨hBw, fun h => by rw [upd_ne x _ (by decide)]; exact f0 (by rw [← getD_set_ne true (show 6 ≠ 0 by decide)]; exact h), fun h => by rw [upd_ne x _ (by decide)]; exact f1 (by rw [← getD_set_ne true (show 6 ≠ 1 by decide)]; exact h), fun h => by rw [upd_ne x _ (by decide)]; exact f2 (by rw [← getD_set_ne true (show 6 ≠ 2 by decide)]; exact h), fun h => by rw [upd_ne x _ (by decide)]; exact f3 (by rw [← getD_set_ne true (show 6 ≠ 3 by decide)]; exact h), fun h => by rw [upd_ne x _ (by decide)]; exact f4 (by rw [← getD_set_ne true (show 6 ≠ 4 by decide)]; exact h), fun h => by rw [upd_ne x _ (by decide)]; exact f5 (by rw [← getD_set_ne true (show 6 ≠ 5 by decide)]; exact h), fun _ => upd_same _ _ _, fun h => by rw [upd_ne x _ (by decide)]; exact f7 (by rw [← getD_set_ne true (show 6 ≠ 7 by decide)]; exact h), fun h => by rw [upd_ne x _ (by decide)]; exact f8 (by rw [← getD_set_ne true (show 6 ≠ 8 by decide)]; exact h), fun h => by rw [upd_ne x _ (by decide)]; exact f9 (by rw [← getD_set_ne true (show 6 ≠ 9 by decide)]; exact h), fun h => by rw [upd_ne x _ (by decide)]; exact f10 (by rw [← getD_set_ne true (show 6 ≠ 10 by decide)]; exact h), fun h => by rw [upd_ne x _ (by decide)]; exact f11 (by rw [← getD_set_ne true (show 6 ≠ 11 by decide)]; exact h), fun h => by rw [upd_ne x _ (by decide)]; exact f12 (by rw [← getD_set_ne true (show 6 ≠ 12 by decide)]; exact h), fun h => by rw [upd_ne x _ (by decide)]; exact f13 (by rw [← getD_set_ne true (show 6 ≠ 13 by decide)]; exact h), fun h => by rw [upd_ne x _ (by decide)]; exact f14 (by rw [← getD_set_ne true (show 6 ≠ 14 by decide)]; exact h), fun h => by obtain ⟨A8, c8, hx⟩ := f15 (by rw [← getD_set_ne true (show 6 ≠ 15 by decide)]; exact h); exact ⟨A8, c8, by rw [upd_ne x _ (by decide)]; exact hx⟩, fun h => by rw [upd_ne x _ (by decide)]; exact f16 (by rw [← getD_set_ne true (show 6 ≠ 16 by decide)]; exact h), fun h => by rw [upd_ne x _ (by decide)]; exact f17 (by rw [← getD_set_ne true (show 6 ≠ 17 by decide)]; exact h), fun h => by rw [upd_ne x _ (by decide)]; exact f18 (by rw [← getD_set_ne true (show 6 ≠ 18 by decide)]; exact h), fun h => by rw [upd_ne x _ (by decide)]; exact f19 (by rw [← getD_set_ne true (show 6 ≠ 19 by decide)]; exact h)⟩⟩
            · have d6 := getD_ft (haf _ rfl ⟨6, .guard⟩ (by simp) rfl)
              have e87 : b.eval (.tmp 87) = .bool true := by rw [hbe, eval_in _ _ _ 6 (by decide) rfl (by rw [hz0]; decide)]; exact f6 d6
              have t87 : b.tmps[87]?.getD undef = .bool true := by have tv := e87; simpa only [Act.eval, Array.getD_eq_getD_getElem?] using tv
              refine wpOp_runs_on (v := .pointer (some ⟨bf, 0, none⟩)) rfl (wanted_on rfl rfl rfl t87) (by simp [execOp, go_sem, t13]) ⟨_, _, rfl, rfl, ⟨hBw, fun h => by rw [upd_ne x _ (by decide)]; exact f0 (by rw [← getD_set_ne true (show 7 ≠ 0 by decide)]; exact h), fun h => by rw [upd_ne x _ (by decide)]; exact f1 (by rw [← getD_set_ne true (show 7 ≠ 1 by decide)]; exact h), fun h => by rw [upd_ne x _ (by decide)]; exact f2 (by rw [← getD_set_ne true (show 7 ≠ 2 by decide)]; exact h), fun h => by rw [upd_ne x _ (by decide)]; exact f3 (by rw [← getD_set_ne true (show 7 ≠ 3 by decide)]; exact h), fun h => by rw [upd_ne x _ (by decide)]; exact f4 (by rw [← getD_set_ne true (show 7 ≠ 4 by decide)]; exact h), fun h => by rw [upd_ne x _ (by decide)]; exact f5 (by rw [← getD_set_ne true (show 7 ≠ 5 by decide)]; exact h), fun h => by rw [upd_ne x _ (by decide)]; exact f6 (by rw [← getD_set_ne true (show 7 ≠ 6 by decide)]; exact h), fun _ => upd_same _ _ _, fun h => by rw [upd_ne x _ (by decide)]; exact f8 (by rw [← getD_set_ne true (show 7 ≠ 8 by decide)]; exact h), fun h => by rw [upd_ne x _ (by decide)]; exact f9 (by rw [← getD_set_ne true (show 7 ≠ 9 by decide)]; exact h), fun h => by rw [upd_ne x _ (by decide)]; exact f10 (by rw [← getD_set_ne true (show 7 ≠ 10 by decide)]; exact h), fun h => by rw [upd_ne x _ (by decide)]; exact f11 (by rw [← getD_set_ne true (show 7 ≠ 11 by decide)]; exact h), fun h => by rw [upd_ne x _ (by decide)]; exact f12 (by rw [← getD_set_ne true (show 7 ≠ 12 by decide)]; exact h), fun h => by rw [upd_ne x _ (by decide)]; exact f13 (by rw [← getD_set_ne true (show 7 ≠ 13 by decide)]; exact h), fun h => by rw [upd_ne x _ (by decide)]; exact f14 (by rw [← getD_set_ne true (show 7 ≠ 14 by decide)]; exact h), fun h => by obtain ⟨A8, c8, hx⟩ := f15 (by rw [← getD_set_ne true (show 7 ≠ 15 by decide)]; exact h); exact ⟨A8, c8, by rw [upd_ne x _ (by decide)]; exact hx⟩, fun h => by rw [upd_ne x _ (by decide)]; exact f16 (by rw [← getD_set_ne true (show 7 ≠ 16 by decide)]; exact h), fun h => by rw [upd_ne x _ (by decide)]; exact f17 (by rw [← getD_set_ne true (show 7 ≠ 17 by decide)]; exact h), fun h => by rw [upd_ne x _ (by decide)]; exact f18 (by rw [← getD_set_ne true (show 7 ≠ 18 by decide)]; exact h), fun h => by rw [upd_ne x _ (by decide)]; exact f19 (by rw [← getD_set_ne true (show 7 ≠ 19 by decide)]; exact h)⟩⟩
            · have d6 := getD_ft (haf _ rfl ⟨6, .guard⟩ (by simp) rfl)
              have e87 : b.eval (.tmp 87) = .bool true := by rw [hbe, eval_in _ _ _ 6 (by decide) rfl (by rw [hz0]; decide)]; exact f6 d6
              have t87 : b.tmps[87]?.getD undef = .bool true := by have tv := e87; simpa only [Act.eval, Array.getD_eq_getD_getElem?] using tv
              have d7 := getD_ft (haf _ rfl ⟨7, .data⟩ (by simp) rfl)
              have e88 : b.eval (.tmp 88) = .pointer (some ⟨bf, 0, none⟩) := by rw [hbe, eval_in _ _ _ 7 (by decide) rfl (by rw [hz0]; decide)]; exact f7 d7
              have t88 : b.tmps[88]?.getD undef = .pointer (some ⟨bf, 0, none⟩) := by have tv := e88; simpa only [Act.eval, Array.getD_eq_getD_getElem?] using tv
              have rr := (hBw.cell (block_lt_of_cell k_f0)).trans k_f0
              refine wpOp_runs_on (v := .int .i64 ln) rfl (wanted_on rfl rfl rfl t87) (by simp [execOp, go_sem, t88, rr]) ⟨_, _, rfl, rfl, ⟨hBw, fun h => by rw [upd_ne x _ (by decide)]; exact f0 (by rw [← getD_set_ne true (show 8 ≠ 0 by decide)]; exact h), fun h => by rw [upd_ne x _ (by decide)]; exact f1 (by rw [← getD_set_ne true (show 8 ≠ 1 by decide)]; exact h), fun h => by rw [upd_ne x _ (by decide)]; exact f2 (by rw [← getD_set_ne true (show 8 ≠ 2 by decide)]; exact h), fun h => by rw [upd_ne x _ (by decide)]; exact f3 (by rw [← getD_set_ne true (show 8 ≠ 3 by decide)]; exact h), fun h => by rw [upd_ne x _ (by decide)]; exact f4 (by rw [← getD_set_ne true (show 8 ≠ 4 by decide)]; exact h), fun h => by rw [upd_ne x _ (by decide)]; exact f5 (by rw [← getD_set_ne true (show 8 ≠ 5 by decide)]; exact h), fun h => by rw [upd_ne x _ (by decide)]; exact f6 (by rw [← getD_set_ne true (show 8 ≠ 6 by decide)]; exact h), fun h => by rw [upd_ne x _ (by decide)]; exact f7 (by rw [← getD_set_ne true (show 8 ≠ 7 by decide)]; exact h), fun _ => upd_same _ _ _, fun h => by rw [upd_ne x _ (by decide)]; exact f9 (by rw [← getD_set_ne true (show 8 ≠ 9 by decide)]; exact h), fun h => by rw [upd_ne x _ (by decide)]; exact f10 (by rw [← getD_set_ne true (show 8 ≠ 10 by decide)]; exact h), fun h => by rw [upd_ne x _ (by decide)]; exact f11 (by rw [← getD_set_ne true (show 8 ≠ 11 by decide)]; exact h), fun h => by rw [upd_ne x _ (by decide)]; exact f12 (by rw [← getD_set_ne true (show 8 ≠ 12 by decide)]; exact h), fun h => by rw [upd_ne x _ (by decide)]; exact f13 (by rw [← getD_set_ne true (show 8 ≠ 13 by decide)]; exact h), fun h => by rw [upd_ne x _ (by decide)]; exact f14 (by rw [← getD_set_ne true (show 8 ≠ 14 by decide)]; exact h), fun h => by obtain ⟨A8, c8, hx⟩ := f15 (by rw [← getD_set_ne true (show 8 ≠ 15 by decide)]; exact h); exact ⟨A8, c8, by rw [upd_ne x _ (by decide)]; exact hx⟩, fun h => by rw [upd_ne x _ (by decide)]; exact f16 (by rw [← getD_set_ne true (show 8 ≠ 16 by decide)]; exact h), fun h => by rw [upd_ne x _ (by decide)]; exact f17 (by rw [← getD_set_ne true (show 8 ≠ 17 by decide)]; exact h), fun h => by rw [upd_ne x _ (by decide)]; exact f18 (by rw [← getD_set_ne true (show 8 ≠ 18 by decide)]; exact h), fun h => by rw [upd_ne x _ (by decide)]; exact f19 (by rw [← getD_set_ne true (show 8 ≠ 19 by decide)]; exact h)⟩⟩
            · have d6 := getD_ft (haf _ rfl ⟨6, .guard⟩ (by simp) rfl)
              have e87 : b.eval (.tmp 87) = .bool true := by rw [hbe, eval_in _ _ _ 6 (by decide) rfl (by rw [hz0]; decide)]; exact f6 d6
              have t87 : b.tmps[87]?.getD undef = .bool true := by have tv := e87; simpa only [Act.eval, Array.getD_eq_getD_getElem?] using tv
              have d8 := getD_ft (haf _ rfl ⟨8, .data⟩ (by simp) rfl)
              have e89 : b.eval (.tmp 89) = .int .i64 ln := by rw [hbe, eval_in _ _ _ 8 (by decide) rfl (by rw [hz0]; decide)]; exact f8 d8
              have t89 : b.tmps[89]?.getD undef = .int .i64 ln := by have tv := e89; simpa only [Act.eval, Array.getD_eq_getD_getElem?] using tv
              refine wpOp_runs_on (v := .bool true) rfl (wanted_on rfl rfl rfl t87) (by simp [execOp, go_sem, t89, he2]) ⟨_, _, rfl, rfl, ⟨hBw, fun h => by rw [upd_ne x _ (by decide)]; exact f0 (by rw [← getD_set_ne true (show 9 ≠ 0 by decide)]; exact h), fun h => by rw [upd_ne x _ (by decide)]; exact f1 (by rw [← getD_set_ne true (show 9 ≠ 1 by decide)]; exact h), fun h => by rw [upd_ne x _ (by decide)]; exact f2 (by rw [← getD_set_ne true (show 9 ≠ 2 by decide)]; exact h), fun h => by rw [upd_ne x _ (by decide)]; exact f3 (by rw [← getD_set_ne true (show 9 ≠ 3 by decide)]; exact h), fun h => by rw [upd_ne x _ (by decide)]; exact f4 (by rw [← getD_set_ne true (show 9 ≠ 4 by decide)]; exact h), fun h => by rw [upd_ne x _ (by decide)]; exact f5 (by rw [← getD_set_ne true (show 9 ≠ 5 by decide)]; exact h), fun h => by rw [upd_ne x _ (by decide)]; exact f6 (by rw [← getD_set_ne true (show 9 ≠ 6 by decide)]; exact h), fun h => by rw [upd_ne x _ (by decide)]; exact f7 (by rw [← getD_set_ne true (show 9 ≠ 7 by decide)]; exact h), fun h => by rw [upd_ne x _ (by decide)]; exact f8 (by rw [← getD_set_ne true (show 9 ≠ 8 by decide)]; exact h), fun _ => upd_same _ _ _, fun h => by rw [upd_ne x _ (by decide)]; exact f10 (by rw [← getD_set_ne true (show 9 ≠ 10 by decide)]; exact h), fun h => by rw [upd_ne x _ (by decide)]; exact f11 (by rw [← getD_set_ne true (show 9 ≠ 11 by decide)]; exact h), fun h => by rw [upd_ne x _ (by decide)]; exact f12 (by rw [← getD_set_ne true (show 9 ≠ 12 by decide)]; exact h), fun h => by rw [upd_ne x _ (by decide)]; exact f13 (by rw [← getD_set_ne true (show 9 ≠ 13 by decide)]; exact h), fun h => by rw [upd_ne x _ (by decide)]; exact f14 (by rw [← getD_set_ne true (show 9 ≠ 14 by decide)]; exact h), fun h => by obtain ⟨A8, c8, hx⟩ := f15 (by rw [← getD_set_ne true (show 9 ≠ 15 by decide)]; exact h); exact ⟨A8, c8, by rw [upd_ne x _ (by decide)]; exact hx⟩, fun h => by rw [upd_ne x _ (by decide)]; exact f16 (by rw [← getD_set_ne true (show 9 ≠ 16 by decide)]; exact h), fun h => by rw [upd_ne x _ (by decide)]; exact f17 (by rw [← getD_set_ne true (show 9 ≠ 17 by decide)]; exact h), fun h => by rw [upd_ne x _ (by decide)]; exact f18 (by rw [← getD_set_ne true (show 9 ≠ 18 by decide)]; exact h), fun h => by rw [upd_ne x _ (by decide)]; exact f19 (by rw [← getD_set_ne true (show 9 ≠ 19 by decide)]; exact h)⟩⟩
            · have d6 := getD_ft (haf _ rfl ⟨6, .data⟩ (by simp) rfl)
              have e87 : b.eval (.tmp 87) = .bool true := by rw [hbe, eval_in _ _ _ 6 (by decide) rfl (by rw [hz0]; decide)]; exact f6 d6
              have t87 : b.tmps[87]?.getD undef = .bool true := by have tv := e87; simpa only [Act.eval, Array.getD_eq_getD_getElem?] using tv
              have d9 := getD_ft (haf _ rfl ⟨9, .data⟩ (by simp) rfl)
              have e90 : b.eval (.tmp 90) = .bool true := by rw [hbe, eval_in _ _ _ 9 (by decide) rfl (by rw [hz0]; decide)]; exact f9 d9
              have t90 : b.tmps[90]?.getD undef = .bool true := by have tv := e90; simpa only [Act.eval, Array.getD_eq_getD_getElem?] using tv
              refine wpOp_runs (v := .bool true) rfl rfl (by simp [execOp, go_sem, t87, t90]) ⟨_, _, rfl, rfl, ⟨hBw, fun h => by rw [upd_ne x _ (by decide)]; exact f0 (by rw [← getD_set_ne true (show 10 ≠ 0 by decide)]; exact h), fun h => by rw [upd_ne x _ (by decide)]; exact f1 (by rw [← getD_set_ne true (show 10 ≠ 1 by decide)]; exact h), fun h => by rw [upd_ne x _ (by decide)]; exact f2 (by rw [← getD_set_ne true (show 10 ≠ 2 by decide)]; exact h), fun h => by rw [upd_ne x _ (by decide)]; exact f3 (by rw [← getD_set_ne true (show 10 ≠ 3 by decide)]; exact h), fun h => by rw [upd_ne x _ (by decide)]; exact f4 (by rw [← getD_set_ne true (show 10 ≠ 4 by decide)]; exact h), fun h => by rw [upd_ne x _ (by decide)]; exact f5 (by rw [← getD_set_ne true (show 10 ≠ 5 by decide)]; exact h), fun h => by rw [upd_ne x _ (by decide)]; exact f6 (by rw [← getD_set_ne true (show 10 ≠ 6 by decide)]; exact h), fun h => by rw [upd_ne x _ (by decide)]; exact f7 (by rw [← getD_set_ne true (show 10 ≠ 7 by decide)]; exact h), fun h => by rw [upd_ne x _ (by decide)]; exact f8 (by rw [← getD_set_ne true (show 10 ≠ 8 by decide)]; exact h), fun h => by rw [upd_ne x _ (by decide)]; exact f9 (by rw [← getD_set_ne true (show 10 ≠ 9 by decide)]; exact h), fun _ => upd_same _ _ _, fun h => by rw [upd_ne x _ (by decide)]; exact f11 (by rw [← getD_set_ne true (show 10 ≠ 11 by decide)]; exact h), fun h => by rw [upd_ne x _ (by decide)]; exact f12 (by rw [← getD_set_ne true (show 10 ≠ 12 by decide)]; exact h), fun h => by rw [upd_ne x _ (by decide)]; exact f13 (by rw [← getD_set_ne true (show 10 ≠ 13 by decide)]; exact h), fun h => by rw [upd_ne x _ (by decide)]; exact f14 (by rw [← getD_set_ne true (show 10 ≠ 14 by decide)]; exact h), fun h => by obtain ⟨A8, c8, hx⟩ := f15 (by rw [← getD_set_ne true (show 10 ≠ 15 by decide)]; exact h); exact ⟨A8, c8, by rw [upd_ne x _ (by decide)]; exact hx⟩, fun h => by rw [upd_ne x _ (by decide)]; exact f16 (by rw [← getD_set_ne true (show 10 ≠ 16 by decide)]; exact h), fun h => by rw [upd_ne x _ (by decide)]; exact f17 (by rw [← getD_set_ne true (show 10 ≠ 17 by decide)]; exact h), fun h => by rw [upd_ne x _ (by decide)]; exact f18 (by rw [← getD_set_ne true (show 10 ≠ 18 by decide)]; exact h), fun h => by rw [upd_ne x _ (by decide)]; exact f19 (by rw [← getD_set_ne true (show 10 ≠ 19 by decide)]; exact h)⟩⟩
            · have d10 := getD_ft (haf _ rfl ⟨10, .data⟩ (by simp) rfl)
              have e91 : b.eval (.tmp 91) = .bool true := by rw [hbe, eval_in _ _ _ 10 (by decide) rfl (by rw [hz0]; decide)]; exact f10 d10
              have t91 : b.tmps[91]?.getD undef = .bool true := by have tv := e91; simpa only [Act.eval, Array.getD_eq_getD_getElem?] using tv
              refine wpOp_runs (v := .bool true) rfl rfl (by simp [execOp, go_sem, t91]) ⟨_, _, rfl, rfl, ⟨hBw, fun h => by rw [upd_ne x _ (by decide)]; exact f0 (by rw [← getD_set_ne true (show 11 ≠ 0 by decide)]; exact h), fun h => by rw [upd_ne x _ (by decide)]; exact f1 (by rw [← getD_set_ne true (show 11 ≠ 1 by decide)]; exact h), fun h => by rw [upd_ne x _ (by decide)]; exact f2 (by rw [← getD_set_ne true (show 11 ≠ 2 by decide)]; exact h), fun h => by rw [upd_ne x _ (by decide)]; exact f3 (by rw [← getD_set_ne true (show 11 ≠ 3 by decide)]; exact h), fun h => by rw [upd_ne x _ (by decide)]; exact f4 (by rw [← getD_set_ne true (show 11 ≠ 4 by decide)]; exact h), fun h => by rw [upd_ne x _ (by decide)]; exact f5 (by rw [← getD_set_ne true (show 11 ≠ 5 by decide)]; exact h), fun h => by rw [upd_ne x _ (by decide)]; exact f6 (by rw [← getD_set_ne true (show 11 ≠ 6 by decide)]; exact h), fun h => by rw [upd_ne x _ (by decide)]; exact f7 (by rw [← getD_set_ne true (show 11 ≠ 7 by decide)]; exact h), fun h => by rw [upd_ne x _ (by decide)]; exact f8 (by rw [← getD_set_ne true (show 11 ≠ 8 by decide)]; exact h), fun h => by rw [upd_ne x _ (by decide)]; exact f9 (by rw [← getD_set_ne true (show 11 ≠ 9 by decide)]; exact h), fun h => by rw [upd_ne x _ (by decide)]; exact f10 (by rw [← getD_set_ne true (show 11 ≠ 10 by decide)]; exact h), fun _ => upd_same _ _ _, fun h => by rw [upd_ne x _ (by decide)]; exact f12 (by rw [← getD_set_ne true (show 11 ≠ 12 by decide)]; exact h), fun h => by rw [upd_ne x _ (by decide)]; exact f13 (by rw [← getD_set_ne true (show 11 ≠ 13 by decide)]; exact h), fun h => by rw [upd_ne x _ (by decide)]; exact f14 (by rw [← getD_set_ne true (show 11 ≠ 14 by decide)]; exact h), fun h => by obtain ⟨A8, c8, hx⟩ := f15 (by rw [← getD_set_ne true (show 11 ≠ 15 by decide)]; exact h); exact ⟨A8, c8, by rw [upd_ne x _ (by decide)]; exact hx⟩, fun h => by rw [upd_ne x _ (by decide)]; exact f16 (by rw [← getD_set_ne true (show 11 ≠ 16 by decide)]; exact h), fun h => by rw [upd_ne x _ (by decide)]; exact f17 (by rw [← getD_set_ne true (show 11 ≠ 17 by decide)]; exact h), fun h => by rw [upd_ne x _ (by decide)]; exact f18 (by rw [← getD_set_ne true (show 11 ≠ 18 by decide)]; exact h), fun h => by rw [upd_ne x _ (by decide)]; exact f19 (by rw [← getD_set_ne true (show 11 ≠ 19 by decide)]; exact h)⟩⟩
            · have d11 := getD_ft (haf _ rfl ⟨11, .guard⟩ (by simp) rfl)
              have e92 : b.eval (.tmp 92) = .bool true := by rw [hbe, eval_in _ _ _ 11 (by decide) rfl (by rw [hz0]; decide)]; exact f11 d11
              have t92 : b.tmps[92]?.getD undef = .bool true := by have tv := e92; simpa only [Act.eval, Array.getD_eq_getD_getElem?] using tv
              refine wpOp_runs_on (v := .pointer (some ⟨bf, 0, none⟩)) rfl (wanted_on rfl rfl rfl t92) (by simp [execOp, go_sem, t13]) ⟨_, _, rfl, rfl, ⟨hBw, fun h => by rw [upd_ne x _ (by decide)]; exact f0 (by rw [← getD_set_ne true (show 12 ≠ 0 by decide)]; exact h), fun h => by rw [upd_ne x _ (by decide)]; exact f1 (by rw [← getD_set_ne true (show 12 ≠ 1 by decide)]; exact h), fun h => by rw [upd_ne x _ (by decide)]; exact f2 (by rw [← getD_set_ne true (show 12 ≠ 2 by decide)]; exact h), fun h => by rw [upd_ne x _ (by decide)]; exact f3 (by rw [← getD_set_ne true (show 12 ≠ 3 by decide)]; exact h), fun h => by rw [upd_ne x _ (by decide)]; exact f4 (by rw [← getD_set_ne true (show 12 ≠ 4 by decide)]; exact h), fun h => by rw [upd_ne x _ (by decide)]; exact f5 (by rw [← getD_set_ne true (show 12 ≠ 5 by decide)]; exact h), fun h => by rw [upd_ne x _ (by decide)]; exact f6 (by rw [← getD_set_ne true (show 12 ≠ 6 by decide)]; exact h), fun h => by rw [upd_ne x _ (by decide)]; exact f7 (by rw [← getD_set_ne true (show 12 ≠ 7 by decide)]; exact h), fun h => by rw [upd_ne x _ (by decide)]; exact f8 (by rw [← getD_set_ne true (show 12 ≠ 8 by decide)]; exact h), fun h => by rw [upd_ne x _ (by decide)]; exact f9 (by rw [← getD_set_ne true (show 12 ≠ 9 by decide)]; exact h), fun h => by rw [upd_ne x _ (by decide)]; exact f10 (by rw [← getD_set_ne true (show 12 ≠ 10 by decide)]; exact h), fun h => by rw [upd_ne x _ (by decide)]; exact f11 (by rw [← getD_set_ne true (show 12 ≠ 11 by decide)]; exact h), fun _ => upd_same _ _ _, fun h => by rw [upd_ne x _ (by decide)]; exact f13 (by rw [← getD_set_ne true (show 12 ≠ 13 by decide)]; exact h), fun h => by rw [upd_ne x _ (by decide)]; exact f14 (by rw [← getD_set_ne true (show 12 ≠ 14 by decide)]; exact h), fun h => by obtain ⟨A8, c8, hx⟩ := f15 (by rw [← getD_set_ne true (show 12 ≠ 15 by decide)]; exact h); exact ⟨A8, c8, by rw [upd_ne x _ (by decide)]; exact hx⟩, fun h => by rw [upd_ne x _ (by decide)]; exact f16 (by rw [← getD_set_ne true (show 12 ≠ 16 by decide)]; exact h), fun h => by rw [upd_ne x _ (by decide)]; exact f17 (by rw [← getD_set_ne true (show 12 ≠ 17 by decide)]; exact h), fun h => by rw [upd_ne x _ (by decide)]; exact f18 (by rw [← getD_set_ne true (show 12 ≠ 18 by decide)]; exact h), fun h => by rw [upd_ne x _ (by decide)]; exact f19 (by rw [← getD_set_ne true (show 12 ≠ 19 by decide)]; exact h)⟩⟩
            · have d11 := getD_ft (haf _ rfl ⟨11, .guard⟩ (by simp) rfl)
              have e92 : b.eval (.tmp 92) = .bool true := by rw [hbe, eval_in _ _ _ 11 (by decide) rfl (by rw [hz0]; decide)]; exact f11 d11
              have t92 : b.tmps[92]?.getD undef = .bool true := by have tv := e92; simpa only [Act.eval, Array.getD_eq_getD_getElem?] using tv
              have d12 := getD_ft (haf _ rfl ⟨12, .data⟩ (by simp) rfl)
              have e93 : b.eval (.tmp 93) = .pointer (some ⟨bf, 0, none⟩) := by rw [hbe, eval_in _ _ _ 12 (by decide) rfl (by rw [hz0]; decide)]; exact f12 d12
              have t93 : b.tmps[93]?.getD undef = .pointer (some ⟨bf, 0, none⟩) := by have tv := e93; simpa only [Act.eval, Array.getD_eq_getD_getElem?] using tv
              have rr := (hBw.cell (block_lt_of_cell k_f0)).trans k_f0
              refine wpOp_runs_on (v := .int .i64 ln) rfl (wanted_on rfl rfl rfl t92) (by simp [execOp, go_sem, t93, rr]) ⟨_, _, rfl, rfl, ⟨hBw, fun h => by rw [upd_ne x _ (by decide)]; exact f0 (by rw [← getD_set_ne true (show 13 ≠ 0 by decide)]; exact h), fun h => by rw [upd_ne x _ (by decide)]; exact f1 (by rw [← getD_set_ne true (show 13 ≠ 1 by decide)]; exact h), fun h => by rw [upd_ne x _ (by decide)]; exact f2 (by rw [← getD_set_ne true (show 13 ≠ 2 by decide)]; exact h), fun h => by rw [upd_ne x _ (by decide)]; exact f3 (by rw [← getD_set_ne true (show 13 ≠ 3 by decide)]; exact h), fun h => by rw [upd_ne x _ (by decide)]; exact f4 (by rw [← getD_set_ne true (show 13 ≠ 4 by decide)]; exact h), fun h => by rw [upd_ne x _ (by decide)]; exact f5 (by rw [← getD_set_ne true (show 13 ≠ 5 by decide)]; exact h), fun h => by rw [upd_ne x _ (by decide)]; exact f6 (by rw [← getD_set_ne true (show 13 ≠ 6 by decide)]; exact h), fun h => by rw [upd_ne x _ (by decide)]; exact f7 (by rw [← getD_set_ne true (show 13 ≠ 7 by decide)]; exact h), fun h => by rw [upd_ne x _ (by decide)]; exact f8 (by rw [← getD_set_ne true (show 13 ≠ 8 by decide)]; exact h), fun h => by rw [upd_ne x _ (by decide)]; exact f9 (by rw [← getD_set_ne true (show 13 ≠ 9 by decide)]; exact h), fun h => by rw [upd_ne x _ (by decide)]; exact f10 (by rw [← getD_set_ne true (show 13 ≠ 10 by decide)]; exact h), fun h => by rw [upd_ne x _ (by decide)]; exact f11 (by rw [← getD_set_ne true (show 13 ≠ 11 by decide)]; exact h), fun h => by rw [upd_ne x _ (by decide)]; exact f12 (by rw [← getD_set_ne true (show 13 ≠ 12 by decide)]; exact h), fun _ => upd_same _ _ _, fun h => by rw [upd_ne x _ (by decide)]; exact f14 (by rw [← getD_set_ne true (show 13 ≠ 14 by decide)]; exact h), fun h => by obtain ⟨A8, c8, hx⟩ := f15 (by rw [← getD_set_ne true (show 13 ≠ 15 by decide)]; exact h); exact ⟨A8, c8, by rw [upd_ne x _ (by decide)]; exact hx⟩, fun h => by rw [upd_ne x _ (by decide)]; exact f16 (by rw [← getD_set_ne true (show 13 ≠ 16 by decide)]; exact h), fun h => by rw [upd_ne x _ (by decide)]; exact f17 (by rw [← getD_set_ne true (show 13 ≠ 17 by decide)]; exact h), fun h => by rw [upd_ne x _ (by decide)]; exact f18 (by rw [← getD_set_ne true (show 13 ≠ 18 by decide)]; exact h), fun h => by rw [upd_ne x _ (by decide)]; exact f19 (by rw [← getD_set_ne true (show 13 ≠ 19 by decide)]; exact h)⟩⟩
            · have d11 := getD_ft (haf _ rfl ⟨11, .guard⟩ (by simp) rfl)
              have e92 : b.eval (.tmp 92) = .bool true := by rw [hbe, eval_in _ _ _ 11 (by decide) rfl (by rw [hz0]; decide)]; exact f11 d11
              have t92 : b.tmps[92]?.getD undef = .bool true := by have tv := e92; simpa only [Act.eval, Array.getD_eq_getD_getElem?] using tv
              refine wpOp_runs_on (v := .string s0) rfl (wanted_on rfl rfl rfl t92) (by simp [execOp, go_sem, t1]) ⟨_, _, rfl, rfl, ⟨hBw, fun h => by rw [upd_ne x _ (by decide)]; exact f0 (by rw [← getD_set_ne true (show 14 ≠ 0 by decide)]; exact h), fun h => by rw [upd_ne x _ (by decide)]; exact f1 (by rw [← getD_set_ne true (show 14 ≠ 1 by decide)]; exact h), fun h => by rw [upd_ne x _ (by decide)]; exact f2 (by rw [← getD_set_ne true (show 14 ≠ 2 by decide)]; exact h), fun h => by rw [upd_ne x _ (by decide)]; exact f3 (by rw [← getD_set_ne true (show 14 ≠ 3 by decide)]; exact h), fun h => by rw [upd_ne x _ (by decide)]; exact f4 (by rw [← getD_set_ne true (show 14 ≠ 4 by decide)]; exact h), fun h => by rw [upd_ne x _ (by decide)]; exact f5 (by rw [← getD_set_ne true (show 14 ≠ 5 by decide)]; exact h), fun h => by rw [upd_ne x _ (by decide)]; exact f6 (by rw [← getD_set_ne true (show 14 ≠ 6 by decide)]; exact h), fun h => by rw [upd_ne x _ (by decide)]; exact f7 (by rw [← getD_set_ne true (show 14 ≠ 7 by decide)]; exact h), fun h => by rw [upd_ne x _ (by decide)]; exact f8 (by rw [← getD_set_ne true (show 14 ≠ 8 by decide)]; exact h), fun h => by rw [upd_ne x _ (by decide)]; exact f9 (by rw [← getD_set_ne true (show 14 ≠ 9 by decide)]; exact h), fun h => by rw [upd_ne x _ (by decide)]; exact f10 (by rw [← getD_set_ne true (show 14 ≠ 10 by decide)]; exact h), fun h => by rw [upd_ne x _ (by decide)]; exact f11 (by rw [← getD_set_ne true (show 14 ≠ 11 by decide)]; exact h), fun h => by rw [upd_ne x _ (by decide)]; exact f12 (by rw [← getD_set_ne true (show 14 ≠ 12 by decide)]; exact h), fun h => by rw [upd_ne x _ (by decide)]; exact f13 (by rw [← getD_set_ne true (show 14 ≠ 13 by decide)]; exact h), fun _ => upd_same _ _ _, fun h => by obtain ⟨A8, c8, hx⟩ := f15 (by rw [← getD_set_ne true (show 14 ≠ 15 by decide)]; exact h); exact ⟨A8, c8, by rw [upd_ne x _ (by decide)]; exact hx⟩, fun h => by rw [upd_ne x _ (by decide)]; exact f16 (by rw [← getD_set_ne true (show 14 ≠ 16 by decide)]; exact h), fun h => by rw [upd_ne x _ (by decide)]; exact f17 (by rw [← getD_set_ne true (show 14 ≠ 17 by decide)]; exact h), fun h => by rw [upd_ne x _ (by decide)]; exact f18 (by rw [← getD_set_ne true (show 14 ≠ 18 by decide)]; exact h), fun h => by rw [upd_ne x _ (by decide)]; exact f19 (by rw [← getD_set_ne true (show 14 ≠ 19 by decide)]; exact h)⟩⟩
            · have d11 := getD_ft (haf _ rfl ⟨11, .guard⟩ (by simp) rfl)
              have e92 : b.eval (.tmp 92) = .bool true := by rw [hbe, eval_in _ _ _ 11 (by decide) rfl (by rw [hz0]; decide)]; exact f11 d11
              have t92 : b.tmps[92]?.getD undef = .bool true := by have tv := e92; simpa only [Act.eval, Array.getD_eq_getD_getElem?] using tv
              have d14 := getD_ft (haf _ rfl ⟨14, .data⟩ (by simp) rfl)
              have e95 : b.eval (.tmp 95) = .string s0 := by rw [hbe, eval_in _ _ _ 14 (by decide) rfl (by rw [hz0]; decide)]; exact f14 d14
              have t95 : b.tmps[95]?.getD undef = .string s0 := by have tv := e95; simpa only [Act.eval, Array.getD_eq_getD_getElem?] using tv
              refine wpOp_call_on rfl (wanted_on rfl rfl rfl t92) 12 #[.tmp 95] _ rfl #[.string s0] (by simp [e95]) Tryd.func12 rfl rfl ?_
              refine (lines_is s0 rows k HR.out HK.out w' (HM.out w' (hB9.out w' hBw)) (by have := HSZ.out; omega)).mono ?_
              rintro e w'' ⟨A8, c8, rfl, h8, hb⟩
              exact ⟨_, rfl, _, _, rfl, rfl, ⟨hBw.trans (hb.mono hBw.size), fun h => by rw [upd_ne x _ (by decide)]; exact f0 (by rw [← getD_set_ne true (show 15 ≠ 0 by decide)]; exact h), fun h => by rw [upd_ne x _ (by decide)]; exact f1 (by rw [← getD_set_ne true (show 15 ≠ 1 by decide)]; exact h), fun h => by rw [upd_ne x _ (by decide)]; exact f2 (by rw [← getD_set_ne true (show 15 ≠ 2 by decide)]; exact h), fun h => by rw [upd_ne x _ (by decide)]; exact f3 (by rw [← getD_set_ne true (show 15 ≠ 3 by decide)]; exact h), fun h => by rw [upd_ne x _ (by decide)]; exact f4 (by rw [← getD_set_ne true (show 15 ≠ 4 by decide)]; exact h), fun h => by rw [upd_ne x _ (by decide)]; exact f5 (by rw [← getD_set_ne true (show 15 ≠ 5 by decide)]; exact h), fun h => by rw [upd_ne x _ (by decide)]; exact f6 (by rw [← getD_set_ne true (show 15 ≠ 6 by decide)]; exact h), fun h => by rw [upd_ne x _ (by decide)]; exact f7 (by rw [← getD_set_ne true (show 15 ≠ 7 by decide)]; exact h), fun h => by rw [upd_ne x _ (by decide)]; exact f8 (by rw [← getD_set_ne true (show 15 ≠ 8 by decide)]; exact h), fun h => by rw [upd_ne x _ (by decide)]; exact f9 (by rw [← getD_set_ne true (show 15 ≠ 9 by decide)]; exact h), fun h => by rw [upd_ne x _ (by decide)]; exact f10 (by rw [← getD_set_ne true (show 15 ≠ 10 by decide)]; exact h), fun h => by rw [upd_ne x _ (by decide)]; exact f11 (by rw [← getD_set_ne true (show 15 ≠ 11 by decide)]; exact h), fun h => by rw [upd_ne x _ (by decide)]; exact f12 (by rw [← getD_set_ne true (show 15 ≠ 12 by decide)]; exact h), fun h => by rw [upd_ne x _ (by decide)]; exact f13 (by rw [← getD_set_ne true (show 15 ≠ 13 by decide)]; exact h), fun h => by rw [upd_ne x _ (by decide)]; exact f14 (by rw [← getD_set_ne true (show 15 ≠ 14 by decide)]; exact h), fun _ => ⟨A8, c8, upd_same _ _ _⟩, fun h => by rw [upd_ne x _ (by decide)]; exact f16 (by rw [← getD_set_ne true (show 15 ≠ 16 by decide)]; exact h), fun h => by rw [upd_ne x _ (by decide)]; exact f17 (by rw [← getD_set_ne true (show 15 ≠ 17 by decide)]; exact h), fun h => by rw [upd_ne x _ (by decide)]; exact f18 (by rw [← getD_set_ne true (show 15 ≠ 18 by decide)]; exact h), fun h => by rw [upd_ne x _ (by decide)]; exact f19 (by rw [← getD_set_ne true (show 15 ≠ 19 by decide)]; exact h)⟩⟩
            · have d11 := getD_ft (haf _ rfl ⟨11, .guard⟩ (by simp) rfl)
              have e92 : b.eval (.tmp 92) = .bool true := by rw [hbe, eval_in _ _ _ 11 (by decide) rfl (by rw [hz0]; decide)]; exact f11 d11
              have t92 : b.tmps[92]?.getD undef = .bool true := by have tv := e92; simpa only [Act.eval, Array.getD_eq_getD_getElem?] using tv
              have d15 := getD_ft (haf _ rfl ⟨15, .data⟩ (by simp) rfl)
              obtain ⟨A8, c8, hx⟩ := f15 d15
              have e96 : b.eval (.tmp 96) = .slice A8 k c8 := by rw [hbe, eval_in _ _ _ 15 (by decide) rfl (by rw [hz0]; decide)]; exact hx
              have t96 : b.tmps[96]?.getD undef = .slice A8 k c8 := by have tv := e96; simpa only [Act.eval, Array.getD_eq_getD_getElem?] using tv
              refine wpOp_runs_on (v := .int .i64 (k : Int)) rfl (wanted_on rfl rfl rfl t92) (by simp [execOp, go_sem, t96]) ⟨_, _, rfl, rfl, ⟨hBw, fun h => by rw [upd_ne x _ (by decide)]; exact f0 (by rw [← getD_set_ne true (show 16 ≠ 0 by decide)]; exact h), fun h => by rw [upd_ne x _ (by decide)]; exact f1 (by rw [← getD_set_ne true (show 16 ≠ 1 by decide)]; exact h), fun h => by rw [upd_ne x _ (by decide)]; exact f2 (by rw [← getD_set_ne true (show 16 ≠ 2 by decide)]; exact h), fun h => by rw [upd_ne x _ (by decide)]; exact f3 (by rw [← getD_set_ne true (show 16 ≠ 3 by decide)]; exact h), fun h => by rw [upd_ne x _ (by decide)]; exact f4 (by rw [← getD_set_ne true (show 16 ≠ 4 by decide)]; exact h), fun h => by rw [upd_ne x _ (by decide)]; exact f5 (by rw [← getD_set_ne true (show 16 ≠ 5 by decide)]; exact h), fun h => by rw [upd_ne x _ (by decide)]; exact f6 (by rw [← getD_set_ne true (show 16 ≠ 6 by decide)]; exact h), fun h => by rw [upd_ne x _ (by decide)]; exact f7 (by rw [← getD_set_ne true (show 16 ≠ 7 by decide)]; exact h), fun h => by rw [upd_ne x _ (by decide)]; exact f8 (by rw [← getD_set_ne true (show 16 ≠ 8 by decide)]; exact h), fun h => by rw [upd_ne x _ (by decide)]; exact f9 (by rw [← getD_set_ne true (show 16 ≠ 9 by decide)]; exact h), fun h => by rw [upd_ne x _ (by decide)]; exact f10 (by rw [← getD_set_ne true (show 16 ≠ 10 by decide)]; exact h), fun h => by rw [upd_ne x _ (by decide)]; exact f11 (by rw [← getD_set_ne true (show 16 ≠ 11 by decide)]; exact h), fun h => by rw [upd_ne x _ (by decide)]; exact f12 (by rw [← getD_set_ne true (show 16 ≠ 12 by decide)]; exact h), fun h => by rw [upd_ne x _ (by decide)]; exact f13 (by rw [← getD_set_ne true (show 16 ≠ 13 by decide)]; exact h), fun h => by rw [upd_ne x _ (by decide)]; exact f14 (by rw [← getD_set_ne true (show 16 ≠ 14 by decide)]; exact h), fun h => by obtain ⟨A8, c8, hx⟩ := f15 (by rw [← getD_set_ne true (show 16 ≠ 15 by decide)]; exact h); exact ⟨A8, c8, by rw [upd_ne x _ (by decide)]; exact hx⟩, fun _ => upd_same _ _ _, fun h => by rw [upd_ne x _ (by decide)]; exact f17 (by rw [← getD_set_ne true (show 16 ≠ 17 by decide)]; exact h), fun h => by rw [upd_ne x _ (by decide)]; exact f18 (by rw [← getD_set_ne true (show 16 ≠ 18 by decide)]; exact h), fun h => by rw [upd_ne x _ (by decide)]; exact f19 (by rw [← getD_set_ne true (show 16 ≠ 19 by decide)]; exact h)⟩⟩
            · have d11 := getD_ft (haf _ rfl ⟨11, .guard⟩ (by simp) rfl)
              have e92 : b.eval (.tmp 92) = .bool true := by rw [hbe, eval_in _ _ _ 11 (by decide) rfl (by rw [hz0]; decide)]; exact f11 d11
              have t92 : b.tmps[92]?.getD undef = .bool true := by have tv := e92; simpa only [Act.eval, Array.getD_eq_getD_getElem?] using tv
              have d13 := getD_ft (haf _ rfl ⟨13, .data⟩ (by simp) rfl)
              have e94 : b.eval (.tmp 94) = .int .i64 ln := by rw [hbe, eval_in _ _ _ 13 (by decide) rfl (by rw [hz0]; decide)]; exact f13 d13
              have t94 : b.tmps[94]?.getD undef = .int .i64 ln := by have tv := e94; simpa only [Act.eval, Array.getD_eq_getD_getElem?] using tv
              have d16 := getD_ft (haf _ rfl ⟨16, .data⟩ (by simp) rfl)
              have e97 : b.eval (.tmp 97) = .int .i64 (k : Int) := by rw [hbe, eval_in _ _ _ 16 (by decide) rfl (by rw [hz0]; decide)]; exact f16 d16
              have t97 : b.tmps[97]?.getD undef = .int .i64 (k : Int) := by have tv := e97; simpa only [Act.eval, Array.getD_eq_getD_getElem?] using tv
              refine wpOp_runs_on (v := .bool true) rfl (wanted_on rfl rfl rfl t92) (by simp [execOp, go_sem, t94, t97, hle]) ⟨_, _, rfl, rfl, ⟨hBw, fun h => by rw [upd_ne x _ (by decide)]; exact f0 (by rw [← getD_set_ne true (show 17 ≠ 0 by decide)]; exact h), fun h => by rw [upd_ne x _ (by decide)]; exact f1 (by rw [← getD_set_ne true (show 17 ≠ 1 by decide)]; exact h), fun h => by rw [upd_ne x _ (by decide)]; exact f2 (by rw [← getD_set_ne true (show 17 ≠ 2 by decide)]; exact h), fun h => by rw [upd_ne x _ (by decide)]; exact f3 (by rw [← getD_set_ne true (show 17 ≠ 3 by decide)]; exact h), fun h => by rw [upd_ne x _ (by decide)]; exact f4 (by rw [← getD_set_ne true (show 17 ≠ 4 by decide)]; exact h), fun h => by rw [upd_ne x _ (by decide)]; exact f5 (by rw [← getD_set_ne true (show 17 ≠ 5 by decide)]; exact h), fun h => by rw [upd_ne x _ (by decide)]; exact f6 (by rw [← getD_set_ne true (show 17 ≠ 6 by decide)]; exact h), fun h => by rw [upd_ne x _ (by decide)]; exact f7 (by rw [← getD_set_ne true (show 17 ≠ 7 by decide)]; exact h), fun h => by rw [upd_ne x _ (by decide)]; exact f8 (by rw [← getD_set_ne true (show 17 ≠ 8 by decide)]; exact h), fun h => by rw [upd_ne x _ (by decide)]; exact f9 (by rw [← getD_set_ne true (show 17 ≠ 9 by decide)]; exact h), fun h => by rw [upd_ne x _ (by decide)]; exact f10 (by rw [← getD_set_ne true (show 17 ≠ 10 by decide)]; exact h), fun h => by rw [upd_ne x _ (by decide)]; exact f11 (by rw [← getD_set_ne true (show 17 ≠ 11 by decide)]; exact h), fun h => by rw [upd_ne x _ (by decide)]; exact f12 (by rw [← getD_set_ne true (show 17 ≠ 12 by decide)]; exact h), fun h => by rw [upd_ne x _ (by decide)]; exact f13 (by rw [← getD_set_ne true (show 17 ≠ 13 by decide)]; exact h), fun h => by rw [upd_ne x _ (by decide)]; exact f14 (by rw [← getD_set_ne true (show 17 ≠ 14 by decide)]; exact h), fun h => by obtain ⟨A8, c8, hx⟩ := f15 (by rw [← getD_set_ne true (show 17 ≠ 15 by decide)]; exact h); exact ⟨A8, c8, by rw [upd_ne x _ (by decide)]; exact hx⟩, fun h => by rw [upd_ne x _ (by decide)]; exact f16 (by rw [← getD_set_ne true (show 17 ≠ 16 by decide)]; exact h), fun _ => upd_same _ _ _, fun h => by rw [upd_ne x _ (by decide)]; exact f18 (by rw [← getD_set_ne true (show 17 ≠ 18 by decide)]; exact h), fun h => by rw [upd_ne x _ (by decide)]; exact f19 (by rw [← getD_set_ne true (show 17 ≠ 19 by decide)]; exact h)⟩⟩
            · have d11 := getD_ft (haf _ rfl ⟨11, .data⟩ (by simp) rfl)
              have e92 : b.eval (.tmp 92) = .bool true := by rw [hbe, eval_in _ _ _ 11 (by decide) rfl (by rw [hz0]; decide)]; exact f11 d11
              have t92 : b.tmps[92]?.getD undef = .bool true := by have tv := e92; simpa only [Act.eval, Array.getD_eq_getD_getElem?] using tv
              have d17 := getD_ft (haf _ rfl ⟨17, .data⟩ (by simp) rfl)
              have e98 : b.eval (.tmp 98) = .bool true := by rw [hbe, eval_in _ _ _ 17 (by decide) rfl (by rw [hz0]; decide)]; exact f17 d17
              have t98 : b.tmps[98]?.getD undef = .bool true := by have tv := e98; simpa only [Act.eval, Array.getD_eq_getD_getElem?] using tv
              refine wpOp_runs (v := .bool true) rfl rfl (by simp [execOp, go_sem, t92, t98]) ⟨_, _, rfl, rfl, ⟨hBw, fun h => by rw [upd_ne x _ (by decide)]; exact f0 (by rw [← getD_set_ne true (show 18 ≠ 0 by decide)]; exact h), fun h => by rw [upd_ne x _ (by decide)]; exact f1 (by rw [← getD_set_ne true (show 18 ≠ 1 by decide)]; exact h), fun h => by rw [upd_ne x _ (by decide)]; exact f2 (by rw [← getD_set_ne true (show 18 ≠ 2 by decide)]; exact h), fun h => by rw [upd_ne x _ (by decide)]; exact f3 (by rw [← getD_set_ne true (show 18 ≠ 3 by decide)]; exact h), fun h => by rw [upd_ne x _ (by decide)]; exact f4 (by rw [← getD_set_ne true (show 18 ≠ 4 by decide)]; exact h), fun h => by rw [upd_ne x _ (by decide)]; exact f5 (by rw [← getD_set_ne true (show 18 ≠ 5 by decide)]; exact h), fun h => by rw [upd_ne x _ (by decide)]; exact f6 (by rw [← getD_set_ne true (show 18 ≠ 6 by decide)]; exact h), fun h => by rw [upd_ne x _ (by decide)]; exact f7 (by rw [← getD_set_ne true (show 18 ≠ 7 by decide)]; exact h), fun h => by rw [upd_ne x _ (by decide)]; exact f8 (by rw [← getD_set_ne true (show 18 ≠ 8 by decide)]; exact h), fun h => by rw [upd_ne x _ (by decide)]; exact f9 (by rw [← getD_set_ne true (show 18 ≠ 9 by decide)]; exact h), fun h => by rw [upd_ne x _ (by decide)]; exact f10 (by rw [← getD_set_ne true (show 18 ≠ 10 by decide)]; exact h), fun h => by rw [upd_ne x _ (by decide)]; exact f11 (by rw [← getD_set_ne true (show 18 ≠ 11 by decide)]; exact h), fun h => by rw [upd_ne x _ (by decide)]; exact f12 (by rw [← getD_set_ne true (show 18 ≠ 12 by decide)]; exact h), fun h => by rw [upd_ne x _ (by decide)]; exact f13 (by rw [← getD_set_ne true (show 18 ≠ 13 by decide)]; exact h), fun h => by rw [upd_ne x _ (by decide)]; exact f14 (by rw [← getD_set_ne true (show 18 ≠ 14 by decide)]; exact h), fun h => by obtain ⟨A8, c8, hx⟩ := f15 (by rw [← getD_set_ne true (show 18 ≠ 15 by decide)]; exact h); exact ⟨A8, c8, by rw [upd_ne x _ (by decide)]; exact hx⟩, fun h => by rw [upd_ne x _ (by decide)]; exact f16 (by rw [← getD_set_ne true (show 18 ≠ 16 by decide)]; exact h), fun h => by rw [upd_ne x _ (by decide)]; exact f17 (by rw [← getD_set_ne true (show 18 ≠ 17 by decide)]; exact h), fun _ => upd_same _ _ _, fun h => by rw [upd_ne x _ (by decide)]; exact f19 (by rw [← getD_set_ne true (show 18 ≠ 19 by decide)]; exact h)⟩⟩
            · have d18 := getD_ft (haf _ rfl ⟨18, .data⟩ (by simp) rfl)
              have e99 : b.eval (.tmp 99) = .bool true := by rw [hbe, eval_in _ _ _ 18 (by decide) rfl (by rw [hz0]; decide)]; exact f18 d18
              have t99 : b.tmps[99]?.getD undef = .bool true := by have tv := e99; simpa only [Act.eval, Array.getD_eq_getD_getElem?] using tv
              refine wpOp_runs (v := .bool true) rfl rfl (by simp [execOp, go_sem, t99]) ⟨_, _, rfl, rfl, ⟨hBw, fun h => by rw [upd_ne x _ (by decide)]; exact f0 (by rw [← getD_set_ne true (show 19 ≠ 0 by decide)]; exact h), fun h => by rw [upd_ne x _ (by decide)]; exact f1 (by rw [← getD_set_ne true (show 19 ≠ 1 by decide)]; exact h), fun h => by rw [upd_ne x _ (by decide)]; exact f2 (by rw [← getD_set_ne true (show 19 ≠ 2 by decide)]; exact h), fun h => by rw [upd_ne x _ (by decide)]; exact f3 (by rw [← getD_set_ne true (show 19 ≠ 3 by decide)]; exact h), fun h => by rw [upd_ne x _ (by decide)]; exact f4 (by rw [← getD_set_ne true (show 19 ≠ 4 by decide)]; exact h), fun h => by rw [upd_ne x _ (by decide)]; exact f5 (by rw [← getD_set_ne true (show 19 ≠ 5 by decide)]; exact h), fun h => by rw [upd_ne x _ (by decide)]; exact f6 (by rw [← getD_set_ne true (show 19 ≠ 6 by decide)]; exact h), fun h => by rw [upd_ne x _ (by decide)]; exact f7 (by rw [← getD_set_ne true (show 19 ≠ 7 by decide)]; exact h), fun h => by rw [upd_ne x _ (by decide)]; exact f8 (by rw [← getD_set_ne true (show 19 ≠ 8 by decide)]; exact h), fun h => by rw [upd_ne x _ (by decide)]; exact f9 (by rw [← getD_set_ne true (show 19 ≠ 9 by decide)]; exact h), fun h => by rw [upd_ne x _ (by decide)]; exact f10 (by rw [← getD_set_ne true (show 19 ≠ 10 by decide)]; exact h), fun h => by rw [upd_ne x _ (by decide)]; exact f11 (by rw [← getD_set_ne true (show 19 ≠ 11 by decide)]; exact h), fun h => by rw [upd_ne x _ (by decide)]; exact f12 (by rw [← getD_set_ne true (show 19 ≠ 12 by decide)]; exact h), fun h => by rw [upd_ne x _ (by decide)]; exact f13 (by rw [← getD_set_ne true (show 19 ≠ 13 by decide)]; exact h), fun h => by rw [upd_ne x _ (by decide)]; exact f14 (by rw [← getD_set_ne true (show 19 ≠ 14 by decide)]; exact h), fun h => by obtain ⟨A8, c8, hx⟩ := f15 (by rw [← getD_set_ne true (show 19 ≠ 15 by decide)]; exact h); exact ⟨A8, c8, by rw [upd_ne x _ (by decide)]; exact hx⟩, fun h => by rw [upd_ne x _ (by decide)]; exact f16 (by rw [← getD_set_ne true (show 19 ≠ 16 by decide)]; exact h), fun h => by rw [upd_ne x _ (by decide)]; exact f17 (by rw [← getD_set_ne true (show 19 ≠ 17 by decide)]; exact h), fun h => by rw [upd_ne x _ (by decide)]; exact f18 (by rw [← getD_set_ne true (show 19 ≠ 18 by decide)]; exact h), fun _ => upd_same _ _ _⟩⟩
          intro V x w' hall hF
          obtain ⟨hbF, f0, f1, f2, f3, f4, f5, f6, f7, f8, f9, f10, f11, f12, f13, f14, f15, f16, f17, f18, f19⟩ := hF
          have hx19 := f19 (hall 19 (by decide))
          clear hall f0 f1 f2 f3 f4 f5 f6 f7 f8 f9 f10 f11 f12 f13 f14 f15 f16 f17 f18 f19
          subst ha0
          simp only [List.map_cons, List.map_nil, putAll, hx19]
          clear hx19
          go_simp
          go_wp2_with fail
          go_ret
          exact ⟨rfl, hB9.out _ hbF⟩
theorem textBack_walk (A : Option Addr) (n c : Nat) (ns : List Int) (s0 : ByteArray) (hn : ns.length = n * 13) (hw : ∀ m ∈ ns, (Lit.int .i64 m).wf = true) (_ : s0.size ≤ maxLen) (w : World) (hf : TenTab w ∧ MaxAt w) (h : Sl w w.heap.size 13 A n c (ns.map (Value.int .i64))) :
    Calls Tryd.prog 3 #[.slice A n c, .string s0] w fun e w' => e = .returned (.bool true) ∧ Below w.heap.size w w' := by
  obtain ⟨d, hd, he⟩ := rowsDr_of n ns hn
  rw [he] at h
  exact tback_law A n c d hd (wfDr_of he hw) s0 w hf.1 hf.2 h
theorem textBack_own : ownKnob Tryd.prog.godebug = none := by kernel_rfl
theorem textBack_laidOut : laidOutB Tryd.prog = true := by kernel_rfl
set_option maxHeartbeats 1000000 in
set_option maxRecDepth 100000 in
theorem textBack_lifted (os : Os) (started : os.Started) (H : Type) (enc : TypeId × Value → H) :
    ReturnsInHanded {} Tryd.checked os 3 .any (fun w args => (Rows.textBackSpec.pre enc Tryd.prog Tryd.f3 [] false w args ∧ laidMetH Tryd.prog Rows.textBackRow.laid w) ∧ sizedMet enc Tryd.prog Tryd.f3 (OpenSpec.ofChange Rows.textBackSpec) false w args)
      (Rows.textBackSpec.post enc Tryd.prog Tryd.f3 false true false false) := by
  refine returnsInHanded_of_change_and_shaped (C := Tryd.checked) (X := fun w _ => laidMetH Tryd.prog Rows.textBackRow.laid w) (fun _ _ _ hh h => h.of_heap hh) textBack_own started (by kernel_rfl) Tryd.func3
    (ChangeSpec.witness_shaped (enc := enc) (C := Tryd.checked) (os := os) (X := fun w _ => laidMetH Tryd.prog Rows.textBackRow.laid w) false (World.laidAll Tryd.prog os Rows.textBackRow.laid) #[.slice none 0 0, .string ByteArray.empty] 8 (World.laidAll_os _ _ _) (World.shaped_of_ZipB (by kernel_rfl) (by kernel_rfl)) (by kernel_rfl) (by kernel_rfl) (by kernel_rfl) (by rw [MakeChecks.laidMetH_plain _ _ _ (by kernel_rfl)]; exact laidMet_laidAll _ (by kernel_rfl) (by kernel_rfl))) ?_
  intro W base args ds gs before hval0 hW _ _ hX hL _
  have hval : ∀ (j : Nat) t v, Tryd.f3.params[j]? = some t → args[j]? = some v → Value.okWide Tryd.prog W .any base t v := hval0
  have hW' := hW
  obtain ⟨p, q, hA0, hV, rfl, hfz, hnd⟩ := hW
  have hA : DataW.TrodAll enc Tryd.prog W 0 (fun _ => true) true Tryd.f3.params.toList args.toList ds p := hA0
  rw [Tryd.params3] at hA hval
  obtain ⟨v0, vs0, d0, ds0, p0, q0, hargs, rfl, rfl, h0, r0⟩ := trodAll_cons hA
  obtain ⟨v1, vs1, d1, ds1, p1, q1, rfl, rfl, rfl, h1, r1⟩ := trodAll_cons r0
  obtain ⟨rfl, rfl, rfl⟩ := trodAll_nil r1
  obtain rfl : args = #[v0, v1] := by cases args; simp_all
  obtain ⟨rfl, rfl⟩ := trodVars_none hV
  obtain ⟨A0, n0, c0, ns0, rfl, hl0, nl0, w0⟩ := open_rowsS 4 (K := 13) Tryd.underlying22 (by kernel_rfl) (by kernel_rfl) (by omega) (hval 0 22 v0 rfl rfl) h0
  obtain ⟨s1, rfl, rfl, rfl, w1⟩ := Go.ChangeMaps.open_string Tryd.underlying9 (hval 1 9 v1 rfl rfl) h1
  clear hA0 hval0
  refine (textBack_walk A0 n0 c0 ns0 s1 nl0 w0 w1 W (ten_max hX hL) hl0).mono fun e W' ⟨he, bel⟩ => ?_
  subst he
  exact ⟨_, rfl, law_post textBack_laidOut (by kernel_rfl) rfl Tryd.underlying4 rfl rfl hW' bel⟩

theorem textBack_holds : Rows.TextBackSaid :=
  OpenClaim.holds_of_wide 3 Tryd.f3 rfl rfl rfl rfl rfl rfl rfl ⟨rfl, rfl, rfl, rfl, rfl⟩ rfl rfl rfl rfl rfl (by kernel_rfl) Tryd.func3 (by kernel_rfl)
    (of_decide_eq_true (by kernel_rfl)) (by unfold Func.isWrapper; first | (rw [if_pos (by decide +kernel)]; kernel_rfl) | (rw [if_neg (by decide +kernel)]; exact ⟨rfl, rfl⟩))
    (fun os started H enc _ => textBack_lifted os started H enc)

theorem textBack_proved : Rows.TextBackCardSaid :=
  Claim7.holds_tied_plain_at .later [] Rows.textBackCard.laidKinds true Rows.textBackCard.stood.harness false
    textBack_holds (fun _ h => by cases h) (by kernel_rfl) (fun _ h => by cases h) textBack_row_tie rfl ⟨rfl, rfl⟩ (by kernel_rfl) rfl
    (fun f fn hf hfn => by
      obtain rfl : f = 3 := Option.some.inj ((show Tryd.prog.funcNamed "felucca/feluccalaw05.TextBack" = some 3 by kernel_rfl).symm.trans hf) |>.symm
      obtain rfl : fn = Tryd.f3 := (Option.some.inj (Tryd.func3.symm.trans hfn)).symm
      exact ⟨by kernel_rfl, fun j t ht => by
        rw [Tryd.params3] at ht
        have hm : t ∈ [22, 9] := by simpa using Array.mem_of_getElem? ht
        have hall : ([22, 9].all fun u => !Tryd.prog.wantsStandIn u) = true := by kernel_rfl
        exact (show Tryd.prog.wantsStandIn t = false by simpa using List.all_eq_true.1 hall t hm)⟩)
    (by kernel_rfl)
#print axioms textBack_proved
end Go.Proofs.YtcclfmaockapjaaDoor
