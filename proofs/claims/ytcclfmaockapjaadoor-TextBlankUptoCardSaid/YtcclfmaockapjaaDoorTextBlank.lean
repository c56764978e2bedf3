
/- Lines without words, wherever they stand, change nothing but the line of a fault: TextBlank returns true for every text, every remark, every place, of bulk at most 1048576. It reads tables of the library's. -/
import Derived.Test.YtcclfmaockapjaaDoorRows
import Derived.Test.YtcclfmaockapjaaDoorTie
import Derived.Test.YtcclfmaockapjaaDoorCards
import Derived.Test.YtcclfmaockapjaaDoorTxMath2
import Derived.Test.YtcclfmaockapjaaDoorTen05
import Derived.Deep.DeepHandedRow
namespace Go.Proofs.YtcclfmaockapjaaDoor
open Go.ChangeShapes Go.WideShapes Go.ChangeAt Go.RowKit Go.Sort
set_option linter.unusedSimpArgs false
set_option linter.unusedVariables false
def insB (rm : Bytes) : Bytes := [32, 35, 32] ++ rm ++ [10, 10]
def preB (rows : List Bytes) (rm : Bytes) (k i : Nat) : Bytes := if i ≤ k then lfL (rows.take i) else lfL (rows.take k) ++ insB rm ++ lfL ((rows.take i).drop k)
theorem preB_at {rows : List Bytes} {rm : Bytes} {k i : Nat} (hi : i < rows.length) (hk : i = k) : preB rows rm k i ++ insB rm ++ (gS rows i ++ [10]) = preB rows rm k (i + 1) := by
  subst hk
  unfold preB
  rw [if_pos (Nat.le_refl _), if_neg (by omega), take_nextS hi, List.drop_append_of_le_length (by simp; omega), List.drop_eq_nil_of_le (by simp; omega)]
  simp [lfL]
theorem preB_up {rows : List Bytes} {rm : Bytes} {k i : Nat} (hi : i < rows.length) (hk : i ≠ k) : preB rows rm k i ++ (gS rows i ++ [10]) = preB rows rm k (i + 1) := by
  unfold preB
  by_cases h : i ≤ k
  · rw [if_pos h, if_pos (by omega), take_nextS hi, lfL_append]
    simp [lfL]
  · rw [if_neg h, if_neg (by omega), take_nextS hi, List.drop_append_of_le_length (by simp; omega), lfL_append]
    simp [lfL]
def fullB (rows : List Bytes) (rm : Bytes) (k : Nat) : Bytes := lfL (rows.take k) ++ insB rm ++ lfL (rows.drop k)
theorem preB_end {rows : List Bytes} {rm : Bytes} {k n : Nat} (hn : rows.length = n) (hk : k < n) : preB rows rm k n = fullB rows rm k := by
  unfold preB fullB
  rw [if_neg (by omega), List.take_of_length_le (l := rows) (i := n) (by omega)]
theorem preB_last {rows : List Bytes} {rm : Bytes} {k n : Nat} (hn : rows.length = n) (hk : k = n) : preB rows rm k n ++ insB rm = fullB rows rm k := by
  subst hk
  unfold preB fullB
  rw [if_pos (Nat.le_refl _), List.drop_eq_nil_of_le (by omega)]
  simp [lfL]
theorem preB_len {rows : List Bytes} {rm : Bytes} {k i : Nat} {B : Nat} (h : sumS rows ≤ B) : (preB rows rm k i).length ≤ 2 * B + rm.length + 5 := by
  have h1 : ∀ j, (lfL (rows.take j)).length ≤ B := fun j => by
    rw [lfL_len]
    have := sumS_append (rows.take j) (rows.drop j)
    rw [List.take_append_drop] at this
    omega
  have h2 : (lfL ((rows.take i).drop k)).length ≤ B := by
    rw [lfL_len]
    have q1 := sumS_append ((rows.take i).take k) ((rows.take i).drop k)
    rw [List.take_append_drop] at q1
    have q2 := sumS_append (rows.take i) (rows.drop i)
    rw [List.take_append_drop] at q2
    omega
  unfold preB
  split
  · have := h1 i; omega
  · have := h1 k; simp [insB]; omega
theorem fullB_len {rows : List Bytes} {rm : Bytes} {k : Nat} {B : Nat} (h : sumS rows ≤ B) : (fullB rows rm k).length ≤ B + rm.length + 5 := by
  have := sumS_append (rows.take k) (rows.drop k)
  rw [List.take_append_drop] at this
  unfold fullB
  simp only [List.length_append, lfL_len]
  simp [insB]
  omega
theorem fullB_lines {rows : List Bytes} {rm : Bytes} {k : Nat} (h : ∀ r ∈ rows, (10 : UInt8) ∉ r) (hr : (10 : UInt8) ∉ rm) : linesL (fullB rows rm k) = rows.take k ++ [[32, 35, 32] ++ rm, []] ++ rows.drop k := by
  have e : fullB rows rm k = lfL (rows.take k ++ [[32, 35, 32] ++ rm, []] ++ rows.drop k) := by
    unfold fullB
    rw [lfL_append, lfL_append]
    simp [lfL, insB]
  rw [e]
  refine lines_lf (fun r hrr => ?_)
  rcases List.mem_append.1 hrr with h1 | h1
  · rcases List.mem_append.1 h1 with h2 | h2
    · exact h r (List.mem_of_mem_take h2)
    · simp only [List.mem_cons, List.not_mem_nil, or_false] at h2
      rcases h2 with rfl | rfl
      · simp; exact hr
      · simp
  · exact h r (List.mem_of_mem_drop h1)
theorem textB_len : ∀ (rows : List Bytes) (k : Int), (textF rows k).1.length ≤ rows.length
  | [], k => by simp [textF]
  | r :: rs, k => by
    have ih := textB_len rs (k + 1)
    simp only [textF]
    split
    · simp; omega
    · split
      · unfold addF
        split
        · simp; omega
        · simp; omega
      · simp
theorem sl_set {w : World} {b k : Nat} {u : Value} {K : Nat} {A : Option Addr} {n c : Nat} {xs : List Value} (h : Sl w w.heap.size K A n c xs) (hb : ∀ ad, A = some ad → 0 < n → ad.block ≠ b) : Sl (w.setCell ⟨b, k, none⟩ u) (w.setCell ⟨b, k, none⟩ u).heap.size K A n c xs := by
  have hg := grown_set (g := b) w k u
  refine ⟨?_, h.cap, h.max, h.nil⟩
  refine ⟨h.lst.1, fun hn => ?_⟩
  obtain ⟨ad, e, hlt, hc⟩ := h.lst.2 hn
  refine ⟨ad, e, Nat.lt_of_lt_of_le hlt hg.size, fun j v hj => ?_⟩
  rw [World.cell?_of_block (w := w) (hg.block _ (by rw [add_block]; exact hlt) (by rw [add_block]; exact fun e2 => hb ad e hn (by injection e2)))]
  exact hc j v hj
theorem witness_row_shaped {H : Type} {enc : TypeId × Value → H} {C : Checked} {os : Os} {f : FuncId} {fn : Func} {s : OpenSpec} {conds : List PathCond} {apart : Bool} {laid : List (String × DataW Unit)} (w0 : World) (args : Array Value) (hos : w0.os = os)
    (hsh : (w0.forCall (fun _ _ => 0) ⟨#[], args, []⟩).Shaped C.prog)
    (hok : Input.okWideB C.prog (w0.forCall (fun _ _ => 0) ⟨#[], args, []⟩) f ⟨#[], args, []⟩ = true)
    (hrow : s.preRow enc C.prog fn conds apart laid (w0.forCall (fun _ _ => 0) ⟨#[], args, []⟩).memory args) :
    ∃ (w : World) (tape : Tape) (i : Input), w.os = os ∧ (w.forCall tape i).Shaped C.prog ∧ i.vars = [] ∧ Input.okWide C.prog (w.forCall tape i) .any w.heap.size f i ∧
      s.preRow enc C.prog fn conds apart laid (w.forCall tape i).memory i.args ∧ ({} : Assume).holds C.prog (lone (Frame.enter C.prog f i.args .normal) [] (w.forCall tape i)) :=
  ⟨w0, fun _ _ => 0, ⟨#[], args, []⟩, hos, hsh, (Input.okWide_of_okWideB (base := 0) hok).1, (Input.okWide_of_okWideB hok).2, hrow, by
    simp [Assume.holds]⟩
theorem isb {a b : ByteArray} (h : a = b) : Value.string a = .string b := by rw [h]
theorem lit3 : (⟨#[32, 35, 32]⟩ : ByteArray) = bs [32, 35, 32] := rfl
theorem lit2 : (⟨#[10, 10]⟩ : ByteArray) = bs [10, 10] := rfl
theorem lit1 : (⟨#[10]⟩ : ByteArray) = bs [10] := rfl
set_option maxHeartbeats 16000000 in
set_option maxRecDepth 100000 in
theorem tblank_law (s0 r0 : ByteArray) (kk : Int) (hbig : s0.data.toList.length ≤ 2000000) (w : World) (ht : TenTab w) (hm : MaxAt w) :
    Calls Tryd.prog 6 #[.string s0, .string r0, .int .i64 kk] w fun e w' => e = .returned (.bool true) ∧ Below w.heap.size w w' := by
  have HT := Lib.hid (fun w' (hb : Below w.heap.size w w') => ht.below hb)
  have HM := Lib.hid (fun w' (hb : Below w.heap.size w w') => hm.below hb)
  have hB := Below.refl w.heap.size w
  have hs := Nat.le_refl w.heap.size
  clear ht hm
  go_enter Tryd.func6, Tryd.ntmps6
  go_wp2_with fail
  refine (small05_any w (HT.out w hB) (HM.out w hB)).mono ?_
  rintro e y0 ⟨rfl, hb⟩
  replace hB := hB.trans (hb.mono hs)
  replace hs := hB.size
  clear hb
  obtain ⟨rows, hrows⟩ : ∃ r, linesL s0.data.toList = r := ⟨_, rfl⟩
  obtain ⟨n, hn⟩ : ∃ n, rows.length = n := ⟨_, rfl⟩
  have hnb : n ≤ 2000001 := by rw [← hn, ← hrows]; have := lines_len s0.data.toList; omega
  have HR := Lib.hid hrows
  have HN := Lib.hid hn
  clear hrows hn
  go_wp2_with fail
  refine (lines_is s0 rows n HR.out HN.out y0 (HM.out y0 hB) hbig).mono ?_
  rintro e y1 ⟨A1, c1, rfl, h1, hb⟩
  have l1 := Sl.of_own h1
  clear h1
  replace hB := hB.trans (hb.mono hs)
  replace hs := hB.size
  clear hb
  by_cases hx1 : 1000 < s0.size
  · clear l1
    go_wp2
    go_ret
    exact ⟨rfl, hB⟩
  by_cases hx2 : 100 < r0.size
  · clear l1
    go_wp2
    go_ret
    exact ⟨rfl, hB⟩
  by_cases hx3 : kk < 0
  · clear l1
    go_wp2
    go_ret
    exact ⟨rfl, hB⟩
  by_cases hx4 : (n : Int) < kk
  · clear l1
    go_wp2
    go_ret
    exact ⟨rfl, hB⟩
  obtain ⟨k, rfl⟩ : ∃ k : Nat, kk = (k : Int) := ⟨kk.toNat, by omega⟩
  have hkn : k ≤ n := by omega
  clear hx3 hx4 hbig
  have hls : s0.data.toList.length ≤ 1000 := by rw [← size_list]; omega
  have hn1 : n ≤ 1001 := by rw [← HN.out, ← HR.out]; have := lines_len s0.data.toList; omega
  obtain ⟨rm, hrm⟩ : ∃ rm, r0.data.toList = rm := ⟨_, rfl⟩
  have hr0 : r0 = bs rm := by rw [← hrm, bs_of]
  have hrl : rm.length ≤ 100 := by rw [← hrm, ← size_list]; omega
  have HSUM := Lib.hid (show sumS rows ≤ 1001 by have := lines_sum s0.data.toList; rw [HR.out] at this; omega)
  have HRL := Lib.hid (fun x (hx : x ∈ rows) => Nat.le_trans (lines_mem (s := s0.data.toList) (by rw [HR.out]; exact hx)) hls)
  have H10 := Lib.hid (fun r (hr : r ∈ rows) => lines_no10 s0.data.toList r (by rw [HR.out]; exact hr))
  have HLS := Lib.hid hls
  have HL1 := Lib.hid l1
  have HRM := Lib.hid hrm
  have HR0 := Lib.hid hr0
  clear hls l1 hrm hr0
  go_wp2_with fail
  go_loopw [9] (fun iv wr => ∃ (i : Nat), iv = .int .i64 i ∧ i ≤ r0.size ∧ Hid (∀ c ∈ rm.take i, c ≠ 10) ∧ y1 = wr) (fun iv _ => r0.size - (intOf iv).toNat)
  case atStart => exact ⟨0, rfl, by omega, by simp [Hid], rfl⟩
  case round =>
    obtain ⟨i, rfl, hi, HS, rfl⟩ := hrel
    by_cases hin : i < r0.size
    · by_cases hc : r0[i]'hin = 10
      · have hq : (((r0[i]'hin).toNat : Int) == 10) = true := by rw [hc]; rfl
        clear hc
        go_wp2_with fail
        go_ret
        exact ⟨rfl, hB⟩
      · have hq : (((r0[i]'hin).toNat : Int) == 10) = false := byte_ne (k := 10) (by omega) hc
        have HN2 : Hid (∀ c ∈ rm.take (i + 1), c ≠ 10) := fun c hcm => by
          have hl0 : i < r0.data.toList.length := by rw [← size_list]; exact hin
          have hl : i < rm.length := by rw [← HRM.out]; exact hl0
          rw [List.take_succ_eq_append_getElem hl] at hcm
          rcases List.mem_append.1 hcm with h | h
          · exact HS.out c h
          · simp at h; subst h
            have : rm[i] = r0[i]'hin := by
              have e : rm[i] = r0.data.toList[i]'hl0 := by congr 1; exact HRM.out.symm
              rw [e]; rfl
            rw [this]; exact hc
        clear hc
        go_wp2_with fail
        go_roundw
        case rel => exact ⟨i + 1, by go_num, by omega, HN2, by first | rfl | trivial⟩
        case measure => first | (simp [intOf]; done) | (simp [intOf]; omega)
    · have hie : i = r0.size := by omega
      have h10 : (10 : UInt8) ∉ rm := fun h => by
        have hh := HS.out
        rw [List.take_of_length_le (by rw [← HRM.out, ← size_list]; omega)] at hh
        exact hh 10 h rfl
      have HRM10 := Lib.hid h10
      have hsr : (bs rm).size ≤ 100 := by rw [bs_size]; exact hrl
      clear h10 HS
      have e0 := HR0.out
      clear HRM HR0
      subst e0
      have hsr0 : (bs rm).size = rm.length := bs_size rm
      have HSR := Lib.hid hsr0
      clear hsr0
      have HY := Lib.hid hB
      clear hB hs
      go_wp2_with fail
      clear hie hin hi
      go_loopw [10, 11] (fun tv iv wr => ∃ (i : Nat) (p : Bytes), tv = .string (bs p) ∧ iv = .int .i64 i ∧ i ≤ n + 1 ∧ Hid (p = if i ≤ n then preB rows rm k i else fullB rows rm k) ∧ p.length ≤ 2107 ∧ y1 = wr) (fun _ iv _ => n + 1 - (intOf iv).toNat)
      case atStart => exact ⟨0, [], rfl, rfl, by omega, by simp [Hid, preB, lfL], by simp, rfl⟩
      case round =>
        obtain ⟨i, p, rfl, rfl, hi, HP, hpl, rfl⟩ := hrel
        have hps : (bs p).size ≤ 2107 := by rw [bs_size]; exact hpl
        by_cases hin : i ≤ n
        · have hin' : (i : Int) ≤ (n : Int) := by omega
          have HP1 := Lib.hid (HP.out.trans (if_pos hin))
          have hbig1 : (bs p ++ (⟨#[32, 35, 32]⟩ : ByteArray)).size ≤ 3000 := by rw [ByteArray.size_append]; have : (⟨#[32, 35, 32]⟩ : ByteArray).size = 3 := rfl; omega
          have hbig2 : (bs p ++ (⟨#[32, 35, 32]⟩ : ByteArray) ++ bs rm).size ≤ 3100 := by rw [ByteArray.size_append]; omega
          have hbig3 : (bs p ++ (⟨#[32, 35, 32]⟩ : ByteArray) ++ bs rm ++ (⟨#[10, 10]⟩ : ByteArray)).size ≤ 3200 := by rw [ByteArray.size_append]; have : (⟨#[10, 10]⟩ : ByteArray).size = 2 := rfl; omega
          have hcat : bs p ++ (⟨#[32, 35, 32]⟩ : ByteArray) ++ bs rm ++ (⟨#[10, 10]⟩ : ByteArray) = bs (p ++ insB rm) := by rw [lit3, lit2, bs_append, bs_append, bs_append]; unfold insB; simp
          have HC := Lib.hid hcat
          clear hcat HP
          by_cases hlt : i < n
          · obtain ⟨ad, rfl, hab, c0⟩ := HL1.out.lst.atS HN.out hlt
            have hlt' : (i : Int) < (n : Int) := by omega
            have hil : i < rows.length := by rw [HN.out]; exact hlt
            have hxs : (gS rows i).length ≤ 1000 := HRL.out _ (by rw [gS_eq hil]; exact List.getElem_mem _)
            have HIL := Lib.hid hil
            clear hil
            obtain ⟨x, hx⟩ : ∃ x, gS rows i = x := ⟨_, rfl⟩
            rw [hx] at c0 hxs
            have hxz : (bs x).size ≤ 1000 := by rw [bs_size]; exact hxs
            have HX := Lib.hid hx
            clear hx hxs
            by_cases hik : i = k
            · have hik' : ((i : Int) == (k : Int)) = true := by simp [hik]
              have hn2 := preB_at (rm := rm) HIL.out hik
              rw [HX.out, ← HP1.out] at hn2
              have HN2 := Lib.hid hn2
              have hb4 : (bs p ++ (⟨#[32, 35, 32]⟩ : ByteArray) ++ bs rm ++ (⟨#[10, 10]⟩ : ByteArray) ++ bs x).size ≤ 4200 := by rw [ByteArray.size_append]; omega
              have hfin : bs p ++ (⟨#[32, 35, 32]⟩ : ByteArray) ++ bs rm ++ (⟨#[10, 10]⟩ : ByteArray) ++ bs x ++ (⟨#[10]⟩ : ByteArray) = bs (preB rows rm k (i + 1)) := by
                rw [HC.out, lit1, bs_append, bs_append, ← HN2.out]
                congr 1
                simp
              have HF := Lib.hid hfin
              clear hfin hn2 hik
              go_wp2_with fail
              go_roundw
              case rel => exact ⟨i + 1, preB rows rm k (i + 1), isb HF.out, by go_num, by omega, by show _ = _; rw [if_pos (by omega)], Nat.le_trans (preB_len HSUM.out) (by omega), by first | rfl | trivial⟩
              case measure => first | (simp [intOf]; done) | (simp [intOf]; omega)
            · have hik' : ((i : Int) == (k : Int)) = false := by simp; omega
              have hn2 := preB_up (rm := rm) HIL.out hik
              rw [HX.out, ← HP1.out] at hn2
              have HN2 := Lib.hid hn2
              have hb4 : (bs p ++ bs x).size ≤ 4200 := by rw [ByteArray.size_append]; omega
              have hfin : bs p ++ bs x ++ (⟨#[10]⟩ : ByteArray) = bs (preB rows rm k (i + 1)) := by
                rw [lit1, bs_append, bs_append, ← HN2.out]
                congr 1
                simp
              have HF := Lib.hid hfin
              clear hfin hn2 hik
              go_wp2_with fail
              go_roundw
              case rel => exact ⟨i + 1, preB rows rm k (i + 1), isb HF.out, by go_num, by omega, by show _ = _; rw [if_pos (by omega)], Nat.le_trans (preB_len HSUM.out) (by omega), by first | rfl | trivial⟩
              case measure => first | (simp [intOf]; done) | (simp [intOf]; omega)
          · obtain rfl : n = i := by omega
            have hlt' : ¬ (n : Int) < (n : Int) := by omega
            by_cases hik : n = k
            · have hik' : ((n : Int) == (k : Int)) = true := by simp [hik]
              have hn2 := preB_last (rm := rm) HN.out hik.symm
              rw [← HP1.out] at hn2
              have hfin : bs p ++ (⟨#[32, 35, 32]⟩ : ByteArray) ++ bs rm ++ (⟨#[10, 10]⟩ : ByteArray) = bs (fullB rows rm k) := by rw [HC.out, hn2]
              have HF := Lib.hid hfin
              clear hfin hn2 hik
              go_wp2_with fail
              go_roundw
              case rel => exact ⟨n + 1, fullB rows rm k, isb HF.out, by go_num, by omega, by show _ = _; rw [if_neg (by omega)], Nat.le_trans (fullB_len HSUM.out) (by omega), by first | rfl | trivial⟩
              case measure => first | (simp [intOf]; done) | (simp [intOf]; omega)
            · have hik' : ((n : Int) == (k : Int)) = false := by simp; omega
              have hn2 : p = fullB rows rm k := by rw [HP1.out]; exact preB_end HN.out (by omega)
              have HF := Lib.hid hn2
              clear hn2 hik
              go_wp2_with fail
              go_roundw
              case rel => exact ⟨n + 1, p, rfl, by go_num, by omega, by show _ = _; rw [if_neg (by omega)]; exact HF.out, hpl, by first | rfl | trivial⟩
              case measure => first | (simp [intOf]; done) | (simp [intOf]; omega)
        · obtain rfl : i = n + 1 := by omega
          have hin' : ¬ ((n + 1 : Nat) : Int) ≤ (n : Int) := by omega
          have hpf : p = fullB rows rm k := HP.out.trans (if_neg (by omega))
          have hrows2 : linesL (bs p).data.toList = rows.take k ++ [[32, 35, 32] ++ rm, []] ++ rows.drop k := by rw [bs_list, hpf]; exact fullB_lines H10.out HRM10.out
          obtain ⟨tb, htb⟩ : ∃ x, bs p = x := ⟨_, rfl⟩
          have htl : tb.data.toList.length ≤ 50000 := by rw [← htb, bs_list]; omega
          rw [htb] at hrows2 hps
          obtain ⟨ds, ln, cd, hz⟩ : ∃ ds ln cd, textF rows 1 = (ds, ln, cd) := ⟨_, _, _, rfl⟩
          have hz2 := text_blank2 (rows.take k) (rows.drop k) ([32, 35, 32] ++ rm) [] (words_rem rm) (by decide) k (by rw [List.length_take, HN.out]; omega)
          rw [List.take_append_drop, hz] at hz2
          dsimp only at hz2
          have hlno2 := lno_blank2 (rows.take k) (rows.drop k) ([32, 35, 32] ++ rm) [] (words_rem rm) (by decide)
          rw [List.take_append_drop] at hlno2
          have HZ := Lib.hid hz
          have HZ2 := Lib.hid hz2
          have HLN2 := Lib.hid hlno2
          have HR2 := Lib.hid hrows2
          have HTL := Lib.hid htl
          have HSZ := Lib.hid (show s0.data.toList.length ≤ 50000 by have := HLS.out; omega)
          have hdl : ds.length ≤ 1001 := by
            have h1 := textB_len rows 1
            rw [hz, HN.out] at h1
            dsimp only at h1
            omega
          obtain ⟨nd, hnd⟩ : ∃ k, ds.length = k := ⟨_, rfl⟩
          rw [hnd] at hdl
          have HND := Lib.hid hnd
          have hlnb : (0 : Int) ≤ ln ∧ ln ≤ 2000 := by
            by_cases hc : cd = 0
            · have := text_code0 rows 1 (by rw [hz]; exact hc)
              rw [hz] at this
              dsimp only at this
              omega
            · have := text_fault rows 1 (by rw [hz]; exact hc)
              rw [hz, HN.out] at this
              dsimp only at this
              omega
          rw [htb]
          clear htb hpf HP hz hz2 hlno2 hrows2 htl hnd hpl hi
          have hB := HY.out
          have hs := hB.size
          go_wp2_with fail
          refine (tparse_any s0 rows n HR.out HN.out y1 (HM.out y1 hB) HSZ.out ds ln cd HZ.out).mono ?_
          rintro e y2 ⟨v, rfl, hv, hb⟩
          rw [HND.out] at hv
          have hvl := hv.lt
          obtain ⟨A2, c2, rfl⟩ := slice_of_own hv
          have l2 := Sl.of_own hv
          have hbl2 : ∀ ad, A2 = some ad → 0 < nd → ad.block ≠ y2.heap.size := fun ad e _ => by subst e; have := (hvl ad.block rfl).2; omega
          clear hv hvl
          replace hB := hB.trans (hb.mono hs)
          replace hs := hB.size
          clear hb
          go_upto_region 19 with fail
          have hbf0 := hs
          have hf := Blok.new y2 35 #[.int .i64 ln, .int .i64 cd]
          have hb : Below y2.heap.size y2 (y2.alloc (.cells #[.int .i64 ln, .int .i64 cd] 35)) := by (repeat (first | exact Below.refl _ _ | refine Below.alloc ?_ (by first | omega | (simp; done) | (simp; omega)) _ | refine Below.setCell ?_ (by first | omega | (simp; done) | (simp; omega)) _ | refine Below.drew ?_))
          replace l2 := l2.up hb
          replace hB := hB.trans (hb.mono hs)
          replace hs := hB.size
          clear hb
          generalize y2.alloc (.cells #[.int .i64 ln, .int .i64 cd] 35) = y3 at *
          generalize hzz : y2.heap.size = bf at *
          clear hzz
          have hfl3 := hf.lt
          go_wp2_with fail
          refine (tparse_any tb _ _ rfl rfl y3 (HM.out y3 hB) HTL.out ds (if (k : Int) < ln then ln + 2 else ln) cd (by rw [HR2.out]; exact HZ2.out)).mono ?_
          rintro e y4 ⟨v, rfl, hv, hb⟩
          rw [HND.out] at hv
          have hvl := hv.lt
          obtain ⟨A3, c3, rfl⟩ := slice_of_own hv
          have l3 := Sl.of_own hv
          have hbl3 : ∀ ad, A3 = some ad → 0 < nd → ad.block ≠ bf := fun ad e _ => by subst e; have := (hvl ad.block rfl).1; omega
          clear hv hvl
          replace l2 := l2.up hb
          replace hf := hf.below hb hf.lt
          replace hB := hB.trans (hb.mono hs)
          replace hs := hB.size
          clear hb
          by_cases hgt : (k : Int) < ln
          · rw [if_pos hgt]
            go_upto_region 20 with fail
            have hbfg : bf < y4.heap.size := hf.lt
            have hg := Blok.new y4 35 #[.int .i64 (ln + 2), .int .i64 cd]
            have hb : Below y4.heap.size y4 (y4.alloc (.cells #[.int .i64 (ln + 2), .int .i64 cd] 35)) := by (repeat (first | exact Below.refl _ _ | refine Below.alloc ?_ (by first | omega | (simp; done) | (simp; omega)) _ | refine Below.setCell ?_ (by first | omega | (simp; done) | (simp; omega)) _ | refine Below.drew ?_))
            replace l2 := l2.up hb
            replace l3 := l3.up hb
            replace hf := hf.below hb hf.lt
            replace hB := hB.trans (hb.mono hs)
            replace hs := hB.size
            clear hb
            generalize y4.alloc (.cells #[.int .i64 (ln + 2), .int .i64 cd] 35) = y5 at *
            generalize hzz : y4.heap.size = bg at *
            clear hzz
            have k_f0 : y5.cell? ⟨bf, 0, none⟩ = some (.int .i64 ln) := hf.cell 0
            have k_f1 : y5.cell? ⟨bf, 1, none⟩ = some (.int .i64 cd) := hf.cell 1
            have lt_f := hf.lt
            have f_0 := hf.free 0
            have hwr : IntKind.i64.wrap (ln + 2) = ln + 2 := IntWalk.i64_in _ (by omega)
            go_upto_region 22 with fail
            clear k_f0 k_f1 lt_f f_0
            have l2s := sl_set (k := 0) (u := .int .i64 (ln + 2)) l2 hbl2
            have l3s := sl_set (k := 0) (u := .int .i64 (ln + 2)) l3 hbl3
            clear l2 l3
            have hne9 : bg ≠ bf := by omega
            replace hf := hf.set_ 0 (.int .i64 (ln + 2))
            replace hg := hg.far (p := ⟨bf, 0, none⟩) (by show bg ≠ bf; omega) (.int .i64 (ln + 2))
            replace hB := hB.setCell (p := ⟨bf, 0, none⟩) (by show w.heap.size ≤ bf; omega) (.int .i64 (ln + 2))
            replace hs := hB.size
            generalize (y5).setCell ⟨bf, 0, none⟩ (.int .i64 (ln + 2)) = y6 at *
            replace hf : Blok y6 bf 35 #[.int .i64 (ln + 2), .int .i64 cd] := by simpa using hf
            have l2 := l2s
            have l3 := l3s
            clear l2s l3s
            go_wp2_with fail
            refine (fsame_is A2 A3 nd c2 nd c3 ds ds true (decide_eq_true rfl) y6 HND.out HND.out (by omega) l2 l3).mono ?_
            rintro e u1 ⟨rfl, hb⟩
            clear l2 l3
            replace hf := hf.below hb hf.lt
            replace hg := hg.below hb hg.lt
            replace hB := hB.trans (hb.mono hs)
            replace hs := hB.size
            clear hb
            have hEQ : ∀ w0 : World, (binOp .eql 35 (.agg #[.int .i64 (ln + 2), .int .i64 cd]) (.agg #[.int .i64 (ln + 2), .int .i64 cd])).run Tryd.prog w0 = .ok (.bool true) w0 := fun w0 => by have h := eqlFt (ln + 2) cd (ln + 2) cd w0; simpa using h
            have k_f0 : u1.cell? ⟨bf, 0, none⟩ = some (.int .i64 (ln + 2)) := hf.cell 0
            have k_f1 : u1.cell? ⟨bf, 1, none⟩ = some (.int .i64 cd) := hf.cell 1
            have lt_f := hf.lt
            have k_g0 : u1.cell? ⟨bg, 0, none⟩ = some (.int .i64 (ln + 2)) := hg.cell 0
            have k_g1 : u1.cell? ⟨bg, 1, none⟩ = some (.int .i64 cd) := hg.cell 1
            have lt_g := hg.lt
            clear hf hg
            go_wp2_with fail
            refine (tlines_any tb _ _ HR2.out rfl u1 (HM.out u1 hB) HTL.out).mono ?_
            rintro e u2 ⟨v, rfl, hv, hb⟩
            obtain ⟨q, hq⟩ : ∃ k, (lnoF rows 1).length = k := ⟨_, rfl⟩
            rw [HLN2.out, hq] at hv
            obtain ⟨A5, c5, rfl⟩ := slice_of_own hv
            clear hv k_f0 k_f1 k_g0 k_g1 lt_f lt_g
            replace hB := hB.trans (hb.mono hs)
            replace hs := hB.size
            clear hb
            go_wp2_with fail
            refine (tlines_any s0 rows n HR.out HN.out u2 (HM.out u2 hB) HSZ.out).mono ?_
            rintro e u3 ⟨v, rfl, hv, hb⟩
            rw [hq] at hv
            obtain ⟨A6, c6, rfl⟩ := slice_of_own hv
            clear hv hq
            replace hB := hB.trans (hb.mono hs)
            replace hs := hB.size
            clear hb
            go_wp2_with fail
            go_ret
            exact ⟨rfl, hB⟩
          · rw [if_neg hgt]
            have hgt' : ¬ (k : Int) < ln := hgt
            go_upto_region 20 with fail
            have hg := Blok.new y4 35 #[.int .i64 ln, .int .i64 cd]
            have hb : Below y4.heap.size y4 (y4.alloc (.cells #[.int .i64 ln, .int .i64 cd] 35)) := by (repeat (first | exact Below.refl _ _ | refine Below.alloc ?_ (by first | omega | (simp; done) | (simp; omega)) _ | refine Below.setCell ?_ (by first | omega | (simp; done) | (simp; omega)) _ | refine Below.drew ?_))
            replace l2 := l2.up hb
            replace l3 := l3.up hb
            replace hf := hf.below hb hf.lt
            replace hB := hB.trans (hb.mono hs)
            replace hs := hB.size
            clear hb
            generalize y4.alloc (.cells #[.int .i64 ln, .int .i64 cd] 35) = y5 at *
            generalize hzz : y4.heap.size = bg at *
            clear hzz
            have k_f0 : y5.cell? ⟨bf, 0, none⟩ = some (.int .i64 ln) := hf.cell 0
            have k_f1 : y5.cell? ⟨bf, 1, none⟩ = some (.int .i64 cd) := hf.cell 1
            have lt_f := hf.lt
            go_upto_region 22 with fail
            clear k_f0 k_f1 lt_f
            go_wp2_with fail
            refine (fsame_is A2 A3 nd c2 nd c3 ds ds true (decide_eq_true rfl) y5 HND.out HND.out (by omega) l2 l3).mono ?_
            rintro e u1 ⟨rfl, hb⟩
            clear l2 l3
            replace hf := hf.below hb hf.lt
            replace hg := hg.below hb hg.lt
            replace hB := hB.trans (hb.mono hs)
            replace hs := hB.size
            clear hb
            have hEQ : ∀ w0 : World, (binOp .eql 35 (.agg #[.int .i64 ln, .int .i64 cd]) (.agg #[.int .i64 ln, .int .i64 cd])).run Tryd.prog w0 = .ok (.bool true) w0 := fun w0 => by have h := eqlFt ln cd ln cd w0; simpa using h
            have k_f0 : u1.cell? ⟨bf, 0, none⟩ = some (.int .i64 ln) := hf.cell 0
            have k_f1 : u1.cell? ⟨bf, 1, none⟩ = some (.int .i64 cd) := hf.cell 1
            have lt_f := hf.lt
            have k_g0 : u1.cell? ⟨bg, 0, none⟩ = some (.int .i64 ln) := hg.cell 0
            have k_g1 : u1.cell? ⟨bg, 1, none⟩ = some (.int .i64 cd) := hg.cell 1
            have lt_g := hg.lt
            clear hf hg
            go_wp2_with fail
            refine (tlines_any tb _ _ HR2.out rfl u1 (HM.out u1 hB) HTL.out).mono ?_
            rintro e u2 ⟨v, rfl, hv, hb⟩
            obtain ⟨q, hq⟩ : ∃ k, (lnoF rows 1).length = k := ⟨_, rfl⟩
            rw [HLN2.out, hq] at hv
            obtain ⟨A5, c5, rfl⟩ := slice_of_own hv
            clear hv k_f0 k_f1 k_g0 k_g1 lt_f lt_g
            replace hB := hB.trans (hb.mono hs)
            replace hs := hB.size
            clear hb
            go_wp2_with fail
            refine (tlines_any s0 rows n HR.out HN.out u2 (HM.out u2 hB) HSZ.out).mono ?_
            rintro e u3 ⟨v, rfl, hv, hb⟩
            rw [hq] at hv
            obtain ⟨A6, c6, rfl⟩ := slice_of_own hv
            clear hv hq
            replace hB := hB.trans (hb.mono hs)
            replace hs := hB.size
            clear hb
            go_wp2_with fail
            go_ret
            exact ⟨rfl, hB⟩
theorem textBlank_walk (s0 r0 : ByteArray) (kk : Int) (_ : s0.size ≤ maxLen) (_ : r0.size ≤ maxLen) (_ : (Lit.int .i64 kk).wf = true) (w : World) (h : TenTab w ∧ MaxAt w) (hu : s0.data.toList.length ≤ 2000000) :
    Calls Tryd.prog 6 #[.string s0, .string r0, .int .i64 kk] w fun e w' => e = .returned (.bool true) ∧ Below w.heap.size w w' := tblank_law s0 r0 kk hu w h.1 h.2
theorem textBlank_own : ownKnob Tryd.prog.godebug = none := by kernel_rfl
theorem textBlank_laidOut : laidOutB Tryd.prog = true := by kernel_rfl
set_option maxHeartbeats 1000000 in
set_option maxRecDepth 100000 in
theorem textBlank_lifted (os : Os) (started : os.Started) (H : Type) (enc : TypeId × Value → H) (F : Stop.Interp) :
    ReturnsInHanded {} Tryd.checked os 6 .any ((Rows.OpenSpec.upto Rows.textBlankSpec).preRow enc Tryd.prog Tryd.f6 Rows.textBlankUptoRow.domain false Rows.textBlankUptoRow.laid) (((Rows.OpenSpec.upto Rows.textBlankSpec).at F).post enc Tryd.prog Tryd.f6 false true false false) := by
  obtain ⟨places, hx⟩ : ∃ places, DataW.whole enc Tryd.prog (((World.laidAll Tryd.prog os Rows.textBlankUptoRow.laid)).forCall (fun _ _ => 0) ⟨#[], #[.string ByteArray.empty, .string ByteArray.empty, .int .i64 0], []⟩).memory Tryd.f6.params.toList Rows.textBlankSpec.vars false #[.string ByteArray.empty, .string ByteArray.empty, .int .i64 0].toList 8 = some ([.lit (.string []), .lit (.string []), .lit (.int .i64 0)], [], places) := ⟨[], by kernel_rfl⟩
  have hlaid : laidMetH Tryd.prog Rows.textBlankUptoRow.laid (((World.laidAll Tryd.prog os Rows.textBlankUptoRow.laid)).forCall (fun _ _ => 0) ⟨#[], #[.string ByteArray.empty, .string ByteArray.empty, .int .i64 0], []⟩).memory := (by rw [MakeChecks.laidMetH_plain _ _ _ (by kernel_rfl)]; exact laidMet_laidAll _ (by kernel_rfl) (by kernel_rfl))
  refine returnsInHanded_of_row (C := Tryd.checked) (s := Rows.OpenSpec.upto Rows.textBlankSpec) textBlank_own started (by kernel_rfl) Tryd.func6
    (witness_row_shaped (enc := enc) (C := Tryd.checked) (World.laidAll Tryd.prog os Rows.textBlankUptoRow.laid) #[.string ByteArray.empty, .string ByteArray.empty, .int .i64 0] (World.laidAll_os _ _ _) (World.shaped_of_ZipB (by kernel_rfl) (by kernel_rfl)) (by kernel_rfl)
      (OpenSpec.preRow_of_cond 8 hx (by kernel_rfl) (fun k hk => by cases hk; kernel_rfl) (by kernel_rfl) hlaid)) ?_
  intro W base args ds gs before hval0 hW _ hcond _ hX hL _
  have hcnd := hcond _ rfl
  have hval : ∀ (j : Nat) t v, Tryd.f6.params[j]? = some t → args[j]? = some v → Value.okWide Tryd.prog W .any base t v := hval0
  have hW' := hW
  obtain ⟨p, q, hA0, hV, rfl, hfz, hnd⟩ := hW
  have hA : DataW.TrodAll enc Tryd.prog W 0 (fun _ => true) true Tryd.f6.params.toList args.toList ds p := hA0
  rw [Tryd.params6] at hA hval
  obtain ⟨v0, vs0, d0, ds0, p0, q0, hargs, rfl, rfl, h0, r0⟩ := trodAll_cons hA
  obtain ⟨v1, vs1, d1, ds1, p1, q1, rfl, rfl, rfl, h1, r1⟩ := trodAll_cons r0
  obtain ⟨v2, vs2, d2, ds2, p2, q2, rfl, rfl, rfl, h2, r2⟩ := trodAll_cons r1
  obtain ⟨rfl, rfl, rfl⟩ := trodAll_nil r2
  obtain rfl : args = #[v0, v1, v2] := by cases args; simp_all
  obtain ⟨rfl, rfl⟩ := trodVars_none hV
  obtain ⟨s0, rfl, rfl, rfl, w0⟩ := Go.ChangeMaps.open_string Tryd.underlying9 (hval 0 9 v0 rfl rfl) h0
  obtain ⟨s1, rfl, rfl, rfl, w1⟩ := Go.ChangeMaps.open_string Tryd.underlying9 (hval 1 9 v1 rfl rfl) h1
  obtain ⟨a2, rfl, rfl, rfl, w2⟩ := open_int Tryd.underlying3 (hval 2 3 v2 rfl rfl) h2
  clear hA0 hval0
  refine (textBlank_walk s0 s1 a2 w0 w1 w2 W (ten_max hX hL) (by have h := of_decide_eq_true hcnd; simp only [List.append_nil, Rows.uptoBulkAll, Rows.uptoBulk] at h; omega)).mono fun e W' ⟨he, bel⟩ => ?_
  subst he
  exact ⟨_, rfl, law_post textBlank_laidOut (by kernel_rfl) rfl Tryd.underlying4 rfl rfl hW' bel⟩

theorem textBlank_holds : Rows.TextBlankUptoSaid :=
  OpenClaim.holds_of_cond 6 Tryd.f6 rfl rfl rfl rfl rfl rfl rfl ⟨rfl, rfl, rfl, rfl, rfl⟩ rfl rfl rfl rfl rfl (by kernel_rfl) Tryd.func6 (by kernel_rfl)
    (of_decide_eq_true (by kernel_rfl)) (by unfold Func.isWrapper; first | (rw [if_pos (by decide +kernel)]; kernel_rfl) | (rw [if_neg (by decide +kernel)]; exact ⟨rfl, rfl⟩))
    (fun os started H enc _ F => by rw [OpenClaim.pre_eq_preRow]; exact textBlank_lifted os started H enc F)

theorem textBlank_proved : Rows.TextBlankUptoCardSaid :=
  Claim7.holds_tied_plain_at .later [] _ _ _ _
    textBlank_holds (fun _ h => by cases h) (by kernel_rfl) (fun _ h => by cases h) textBlankUpto_row_tie rfl ⟨rfl, rfl⟩ (by kernel_rfl) rfl
    (fun f fn hf hfn => by
      obtain rfl : f = 6 := Option.some.inj ((show Tryd.prog.funcNamed "felucca/feluccalaw05.TextBlank" = some 6 by kernel_rfl).symm.trans hf) |>.symm
      obtain rfl : fn = Tryd.f6 := (Option.some.inj (Tryd.func6.symm.trans hfn)).symm
      exact ⟨by kernel_rfl, fun j t ht => by
        rw [Tryd.params6] at ht
        have hm : t ∈ [9, 9, 3] := by simpa using Array.mem_of_getElem? ht
        have hall : ([9, 9, 3].all fun u => !Tryd.prog.wantsStandIn u) = true := by kernel_rfl
        exact (show Tryd.prog.wantsStandIn t = false by simpa using List.all_eq_true.1 hall t hm)⟩)
    (by kernel_rfl)
#print axioms textBlank_proved
end Go.Proofs.YtcclfmaockapjaaDoor
