/- Contracts and plain facts, several texts of mine in one: Scr3, Scr3q0, Scr3q1, Scr3q2, Scr3q3, Scr3q4, Scr3q5, Scr3q6, Scr4, Scr5, EqI. No condition. -/
import Derived.Test.YtggdomeeienjbaaDoorScr2
import Derived.Test.YtggdomeeienjbaaDoorFacts5
import Derived.Deep.WholeRow
import Derived.Laws.CopyOwn
import Derived.Test.YtggdomeeienjbaaDoorInts

/- Package script: act. No condition but that bytes are bytes. -/
namespace Go.Proofs.YtggdomeeienjbaaDoor
open Go.ChangeShapes Go.WideShapes Go.ChangeAt Go.RowKit Go.Sort
set_option linter.unusedSimpArgs false
set_option linter.unusedVariables false
/-- An act: what it tells. -/
structure Pa where
  dk : Int
  tx : Bytes
  D : Dr
  n : Int
  ids : List Int
  cl : Int
  sz : Int
  bf : Int
  bt : Int
  bs_ : Int
  bc : Int
  bd : Int
deriving DecidableEq
/-- Its cells, its IDs wherever they lie. -/
def Pa.cs (p : Pa) (A : Option Addr) (k c : Nat) : List Value := [.int .i64 p.dk, .string (bs p.tx), .int .i64 p.D.op, .int .i64 p.D.kd, .int .i64 p.D.id, .int .i64 p.D.fr, .int .i64 p.D.tn, .int .i64 p.D.st, .int .i64 p.D.en, .int .i64 p.D.rt, .int .i64 p.D.rf, .int .i64 p.D.rn, .int .i64 p.D.rs, .int .i64 p.D.re, .int .i64 p.D.ro, .int .i64 p.n, .slice A k c, .int .i64 p.cl, .int .i64 p.sz, .int .i64 p.bf, .int .i64 p.bt, .int .i64 p.bs_, .int .i64 p.bc, .int .i64 p.bd]
/-- The act that bytes make. -/
def actF (b0 b1 b2 b3 b4 b5 b6 b7 b8 : Nat) : Pa :=
  if b0 % 7 = 0 then ⟨1, linesF (dirF b1 b2 b3 b4 b5 b6 b7) b8, zeroDr, 0, [], 0, 0, 0, 0, 0, 0, 0⟩
  else if b0 % 7 = 1 then ⟨2, [], dirF b1 b2 b3 b4 b5 b6 b7, 0, [], 0, 0, 0, 0, 0, 0, 0⟩
  else if b0 % 7 = 2 then ⟨3, [], zeroDr, (b1 : Nat), [], 0, 0, 0, 0, 0, 0, 0⟩
  else if b0 % 7 = 3 then ⟨4, [], zeroDr, 0, idsF b1 b2 b3, (b4 % 4 : Nat), (b5 : Nat), 0, 0, 0, 0, 0⟩
  else if b0 % 7 = 4 then ⟨5, [], zeroDr, 0, idsF b1 b2 b3, (b4 % 4 : Nat), (b5 : Nat), 0, 0, 0, 0, 0⟩
  else if b0 % 7 = 5 then ⟨6, [], zeroDr, 0, [], 0, 0, (1 + b1 % 4 : Nat), (1 + b2 % 4 : Nat), (b3 : Nat), (b4 % 3 : Nat), (4 * b5 : Nat)⟩
  else ⟨7, [], zeroDr, (b3 % 10 : Nat), [], 0, 0, (1 + b1 % 4 : Nat), (1 + b2 % 4 : Nat), 0, 0, 0⟩
theorem actF_ids (b0 b1 b2 b3 b4 b5 b6 b7 b8 : Nat) : (actF b0 b1 b2 b3 b4 b5 b6 b7 b8).ids.length ≤ 2 := by
  have := idsF_len b1 b2 b3
  unfold actF
  repeat' split
  all_goals first | exact Nat.zero_le _ | exact this
/-- The value is that act, in that world; its IDs lie behind base. -/
def AV (base : Nat) (w : World) (v : Value) (p : Pa) : Prop := ∃ A k c, v = .agg (p.cs A k c).toArray ∧ w.ownsRow base 3 1 (.slice A k c) p.ids.length (p.ids.map (Value.int .i64)) ∧ p.ids.length = k
theorem own_none (w : World) (base : Nat) (e : TypeId) (k : Nat) : w.ownsRow base e k (.slice none 0 0) 0 [] := ⟨by simp, .inl ⟨rfl, rfl⟩⟩
theorem own_kept {S : Nat → Prop} {w w' : World} {base : Nat} {e : TypeId} {size n : Nat} {v : Value} {xs : List Value} (h : w.ownsRow base e size v n xs) (hk : Kept S w w') (hn : ∀ g, v.ownBlock = some g → ¬ S g) : w'.ownsRow base e size v n xs := by
  refine ⟨h.1, ?_⟩
  rcases h.2 with h0 | ⟨g, cap, cur, rfl, hb, hg, rest⟩
  · exact .inl h0
  · refine .inr ⟨g, cap, cur, rfl, hb, ?_, rest⟩
    exact hk.blok (g := g) hg (hn g rfl)
/-- A struct's literal, where its run is known by an equation. -/
theorem wp_build_run {P : Program} (w : World) {o : Oper} {a : Act} {K : Act → World → Prop} {Q : Exit → Act → World → Prop} (t : TypeId) (parts : Array (Nat × Operand)) (ho : o.op = .build t parts) (vals : Array (Nat × Value)) (hv : parts.map (fun p => (p.1, a.eval p.2)) = vals) {v : Value}
    (hr : (Instr.build t vals).run P w = .ok v w) (h : K (a.put o.dst v) w) : o.wp P a w K Q := by
  unfold Oper.wp execOp
  have hv' : parts.map (fun x : Nat × Operand => match x with | (i, x) => (i, a.eval x)) = vals := hv
  simp only [ho, hv', Sem.run_bind, Sem.run_pure, hr, Result.andThen_ok]
  exact h
theorem wpList_build_run {P : Program} (w : World) {ops : Array Oper} {rest : List Oper} {o : Oper} {a : Act} {Q : Exit → Act → World → Prop} (hgd : o.guard = none) (t : TypeId) (parts : Array (Nat × Operand)) (ho : o.op = .build t parts) (vals : Array (Nat × Value)) (hv : parts.map (fun p => (p.1, a.eval p.2)) = vals) {v : Value}
    (hr : (Instr.build t vals).run P w = .ok v w) (h : wpList P ops Q rest (a.put o.dst v) w) : wpList P ops Q (o :: rest) a w :=
  wpList_plain hgd fun _ hK => wp_build_run w t parts ho vals hv hr (hK _ _ h)
set_option maxRecDepth 100000 in
theorem bact (n : Int) (w : World) : (Instr.build 36 #[(0, .int .i64 n)]).run Tryd.prog w = .ok (.agg #[.int .i64 n, .string ⟨#[]⟩, .int .i64 0, .int .i64 0, .int .i64 0, .int .i64 0, .int .i64 0, .int .i64 0, .int .i64 0, .int .i64 0, .int .i64 0, .int .i64 0, .int .i64 0, .int .i64 0, .int .i64 0, .int .i64 0, .slice none 0 0, .int .i64 0, .int .i64 0, .int .i64 0, .int .i64 0, .int .i64 0, .int .i64 0, .int .i64 0]) w := by kernel_rfl
theorem grown_setRow (w : World) (g : Nat) (cs : Array Value) : w.grownBy (w.setRow g cs) (some g) :=
  ⟨rfl, rfl, rfl, by simp, fun k hk hne => setRow_other w g k cs (fun e => hne (by rw [e]))⟩
theorem Blok.there_ {w : World} {b : Nat} {T : TypeId} {cs : Array Value} (h : Blok w b T cs) (o n : Nat) (hn : o + n ≤ cs.size) : w.there b o n := fun j hj => by
  refine ⟨?_, h.free _⟩
  rw [h.cell, Array.getElem?_eq_getElem (by omega)]
  rfl
theorem Blok.sets {b : Nat} {T : TypeId} : ∀ (l : List Value) (o : Nat) (w : World) (cs : List Value), Blok w b T cs.toArray → o + l.length ≤ cs.length → Blok (w.setCells b o l) b T (cs.take o ++ l ++ cs.drop (o + l.length)).toArray
  | [], o, w, cs, h, _ => by simpa [World.setCells] using h
  | v :: l, o, w, cs, h, hl => by
    have hl' : o + (l.length + 1) ≤ cs.length := by simpa using hl
    have h1 := h.set_ o v
    have h2 : Blok (w.setCell ⟨b, o, none⟩ v) b T (cs.set o v).toArray := by simpa using h1
    have h3 := Blok.sets l (o + 1) _ _ h2 (by simp; omega)
    have hs : cs.set o v = cs.take o ++ v :: cs.drop (o + 1) := by rw [List.set_eq_take_append_cons_drop, if_pos (by omega)]
    have ht : (cs.take o).length = o := by simp; omega
    have t1 : (cs.set o v).take (o + 1) = cs.take o ++ [v] := by rw [hs, List.take_append, ht]; simp [List.take_take]
    have t2 : (cs.set o v).drop (o + 1 + l.length) = cs.drop (o + (l.length + 1)) := by
      rw [hs, List.drop_append, ht, List.drop_eq_nil_of_le (by omega), show o + 1 + l.length - o = l.length + 1 by omega, List.drop_succ_cons, List.drop_drop, List.nil_append]
      congr 1
      omega
    rw [t1, t2] at h3
    have e : cs.take o ++ [v] ++ l = cs.take o ++ v :: l := by simp
    rw [e] at h3
    exact h3
/-- Two cells of a variable are stored, in whatever order; all other blocks stay. -/
structure BM (W : World) (b : Nat) (T : TypeId) (mk : Value → Value → Array Value) (v5 v6 : Value) (V : Array Bool) (w' : World) : Prop where
  kept : Kept (fun k => k = b) W w'
  box : ∃ u5 u6, Blok w' b T (mk u5 u6) ∧ (V.getD 7 true = true → u5 = v5) ∧ (V.getD 9 true = true → u6 = v6)
theorem getD_me (V : Array Bool) (i : Nat) : (V.setIfInBounds i true).getD i true = true := by
  by_cases hs : i < V.size
  · simp [hs]
  · simp [Array.getD, hs]
theorem BM.other {W w' : World} {b : Nat} {T : TypeId} {mk : Value → Value → Array Value} {v5 v6 : Value} {V : Array Bool} (h : BM W b T mk v5 v6 V w') (i : Nat) (h7 : i ≠ 7) (h9 : i ≠ 9) : BM W b T mk v5 v6 (V.setIfInBounds i true) w' := by
  obtain ⟨hk, u5, u6, hb, a, c⟩ := h
  exact ⟨hk, u5, u6, hb, by rw [getD_set_ne true h7]; exact a, by rw [getD_set_ne true h9]; exact c⟩
theorem BM.store7 {W w' : World} {b : Nat} {T : TypeId} {mk : Value → Value → Array Value} {v5 v6 : Value} {V : Array Bool} (h : BM W b T mk v5 v6 V w') (o : Nat) (hs : ∀ u5 u6 x, (mk u5 u6).setIfInBounds o x = mk x u6) : BM W b T mk v5 v6 (V.setIfInBounds 7 true) (w'.setCell ⟨b, o, none⟩ v5) := by
  obtain ⟨hk, u5, u6, hb, a, c⟩ := h
  refine ⟨hk.set (fun _ => rfl) _ _, v5, u6, ?_, fun _ => rfl, by rw [getD_set_ne true (by decide)]; exact c⟩
  have := hb.set_ o v5
  rw [hs] at this
  exact this
theorem BM.store9 {W w' : World} {b : Nat} {T : TypeId} {mk : Value → Value → Array Value} {v5 v6 : Value} {V : Array Bool} (h : BM W b T mk v5 v6 V w') (o : Nat) (hs : ∀ u5 u6 x, (mk u5 u6).setIfInBounds o x = mk u5 x) : BM W b T mk v5 v6 (V.setIfInBounds 9 true) (w'.setCell ⟨b, o, none⟩ v6) := by
  obtain ⟨hk, u5, u6, hb, a, c⟩ := h
  refine ⟨hk.set (fun _ => rfl) _ _, u5, v6, ?_, by rw [getD_set_ne true (by decide)]; exact a, fun _ => rfl⟩
  have := hb.set_ o v6
  rw [hs] at this
  exact this
theorem wpOp_skips' {P : Program} {ops : Array Oper} {Q : Exit → Act → World → Prop} {i : Nat} {o : Oper} {K : Act → World → Prop} {a : Act} {w w' : World} (ho : ops[i]? = some o) (hg : o.guard = none) (hr : (execOp a.eval o).run P w = .ok .skip w') (hK : K (a.put o.dst undef) w') : wpOp P ops Q i K a w := by
  refine wpOp_of ho ?_
  rw [if_pos (by simp [Region.wanted, hg])]
  unfold Oper.wp
  rw [hr]
  exact hK
theorem below_kept {W w' : World} {b B : Nat} {w : World} (hB : Below B w W) (hk : Kept (fun k => k = b) W w') (hb : B ≤ b) (hs : B ≤ W.heap.size) : Below B w w' := by
  refine hB.trans ⟨hk.os, hk.tape, hk.output, hk.size, fun k hk2 => hk.block k (by omega) (by show k ≠ b; omega)⟩

end Go.Proofs.YtggdomeeienjbaaDoor

/- Package script: act, kind 0. No condition but that bytes are bytes. -/
namespace Go.Proofs.YtggdomeeienjbaaDoor
open Go.ChangeShapes Go.WideShapes Go.ChangeAt Go.RowKit Go.Sort
set_option linter.unusedSimpArgs false
set_option linter.unusedVariables false
set_option maxHeartbeats 16000000 in
set_option maxRecDepth 100000 in
theorem sact_0 (b0 b1 b2 b3 b4 b5 b6 b7 b8 b9 : Nat) (w : World) (ht : TenTab w) (h0 : b0 < 256) (h1 : b1 < 256) (h2 : b2 < 256) (h3 : b3 < 256) (h4 : b4 < 256) (h5 : b5 < 256) (h6 : b6 < 256) (h7 : b7 < 256) (h8 : b8 < 256) (h9 : b9 < 256) (P : Pa) (hq : b0 % 7 = 0) (hP : (⟨1, linesF (dirF b1 b2 b3 b4 b5 b6 b7) b8, zeroDr, 0, [], 0, 0, 0, 0, 0, 0, 0⟩ : Pa) = P) :
    Calls Tryd.prog 16 #[.agg #[.int .u8 (b0 : Nat), .int .u8 (b1 : Nat), .int .u8 (b2 : Nat), .int .u8 (b3 : Nat), .int .u8 (b4 : Nat), .int .u8 (b5 : Nat), .int .u8 (b6 : Nat), .int .u8 (b7 : Nat), .int .u8 (b8 : Nat), .int .u8 (b9 : Nat)]] w fun e w' => ∃ v, e = .returned v ∧ AV w.heap.size w' v P ∧ Below w.heap.size w w' := by
  have Eq0 : Hid (b0 % 7 = 0) := hq
  obtain ⟨D, eD⟩ : ∃ D, dirF b1 b2 b3 b4 b5 b6 b7 = D := ⟨_, rfl⟩
  obtain ⟨T, eT⟩ : ∃ T, linesF D b8 = T := ⟨_, rfl⟩
  rw [eD, eT] at hP
  have ED := Lib.hid eD
  have ET := Lib.hid eT
  clear eD eT
  have HP := Lib.hid hP
  have TT := Lib.hid ht
  have H0 := Lib.hid h0
  have H1 := Lib.hid h1
  have H2 := Lib.hid h2
  have H3 := Lib.hid h3
  have H4 := Lib.hid h4
  have H5 := Lib.hid h5
  have H6 := Lib.hid h6
  have H7 := Lib.hid h7
  have H8 := Lib.hid h8
  have H9 := Lib.hid h9
  have vb1 : IntKind.i64.wrap (b1 : Int) = (b1 : Int) := IntWalk.i64_in _ (by omega)
  have vb3 : IntKind.i64.wrap (b3 : Int) = (b3 : Int) := IntWalk.i64_in _ (by omega)
  have vb5 : IntKind.i64.wrap (b5 : Int) = (b5 : Int) := IntWalk.i64_in _ (by omega)
  have v45 : IntKind.i64.wrap (4 * (b5 : Int)) = 4 * (b5 : Int) := IntWalk.i64_in _ (by omega)
  clear hP ht hq  h0 h1 h2 h3 h4 h5 h6 h7 h8 h9
  have hB : Below w.heap.size w ((w.alloc (.cells #[.int .u8 (b0 : Nat), .int .u8 (b1 : Nat), .int .u8 (b2 : Nat), .int .u8 (b3 : Nat), .int .u8 (b4 : Nat), .int .u8 (b5 : Nat), .int .u8 (b6 : Nat), .int .u8 (b7 : Nat), .int .u8 (b8 : Nat), .int .u8 (b9 : Nat)] 23)).alloc (.cells #[.int .i64 0, .string ⟨#[]⟩, .int .i64 0, .int .i64 0, .int .i64 0, .int .i64 0, .int .i64 0, .int .i64 0, .int .i64 0, .int .i64 0, .int .i64 0, .int .i64 0, .int .i64 0, .int .i64 0, .int .i64 0, .int .i64 0, .slice none 0 0, .int .i64 0, .int .i64 0, .int .i64 0, .int .i64 0, .int .i64 0, .int .i64 0, .int .i64 0] 36)) := by (repeat (first | exact Below.refl _ _ | refine Below.alloc ?_ (by first | omega | (simp; done) | (simp; omega)) _ | refine Below.setCell ?_ (by first | omega | (simp; done) | (simp; omega)) _ | refine Below.drew ?_))
  have hX := (Blok.new w 23 #[.int .u8 (b0 : Nat), .int .u8 (b1 : Nat), .int .u8 (b2 : Nat), .int .u8 (b3 : Nat), .int .u8 (b4 : Nat), .int .u8 (b5 : Nat), .int .u8 (b6 : Nat), .int .u8 (b7 : Nat), .int .u8 (b8 : Nat), .int .u8 (b9 : Nat)]).alloc (.cells #[.int .i64 0, .string ⟨#[]⟩, .int .i64 0, .int .i64 0, .int .i64 0, .int .i64 0, .int .i64 0, .int .i64 0, .int .i64 0, .int .i64 0, .int .i64 0, .int .i64 0, .int .i64 0, .int .i64 0, .int .i64 0, .int .i64 0, .slice none 0 0, .int .i64 0, .int .i64 0, .int .i64 0, .int .i64 0, .int .i64 0, .int .i64 0, .int .i64 0] 36)
  have hR := Blok.new (w.alloc (.cells #[.int .u8 (b0 : Nat), .int .u8 (b1 : Nat), .int .u8 (b2 : Nat), .int .u8 (b3 : Nat), .int .u8 (b4 : Nat), .int .u8 (b5 : Nat), .int .u8 (b6 : Nat), .int .u8 (b7 : Nat), .int .u8 (b8 : Nat), .int .u8 (b9 : Nat)] 23)) 36 #[.int .i64 0, .string ⟨#[]⟩, .int .i64 0, .int .i64 0, .int .i64 0, .int .i64 0, .int .i64 0, .int .i64 0, .int .i64 0, .int .i64 0, .int .i64 0, .int .i64 0, .int .i64 0, .int .i64 0, .int .i64 0, .int .i64 0, .slice none 0 0, .int .i64 0, .int .i64 0, .int .i64 0, .int .i64 0, .int .i64 0, .int .i64 0, .int .i64 0]
  rw [World.size_alloc] at hR
  have hs := hB.size
  go_enter Tryd.func16, Tryd.ntmps16
  go_upto_region 1 with fail
  generalize ((w.alloc (.cells #[.int .u8 (b0 : Nat), .int .u8 (b1 : Nat), .int .u8 (b2 : Nat), .int .u8 (b3 : Nat), .int .u8 (b4 : Nat), .int .u8 (b5 : Nat), .int .u8 (b6 : Nat), .int .u8 (b7 : Nat), .int .u8 (b8 : Nat), .int .u8 (b9 : Nat)] 23)).alloc (.cells #[.int .i64 0, .string ⟨#[]⟩, .int .i64 0, .int .i64 0, .int .i64 0, .int .i64 0, .int .i64 0, .int .i64 0, .int .i64 0, .int .i64 0, .int .i64 0, .int .i64 0, .int .i64 0, .int .i64 0, .int .i64 0, .int .i64 0, .slice none 0 0, .int .i64 0, .int .i64 0, .int .i64 0, .int .i64 0, .int .i64 0, .int .i64 0, .int .i64 0] 36)) = w1 at *
  have x0 : w1.cell? ⟨w.heap.size, 0, none⟩ = some (.int .u8 (b0 : Nat)) := hX.cell 0
  have lt_x := hX.lt
  go_upto_region 2 with (first | (refine wpList_store_row (by rfl) 36 (.tmp 3) (.tmp 8) (by rfl) w1.heap.size #[.int .i64 1, .string ⟨#[]⟩, .int .i64 0, .int .i64 0, .int .i64 0, .int .i64 0, .int .i64 0, .int .i64 0, .int .i64 0, .int .i64 0, .int .i64 0, .int .i64 0, .int .i64 0, .int .i64 0, .int .i64 0, .int .i64 0, .slice none 0 0, .int .i64 0, .int .i64 0, .int .i64 0, .int .i64 0, .int .i64 0, .int .i64 0, .int .i64 0] (by rfl) (by rfl) 36 #[.int .i64 0, .string ⟨#[]⟩, .int .i64 0, .int .i64 0, .int .i64 0, .int .i64 0, .int .i64 0, .int .i64 0, .int .i64 0, .int .i64 0, .int .i64 0, .int .i64 0, .int .i64 0, .int .i64 0, .int .i64 0, .int .i64 0, .slice none 0 0, .int .i64 0, .int .i64 0, .int .i64 0, .int .i64 0, .int .i64 0, .int .i64 0, .int .i64 0] (heap_alloc_new _ _) (by kernel_rfl) rfl (by simp [Value.oneCell']) ?_; rw [World.setRow_alloc_new]) | (refine wpList_build_run _ (by rfl) 36 #[(0, .tmp 7)] (by rfl) #[(0, .int .i64 1)] (by rfl) (bact 1 _) ?_) | (go_at_call 19; first | ((with_reducible refine Calls.mono (rest_any b0 7 _ 7 k7_ _ H0.out (by decide) (by decide) Eq0.out) ?_); rintro e9 w9 ⟨rfl, rfl⟩)))
  clear x0 lt_x
  have hA := Blok.new w1 36 #[.int .i64 1, .string ⟨#[]⟩, .int .i64 0, .int .i64 0, .int .i64 0, .int .i64 0, .int .i64 0, .int .i64 0, .int .i64 0, .int .i64 0, .int .i64 0, .int .i64 0, .int .i64 0, .int .i64 0, .int .i64 0, .int .i64 0, .slice none 0 0, .int .i64 0, .int .i64 0, .int .i64 0, .int .i64 0, .int .i64 0, .int .i64 0, .int .i64 0]
  have hb : Below w1.heap.size w1 (w1.alloc (.cells #[.int .i64 1, .string ⟨#[]⟩, .int .i64 0, .int .i64 0, .int .i64 0, .int .i64 0, .int .i64 0, .int .i64 0, .int .i64 0, .int .i64 0, .int .i64 0, .int .i64 0, .int .i64 0, .int .i64 0, .int .i64 0, .int .i64 0, .slice none 0 0, .int .i64 0, .int .i64 0, .int .i64 0, .int .i64 0, .int .i64 0, .int .i64 0, .int .i64 0] 36)) := by (repeat (first | exact Below.refl _ _ | refine Below.alloc ?_ (by first | omega | (simp; done) | (simp; omega)) _ | refine Below.setCell ?_ (by first | omega | (simp; done) | (simp; omega)) _ | refine Below.drew ?_))
  have lR := hR.lt
  replace hX := hX.below hb hX.lt
  replace hR := hR.below hb hR.lt
  replace hB := hB.trans (hb.mono hs)
  replace hs := hB.size
  clear hb
  generalize w1.alloc (.cells #[.int .i64 1, .string ⟨#[]⟩, .int .i64 0, .int .i64 0, .int .i64 0, .int .i64 0, .int .i64 0, .int .i64 0, .int .i64 0, .int .i64 0, .int .i64 0, .int .i64 0, .int .i64 0, .int .i64 0, .int .i64 0, .int .i64 0, .slice none 0 0, .int .i64 0, .int .i64 0, .int .i64 0, .int .i64 0, .int .i64 0, .int .i64 0, .int .i64 0] 36) = w2 at *
  generalize w1.heap.size = bA at *
  have k0 : w2.cell? ⟨bA, 0, none⟩ = some (.int .i64 1) := hA.cell 0
  have k1 : w2.cell? ⟨bA, 1, none⟩ = some (.string ⟨#[]⟩) := hA.cell 1
  have k2 : w2.cell? ⟨bA, 2, none⟩ = some (.int .i64 0) := hA.cell 2
  have k3 : w2.cell? ⟨bA, 3, none⟩ = some (.int .i64 0) := hA.cell 3
  have k4 : w2.cell? ⟨bA, 4, none⟩ = some (.int .i64 0) := hA.cell 4
  have k5 : w2.cell? ⟨bA, 5, none⟩ = some (.int .i64 0) := hA.cell 5
  have k6 : w2.cell? ⟨bA, 6, none⟩ = some (.int .i64 0) := hA.cell 6
  have k7 : w2.cell? ⟨bA, 7, none⟩ = some (.int .i64 0) := hA.cell 7
  have k8 : w2.cell? ⟨bA, 8, none⟩ = some (.int .i64 0) := hA.cell 8
  have k9 : w2.cell? ⟨bA, 9, none⟩ = some (.int .i64 0) := hA.cell 9
  have k10 : w2.cell? ⟨bA, 10, none⟩ = some (.int .i64 0) := hA.cell 10
  have k11 : w2.cell? ⟨bA, 11, none⟩ = some (.int .i64 0) := hA.cell 11
  have k12 : w2.cell? ⟨bA, 12, none⟩ = some (.int .i64 0) := hA.cell 12
  have k13 : w2.cell? ⟨bA, 13, none⟩ = some (.int .i64 0) := hA.cell 13
  have k14 : w2.cell? ⟨bA, 14, none⟩ = some (.int .i64 0) := hA.cell 14
  have k15 : w2.cell? ⟨bA, 15, none⟩ = some (.int .i64 0) := hA.cell 15
  have k16 : w2.cell? ⟨bA, 16, none⟩ = some (.slice none 0 0) := hA.cell 16
  have k17 : w2.cell? ⟨bA, 17, none⟩ = some (.int .i64 0) := hA.cell 17
  have k18 : w2.cell? ⟨bA, 18, none⟩ = some (.int .i64 0) := hA.cell 18
  have k19 : w2.cell? ⟨bA, 19, none⟩ = some (.int .i64 0) := hA.cell 19
  have k20 : w2.cell? ⟨bA, 20, none⟩ = some (.int .i64 0) := hA.cell 20
  have k21 : w2.cell? ⟨bA, 21, none⟩ = some (.int .i64 0) := hA.cell 21
  have k22 : w2.cell? ⟨bA, 22, none⟩ = some (.int .i64 0) := hA.cell 22
  have k23 : w2.cell? ⟨bA, 23, none⟩ = some (.int .i64 0) := hA.cell 23
  have lt_k := hA.lt
  go_upto_region 4 with fail
  clear k0 k1 k2 k3 k4 k5 k6 k7 k8 k9 k10 k11 k12 k13 k14 k15 k16 k17 k18 k19 k20 k21 k22 k23 lt_k
  have x0 : w2.cell? ⟨w.heap.size, 0, none⟩ = some (.int .u8 (b0 : Nat)) := hX.cell 0
  have x1 : w2.cell? ⟨w.heap.size, 1, none⟩ = some (.int .u8 (b1 : Nat)) := hX.cell 1
  have x2 : w2.cell? ⟨w.heap.size, 2, none⟩ = some (.int .u8 (b2 : Nat)) := hX.cell 2
  have x3 : w2.cell? ⟨w.heap.size, 3, none⟩ = some (.int .u8 (b3 : Nat)) := hX.cell 3
  have x4 : w2.cell? ⟨w.heap.size, 4, none⟩ = some (.int .u8 (b4 : Nat)) := hX.cell 4
  have x5 : w2.cell? ⟨w.heap.size, 5, none⟩ = some (.int .u8 (b5 : Nat)) := hX.cell 5
  have x6 : w2.cell? ⟨w.heap.size, 6, none⟩ = some (.int .u8 (b6 : Nat)) := hX.cell 6
  have x7 : w2.cell? ⟨w.heap.size, 7, none⟩ = some (.int .u8 (b7 : Nat)) := hX.cell 7
  have x8 : w2.cell? ⟨w.heap.size, 8, none⟩ = some (.int .u8 (b8 : Nat)) := hX.cell 8
  have x9 : w2.cell? ⟨w.heap.size, 9, none⟩ = some (.int .u8 (b9 : Nat)) := hX.cell 9
  have lt_x := hX.lt
  go_wp2_with fail
  refine (slines_any b0 b1 b2 b3 b4 b5 b6 b7 b8 b9 w2 (TT.out.below hB) H0.out H1.out H2.out H3.out H4.out H5.out H6.out H7.out H8.out H9.out D ED.out T ET.out).mono ?_
  rintro e w3 ⟨rfl, hb⟩
  clear x0 x1 x2 x3 x4 x5 x6 x7 x8 x9 lt_x
  replace hX := hX.below hb hX.lt
  replace hR := hR.below hb hR.lt
  replace hA := hA.below hb hA.lt
  replace hB := hB.trans (hb.mono hs)
  replace hs := hB.size
  clear hb
  have k0 : w3.cell? ⟨bA, 0, none⟩ = some (.int .i64 1) := hA.cell 0
  have g0 := hA.free 0
  have k1 : w3.cell? ⟨bA, 1, none⟩ = some (.string ⟨#[]⟩) := hA.cell 1
  have g1 := hA.free 1
  have k2 : w3.cell? ⟨bA, 2, none⟩ = some (.int .i64 0) := hA.cell 2
  have g2 := hA.free 2
  have k3 : w3.cell? ⟨bA, 3, none⟩ = some (.int .i64 0) := hA.cell 3
  have g3 := hA.free 3
  have k4 : w3.cell? ⟨bA, 4, none⟩ = some (.int .i64 0) := hA.cell 4
  have g4 := hA.free 4
  have k5 : w3.cell? ⟨bA, 5, none⟩ = some (.int .i64 0) := hA.cell 5
  have g5 := hA.free 5
  have k6 : w3.cell? ⟨bA, 6, none⟩ = some (.int .i64 0) := hA.cell 6
  have g6 := hA.free 6
  have k7 : w3.cell? ⟨bA, 7, none⟩ = some (.int .i64 0) := hA.cell 7
  have g7 := hA.free 7
  have k8 : w3.cell? ⟨bA, 8, none⟩ = some (.int .i64 0) := hA.cell 8
  have g8 := hA.free 8
  have k9 : w3.cell? ⟨bA, 9, none⟩ = some (.int .i64 0) := hA.cell 9
  have g9 := hA.free 9
  have k10 : w3.cell? ⟨bA, 10, none⟩ = some (.int .i64 0) := hA.cell 10
  have g10 := hA.free 10
  have k11 : w3.cell? ⟨bA, 11, none⟩ = some (.int .i64 0) := hA.cell 11
  have g11 := hA.free 11
  have k12 : w3.cell? ⟨bA, 12, none⟩ = some (.int .i64 0) := hA.cell 12
  have g12 := hA.free 12
  have k13 : w3.cell? ⟨bA, 13, none⟩ = some (.int .i64 0) := hA.cell 13
  have g13 := hA.free 13
  have k14 : w3.cell? ⟨bA, 14, none⟩ = some (.int .i64 0) := hA.cell 14
  have g14 := hA.free 14
  have k15 : w3.cell? ⟨bA, 15, none⟩ = some (.int .i64 0) := hA.cell 15
  have g15 := hA.free 15
  have k16 : w3.cell? ⟨bA, 16, none⟩ = some (.slice none 0 0) := hA.cell 16
  have g16 := hA.free 16
  have k17 : w3.cell? ⟨bA, 17, none⟩ = some (.int .i64 0) := hA.cell 17
  have g17 := hA.free 17
  have k18 : w3.cell? ⟨bA, 18, none⟩ = some (.int .i64 0) := hA.cell 18
  have g18 := hA.free 18
  have k19 : w3.cell? ⟨bA, 19, none⟩ = some (.int .i64 0) := hA.cell 19
  have g19 := hA.free 19
  have k20 : w3.cell? ⟨bA, 20, none⟩ = some (.int .i64 0) := hA.cell 20
  have g20 := hA.free 20
  have k21 : w3.cell? ⟨bA, 21, none⟩ = some (.int .i64 0) := hA.cell 21
  have g21 := hA.free 21
  have k22 : w3.cell? ⟨bA, 22, none⟩ = some (.int .i64 0) := hA.cell 22
  have g22 := hA.free 22
  have k23 : w3.cell? ⟨bA, 23, none⟩ = some (.int .i64 0) := hA.cell 23
  have g23 := hA.free 23
  have lt_k := hA.lt
  go_upto_region 18 with fail
  clear k0 g0 k1 g1 k2 g2 k3 g3 k4 g4 k5 g5 k6 g6 k7 g7 k8 g8 k9 g9 k10 g10 k11 g11 k12 g12 k13 g13 k14 g14 k15 g15 k16 g16 k17 g17 k18 g18 k19 g19 k20 g20 k21 g21 k22 g22 k23 g23 lt_k
  have hA2 : Blok (w3.setCell ⟨bA, 1, none⟩ (.string (bs T))) bA 36 #[.int .i64 1, .string (bs T), .int .i64 0, .int .i64 0, .int .i64 0, .int .i64 0, .int .i64 0, .int .i64 0, .int .i64 0, .int .i64 0, .int .i64 0, .int .i64 0, .int .i64 0, .int .i64 0, .int .i64 0, .int .i64 0, .slice none 0 0, .int .i64 0, .int .i64 0, .int .i64 0, .int .i64 0, .int .i64 0, .int .i64 0, .int .i64 0] := by exact (hA.set_ 1 (.string (bs T)))
  replace hX := (hX.far (p := ⟨bA, 1, none⟩) (by simp only; omega) (.string (bs T)))
  replace hR := (hR.far (p := ⟨bA, 1, none⟩) (by simp only; omega) (.string (bs T)))
  replace hB := (hB.setCell (p := ⟨bA, 1, none⟩) (by simp only; omega) (.string (bs T)))
  replace hs := hB.size
  clear hA
  have hA := hA2
  clear hA2
  generalize (w3.setCell ⟨bA, 1, none⟩ (.string (bs T))) = w4 at *
  have hF := setRow_heap w4 (w.heap.size + 1) #[.int .i64 0, .string ⟨#[]⟩, .int .i64 0, .int .i64 0, .int .i64 0, .int .i64 0, .int .i64 0, .int .i64 0, .int .i64 0, .int .i64 0, .int .i64 0, .int .i64 0, .int .i64 0, .int .i64 0, .int .i64 0, .int .i64 0, .slice none 0 0, .int .i64 0, .int .i64 0, .int .i64 0, .int .i64 0, .int .i64 0, .int .i64 0, .int .i64 0] #[.int .i64 1, .string (bs T), .int .i64 0, .int .i64 0, .int .i64 0, .int .i64 0, .int .i64 0, .int .i64 0, .int .i64 0, .int .i64 0, .int .i64 0, .int .i64 0, .int .i64 0, .int .i64 0, .int .i64 0, .int .i64 0, .slice none 0 0, .int .i64 0, .int .i64 0, .int .i64 0, .int .i64 0, .int .i64 0, .int .i64 0, .int .i64 0] 36 (0, 0) hR
  have hWf := below_setRow hB (g := w.heap.size + 1) (by omega) #[.int .i64 1, .string (bs T), .int .i64 0, .int .i64 0, .int .i64 0, .int .i64 0, .int .i64 0, .int .i64 0, .int .i64 0, .int .i64 0, .int .i64 0, .int .i64 0, .int .i64 0, .int .i64 0, .int .i64 0, .int .i64 0, .slice none 0 0, .int .i64 0, .int .i64 0, .int .i64 0, .int .i64 0, .int .i64 0, .int .i64 0, .int .i64 0]
  have hgw := grown_setRow w4 (w.heap.size + 1) #[.int .i64 1, .string (bs T), .int .i64 0, .int .i64 0, .int .i64 0, .int .i64 0, .int .i64 0, .int .i64 0, .int .i64 0, .int .i64 0, .int .i64 0, .int .i64 0, .int .i64 0, .int .i64 0, .int .i64 0, .int .i64 0, .slice none 0 0, .int .i64 0, .int .i64 0, .int .i64 0, .int .i64 0, .int .i64 0, .int .i64 0, .int .i64 0]
  have hA' := hA
  have hR' := hR
  go_wp2_with (first | (refine wpList_load_row (by rfl) 36 (.tmp 3) (by rfl) bA (by rfl) 36 #[.int .i64 1, .string (bs T), .int .i64 0, .int .i64 0, .int .i64 0, .int .i64 0, .int .i64 0, .int .i64 0, .int .i64 0, .int .i64 0, .int .i64 0, .int .i64 0, .int .i64 0, .int .i64 0, .int .i64 0, .int .i64 0, .slice none 0 0, .int .i64 0, .int .i64 0, .int .i64 0, .int .i64 0, .int .i64 0, .int .i64 0, .int .i64 0] (0, 0) _ hA' Tryd.underlying36 rfl (by kernel_rfl) ?_) | (refine wpList_store_row (by rfl) 36 (.tmp 2) (.tmp 79) (by rfl) (w.heap.size + 1) #[.int .i64 1, .string (bs T), .int .i64 0, .int .i64 0, .int .i64 0, .int .i64 0, .int .i64 0, .int .i64 0, .int .i64 0, .int .i64 0, .int .i64 0, .int .i64 0, .int .i64 0, .int .i64 0, .int .i64 0, .int .i64 0, .slice none 0 0, .int .i64 0, .int .i64 0, .int .i64 0, .int .i64 0, .int .i64 0, .int .i64 0, .int .i64 0] (by rfl) (by rfl) 36 #[.int .i64 0, .string ⟨#[]⟩, .int .i64 0, .int .i64 0, .int .i64 0, .int .i64 0, .int .i64 0, .int .i64 0, .int .i64 0, .int .i64 0, .int .i64 0, .int .i64 0, .int .i64 0, .int .i64 0, .int .i64 0, .int .i64 0, .slice none 0 0, .int .i64 0, .int .i64 0, .int .i64 0, .int .i64 0, .int .i64 0, .int .i64 0, .int .i64 0] hR' (by kernel_rfl) rfl (by simp [Value.oneCell']) ?_))
  refine bodyPost_ret (results_cell_row Tryd.results16 _ _ (w.heap.size + 1) 36 #[.int .i64 1, .string (bs T), .int .i64 0, .int .i64 0, .int .i64 0, .int .i64 0, .int .i64 0, .int .i64 0, .int .i64 0, .int .i64 0, .int .i64 0, .int .i64 0, .int .i64 0, .int .i64 0, .int .i64 0, .int .i64 0, .slice none 0 0, .int .i64 0, .int .i64 0, .int .i64 0, .int .i64 0, .int .i64 0, .int .i64 0, .int .i64 0] (0, 0) _ (by rfl) hF Tryd.underlying36 rfl (by kernel_rfl)) rfl ?_
  exact ⟨_, rfl, ⟨none, 0, 0, by rw [← HP.out]; rfl, by rw [← HP.out]; exact own_none _ _ _ _, by rw [← HP.out]; rfl⟩, hWf⟩
end Go.Proofs.YtggdomeeienjbaaDoor

/- Package script: act, kind 1. No condition but that bytes are bytes. -/
namespace Go.Proofs.YtggdomeeienjbaaDoor
open Go.ChangeShapes Go.WideShapes Go.ChangeAt Go.RowKit Go.Sort
set_option linter.unusedSimpArgs false
set_option linter.unusedVariables false
set_option maxHeartbeats 16000000 in
set_option maxRecDepth 100000 in
theorem sact_1 (b0 b1 b2 b3 b4 b5 b6 b7 b8 b9 : Nat) (w : World) (ht : TenTab w) (h0 : b0 < 256) (h1 : b1 < 256) (h2 : b2 < 256) (h3 : b3 < 256) (h4 : b4 < 256) (h5 : b5 < 256) (h6 : b6 < 256) (h7 : b7 < 256) (h8 : b8 < 256) (h9 : b9 < 256) (P : Pa) (hq : b0 % 7 = 1) (hP : (⟨2, [], dirF b1 b2 b3 b4 b5 b6 b7, 0, [], 0, 0, 0, 0, 0, 0, 0⟩ : Pa) = P) :
    Calls Tryd.prog 16 #[.agg #[.int .u8 (b0 : Nat), .int .u8 (b1 : Nat), .int .u8 (b2 : Nat), .int .u8 (b3 : Nat), .int .u8 (b4 : Nat), .int .u8 (b5 : Nat), .int .u8 (b6 : Nat), .int .u8 (b7 : Nat), .int .u8 (b8 : Nat), .int .u8 (b9 : Nat)]] w fun e w' => ∃ v, e = .returned v ∧ AV w.heap.size w' v P ∧ Below w.heap.size w w' := by
  have Eq0 : Hid (b0 % 7 = 1) := hq
  obtain ⟨D, eD⟩ : ∃ D, dirF b1 b2 b3 b4 b5 b6 b7 = D := ⟨_, rfl⟩
  rw [eD] at hP
  have ED := Lib.hid eD
  clear eD
  have HP := Lib.hid hP
  have TT := Lib.hid ht
  have H0 := Lib.hid h0
  have H1 := Lib.hid h1
  have H2 := Lib.hid h2
  have H3 := Lib.hid h3
  have H4 := Lib.hid h4
  have H5 := Lib.hid h5
  have H6 := Lib.hid h6
  have H7 := Lib.hid h7
  have H8 := Lib.hid h8
  have H9 := Lib.hid h9
  have vb1 : IntKind.i64.wrap (b1 : Int) = (b1 : Int) := IntWalk.i64_in _ (by omega)
  have vb3 : IntKind.i64.wrap (b3 : Int) = (b3 : Int) := IntWalk.i64_in _ (by omega)
  have vb5 : IntKind.i64.wrap (b5 : Int) = (b5 : Int) := IntWalk.i64_in _ (by omega)
  have v45 : IntKind.i64.wrap (4 * (b5 : Int)) = 4 * (b5 : Int) := IntWalk.i64_in _ (by omega)
  clear hP ht hq  h0 h1 h2 h3 h4 h5 h6 h7 h8 h9
  have hB : Below w.heap.size w ((w.alloc (.cells #[.int .u8 (b0 : Nat), .int .u8 (b1 : Nat), .int .u8 (b2 : Nat), .int .u8 (b3 : Nat), .int .u8 (b4 : Nat), .int .u8 (b5 : Nat), .int .u8 (b6 : Nat), .int .u8 (b7 : Nat), .int .u8 (b8 : Nat), .int .u8 (b9 : Nat)] 23)).alloc (.cells #[.int .i64 0, .string ⟨#[]⟩, .int .i64 0, .int .i64 0, .int .i64 0, .int .i64 0, .int .i64 0, .int .i64 0, .int .i64 0, .int .i64 0, .int .i64 0, .int .i64 0, .int .i64 0, .int .i64 0, .int .i64 0, .int .i64 0, .slice none 0 0, .int .i64 0, .int .i64 0, .int .i64 0, .int .i64 0, .int .i64 0, .int .i64 0, .int .i64 0] 36)) := by (repeat (first | exact Below.refl _ _ | refine Below.alloc ?_ (by first | omega | (simp; done) | (simp; omega)) _ | refine Below.setCell ?_ (by first | omega | (simp; done) | (simp; omega)) _ | refine Below.drew ?_))
  have hX := (Blok.new w 23 #[.int .u8 (b0 : Nat), .int .u8 (b1 : Nat), .int .u8 (b2 : Nat), .int .u8 (b3 : Nat), .int .u8 (b4 : Nat), .int .u8 (b5 : Nat), .int .u8 (b6 : Nat), .int .u8 (b7 : Nat), .int .u8 (b8 : Nat), .int .u8 (b9 : Nat)]).alloc (.cells #[.int .i64 0, .string ⟨#[]⟩, .int .i64 0, .int .i64 0, .int .i64 0, .int .i64 0, .int .i64 0, .int .i64 0, .int .i64 0, .int .i64 0, .int .i64 0, .int .i64 0, .int .i64 0, .int .i64 0, .int .i64 0, .int .i64 0, .slice none 0 0, .int .i64 0, .int .i64 0, .int .i64 0, .int .i64 0, .int .i64 0, .int .i64 0, .int .i64 0] 36)
  have hR := Blok.new (w.alloc (.cells #[.int .u8 (b0 : Nat), .int .u8 (b1 : Nat), .int .u8 (b2 : Nat), .int .u8 (b3 : Nat), .int .u8 (b4 : Nat), .int .u8 (b5 : Nat), .int .u8 (b6 : Nat), .int .u8 (b7 : Nat), .int .u8 (b8 : Nat), .int .u8 (b9 : Nat)] 23)) 36 #[.int .i64 0, .string ⟨#[]⟩, .int .i64 0, .int .i64 0, .int .i64 0, .int .i64 0, .int .i64 0, .int .i64 0, .int .i64 0, .int .i64 0, .int .i64 0, .int .i64 0, .int .i64 0, .int .i64 0, .int .i64 0, .int .i64 0, .slice none 0 0, .int .i64 0, .int .i64 0, .int .i64 0, .int .i64 0, .int .i64 0, .int .i64 0, .int .i64 0]
  rw [World.size_alloc] at hR
  have hs := hB.size
  go_enter Tryd.func16, Tryd.ntmps16
  go_upto_region 1 with fail
  generalize ((w.alloc (.cells #[.int .u8 (b0 : Nat), .int .u8 (b1 : Nat), .int .u8 (b2 : Nat), .int .u8 (b3 : Nat), .int .u8 (b4 : Nat), .int .u8 (b5 : Nat), .int .u8 (b6 : Nat), .int .u8 (b7 : Nat), .int .u8 (b8 : Nat), .int .u8 (b9 : Nat)] 23)).alloc (.cells #[.int .i64 0, .string ⟨#[]⟩, .int .i64 0, .int .i64 0, .int .i64 0, .int .i64 0, .int .i64 0, .int .i64 0, .int .i64 0, .int .i64 0, .int .i64 0, .int .i64 0, .int .i64 0, .int .i64 0, .int .i64 0, .int .i64 0, .slice none 0 0, .int .i64 0, .int .i64 0, .int .i64 0, .int .i64 0, .int .i64 0, .int .i64 0, .int .i64 0] 36)) = w1 at *
  have x0 : w1.cell? ⟨w.heap.size, 0, none⟩ = some (.int .u8 (b0 : Nat)) := hX.cell 0
  have lt_x := hX.lt
  go_upto_region 2 with (first | (refine wpList_store_row (by rfl) 36 (.tmp 3) (.tmp 8) (by rfl) w1.heap.size #[.int .i64 2, .string ⟨#[]⟩, .int .i64 0, .int .i64 0, .int .i64 0, .int .i64 0, .int .i64 0, .int .i64 0, .int .i64 0, .int .i64 0, .int .i64 0, .int .i64 0, .int .i64 0, .int .i64 0, .int .i64 0, .int .i64 0, .slice none 0 0, .int .i64 0, .int .i64 0, .int .i64 0, .int .i64 0, .int .i64 0, .int .i64 0, .int .i64 0] (by rfl) (by rfl) 36 #[.int .i64 0, .string ⟨#[]⟩, .int .i64 0, .int .i64 0, .int .i64 0, .int .i64 0, .int .i64 0, .int .i64 0, .int .i64 0, .int .i64 0, .int .i64 0, .int .i64 0, .int .i64 0, .int .i64 0, .int .i64 0, .int .i64 0, .slice none 0 0, .int .i64 0, .int .i64 0, .int .i64 0, .int .i64 0, .int .i64 0, .int .i64 0, .int .i64 0] (heap_alloc_new _ _) (by kernel_rfl) rfl (by simp [Value.oneCell']) ?_; rw [World.setRow_alloc_new]) | (refine wpList_build_run _ (by rfl) 36 #[(0, .tmp 7)] (by rfl) #[(0, .int .i64 2)] (by rfl) (bact 2 _) ?_) | (go_at_call 19; first | ((with_reducible refine Calls.mono (rest_any b0 7 _ 7 k7_ _ H0.out (by decide) (by decide) Eq0.out) ?_); rintro e9 w9 ⟨rfl, rfl⟩)))
  clear x0 lt_x
  have hA := Blok.new w1 36 #[.int .i64 2, .string ⟨#[]⟩, .int .i64 0, .int .i64 0, .int .i64 0, .int .i64 0, .int .i64 0, .int .i64 0, .int .i64 0, .int .i64 0, .int .i64 0, .int .i64 0, .int .i64 0, .int .i64 0, .int .i64 0, .int .i64 0, .slice none 0 0, .int .i64 0, .int .i64 0, .int .i64 0, .int .i64 0, .int .i64 0, .int .i64 0, .int .i64 0]
  have hb : Below w1.heap.size w1 (w1.alloc (.cells #[.int .i64 2, .string ⟨#[]⟩, .int .i64 0, .int .i64 0, .int .i64 0, .int .i64 0, .int .i64 0, .int .i64 0, .int .i64 0, .int .i64 0, .int .i64 0, .int .i64 0, .int .i64 0, .int .i64 0, .int .i64 0, .int .i64 0, .slice none 0 0, .int .i64 0, .int .i64 0, .int .i64 0, .int .i64 0, .int .i64 0, .int .i64 0, .int .i64 0] 36)) := by (repeat (first | exact Below.refl _ _ | refine Below.alloc ?_ (by first | omega | (simp; done) | (simp; omega)) _ | refine Below.setCell ?_ (by first | omega | (simp; done) | (simp; omega)) _ | refine Below.drew ?_))
  have lR := hR.lt
  replace hX := hX.below hb hX.lt
  replace hR := hR.below hb hR.lt
  replace hB := hB.trans (hb.mono hs)
  replace hs := hB.size
  clear hb
  generalize w1.alloc (.cells #[.int .i64 2, .string ⟨#[]⟩, .int .i64 0, .int .i64 0, .int .i64 0, .int .i64 0, .int .i64 0, .int .i64 0, .int .i64 0, .int .i64 0, .int .i64 0, .int .i64 0, .int .i64 0, .int .i64 0, .int .i64 0, .int .i64 0, .slice none 0 0, .int .i64 0, .int .i64 0, .int .i64 0, .int .i64 0, .int .i64 0, .int .i64 0, .int .i64 0] 36) = w2 at *
  generalize w1.heap.size = bA at *
  have k0 : w2.cell? ⟨bA, 0, none⟩ = some (.int .i64 2) := hA.cell 0
  have k1 : w2.cell? ⟨bA, 1, none⟩ = some (.string ⟨#[]⟩) := hA.cell 1
  have k2 : w2.cell? ⟨bA, 2, none⟩ = some (.int .i64 0) := hA.cell 2
  have k3 : w2.cell? ⟨bA, 3, none⟩ = some (.int .i64 0) := hA.cell 3
  have k4 : w2.cell? ⟨bA, 4, none⟩ = some (.int .i64 0) := hA.cell 4
  have k5 : w2.cell? ⟨bA, 5, none⟩ = some (.int .i64 0) := hA.cell 5
  have k6 : w2.cell? ⟨bA, 6, none⟩ = some (.int .i64 0) := hA.cell 6
  have k7 : w2.cell? ⟨bA, 7, none⟩ = some (.int .i64 0) := hA.cell 7
  have k8 : w2.cell? ⟨bA, 8, none⟩ = some (.int .i64 0) := hA.cell 8
  have k9 : w2.cell? ⟨bA, 9, none⟩ = some (.int .i64 0) := hA.cell 9
  have k10 : w2.cell? ⟨bA, 10, none⟩ = some (.int .i64 0) := hA.cell 10
  have k11 : w2.cell? ⟨bA, 11, none⟩ = some (.int .i64 0) := hA.cell 11
  have k12 : w2.cell? ⟨bA, 12, none⟩ = some (.int .i64 0) := hA.cell 12
  have k13 : w2.cell? ⟨bA, 13, none⟩ = some (.int .i64 0) := hA.cell 13
  have k14 : w2.cell? ⟨bA, 14, none⟩ = some (.int .i64 0) := hA.cell 14
  have k15 : w2.cell? ⟨bA, 15, none⟩ = some (.int .i64 0) := hA.cell 15
  have k16 : w2.cell? ⟨bA, 16, none⟩ = some (.slice none 0 0) := hA.cell 16
  have k17 : w2.cell? ⟨bA, 17, none⟩ = some (.int .i64 0) := hA.cell 17
  have k18 : w2.cell? ⟨bA, 18, none⟩ = some (.int .i64 0) := hA.cell 18
  have k19 : w2.cell? ⟨bA, 19, none⟩ = some (.int .i64 0) := hA.cell 19
  have k20 : w2.cell? ⟨bA, 20, none⟩ = some (.int .i64 0) := hA.cell 20
  have k21 : w2.cell? ⟨bA, 21, none⟩ = some (.int .i64 0) := hA.cell 21
  have k22 : w2.cell? ⟨bA, 22, none⟩ = some (.int .i64 0) := hA.cell 22
  have k23 : w2.cell? ⟨bA, 23, none⟩ = some (.int .i64 0) := hA.cell 23
  have lt_k := hA.lt
  go_upto_region 6 with fail
  clear k0 k1 k2 k3 k4 k5 k6 k7 k8 k9 k10 k11 k12 k13 k14 k15 k16 k17 k18 k19 k20 k21 k22 k23 lt_k
  have x0 : w2.cell? ⟨w.heap.size, 0, none⟩ = some (.int .u8 (b0 : Nat)) := hX.cell 0
  have x1 : w2.cell? ⟨w.heap.size, 1, none⟩ = some (.int .u8 (b1 : Nat)) := hX.cell 1
  have x2 : w2.cell? ⟨w.heap.size, 2, none⟩ = some (.int .u8 (b2 : Nat)) := hX.cell 2
  have x3 : w2.cell? ⟨w.heap.size, 3, none⟩ = some (.int .u8 (b3 : Nat)) := hX.cell 3
  have x4 : w2.cell? ⟨w.heap.size, 4, none⟩ = some (.int .u8 (b4 : Nat)) := hX.cell 4
  have x5 : w2.cell? ⟨w.heap.size, 5, none⟩ = some (.int .u8 (b5 : Nat)) := hX.cell 5
  have x6 : w2.cell? ⟨w.heap.size, 6, none⟩ = some (.int .u8 (b6 : Nat)) := hX.cell 6
  have x7 : w2.cell? ⟨w.heap.size, 7, none⟩ = some (.int .u8 (b7 : Nat)) := hX.cell 7
  have x8 : w2.cell? ⟨w.heap.size, 8, none⟩ = some (.int .u8 (b8 : Nat)) := hX.cell 8
  have x9 : w2.cell? ⟨w.heap.size, 9, none⟩ = some (.int .u8 (b9 : Nat)) := hX.cell 9
  have lt_x := hX.lt
  go_wp2_with fail
  refine (sdir_any b0 b1 b2 b3 b4 b5 b6 b7 b8 b9 w2 H0.out H1.out H2.out H3.out H4.out H5.out H6.out H7.out H8.out H9.out D ED.out).mono ?_
  rintro e w3 ⟨rfl, hb⟩
  clear x0 x1 x2 x3 x4 x5 x6 x7 x8 x9 lt_x
  replace hX := hX.below hb hX.lt
  replace hR := hR.below hb hR.lt
  replace hA := hA.below hb hA.lt
  replace hB := hB.trans (hb.mono hs)
  replace hs := hB.size
  clear hb
  have hth := hA.there_ 2 13 (by simp)
  go_upto_region 18 with (refine wpList_store_mid (by rfl) 31 (.tmp 20) (.tmp 19) (by rfl) bA 2 #[.int .i64 D.op, .int .i64 D.kd, .int .i64 D.id, .int .i64 D.fr, .int .i64 D.tn, .int .i64 D.st, .int .i64 D.en, .int .i64 D.rt, .int .i64 D.rf, .int .i64 D.rn, .int .i64 D.rs, .int .i64 D.re, .int .i64 D.ro] (by rfl) (by rfl) hth (by kernel_rfl) (by simp [Value.oneCell']) ?_; obtain ⟨w4, hw4⟩ : ∃ x, x = w3.setCells bA 2 (#[.int .i64 D.op, .int .i64 D.kd, .int .i64 D.id, .int .i64 D.fr, .int .i64 D.tn, .int .i64 D.st, .int .i64 D.en, .int .i64 D.rt, .int .i64 D.rf, .int .i64 D.rn, .int .i64 D.rs, .int .i64 D.re, .int .i64 D.ro] : Array Value).toList := ⟨_, rfl⟩; rw [← hw4])
  have hgs := grown_sets (b := bA) [.int .i64 D.op, .int .i64 D.kd, .int .i64 D.id, .int .i64 D.fr, .int .i64 D.tn, .int .i64 D.st, .int .i64 D.en, .int .i64 D.rt, .int .i64 D.rf, .int .i64 D.rn, .int .i64 D.rs, .int .i64 D.re, .int .i64 D.ro] 2 w3
  have hA2 : Blok w4 bA 36 #[.int .i64 2, .string ⟨#[]⟩, .int .i64 D.op, .int .i64 D.kd, .int .i64 D.id, .int .i64 D.fr, .int .i64 D.tn, .int .i64 D.st, .int .i64 D.en, .int .i64 D.rt, .int .i64 D.rf, .int .i64 D.rn, .int .i64 D.rs, .int .i64 D.re, .int .i64 D.ro, .int .i64 0, .slice none 0 0, .int .i64 0, .int .i64 0, .int .i64 0, .int .i64 0, .int .i64 0, .int .i64 0, .int .i64 0] := by rw [hw4]; exact Blok.sets [.int .i64 D.op, .int .i64 D.kd, .int .i64 D.id, .int .i64 D.fr, .int .i64 D.tn, .int .i64 D.st, .int .i64 D.en, .int .i64 D.rt, .int .i64 D.rf, .int .i64 D.rn, .int .i64 D.rs, .int .i64 D.re, .int .i64 D.ro] 2 w3 [.int .i64 2, .string ⟨#[]⟩, .int .i64 0, .int .i64 0, .int .i64 0, .int .i64 0, .int .i64 0, .int .i64 0, .int .i64 0, .int .i64 0, .int .i64 0, .int .i64 0, .int .i64 0, .int .i64 0, .int .i64 0, .int .i64 0, .slice none 0 0, .int .i64 0, .int .i64 0, .int .i64 0, .int .i64 0, .int .i64 0, .int .i64 0, .int .i64 0] hA (by simp)
  have hX2 : Blok w4 w.heap.size 23 #[.int .u8 (b0 : Nat), .int .u8 (b1 : Nat), .int .u8 (b2 : Nat), .int .u8 (b3 : Nat), .int .u8 (b4 : Nat), .int .u8 (b5 : Nat), .int .u8 (b6 : Nat), .int .u8 (b7 : Nat), .int .u8 (b8 : Nat), .int .u8 (b9 : Nat)] := by rw [hw4]; exact hX.grown hgs (by simp only [ne_eq, Option.some.injEq]; omega)
  have hR2 : Blok w4 (w.heap.size + 1) 36 #[.int .i64 0, .string ⟨#[]⟩, .int .i64 0, .int .i64 0, .int .i64 0, .int .i64 0, .int .i64 0, .int .i64 0, .int .i64 0, .int .i64 0, .int .i64 0, .int .i64 0, .int .i64 0, .int .i64 0, .int .i64 0, .int .i64 0, .slice none 0 0, .int .i64 0, .int .i64 0, .int .i64 0, .int .i64 0, .int .i64 0, .int .i64 0, .int .i64 0] := by rw [hw4]; exact hR.grown hgs (by simp only [ne_eq, Option.some.injEq]; omega)
  have hB2 : Below w.heap.size w w4 := by rw [hw4]; exact hB.grown hgs hs (fun k hk => by injection hk with hk; omega)
  clear hgs
  clear hA hX hR hB hs hth hw4
  have hA := hA2
  have hX := hX2
  have hR := hR2
  have hB := hB2
  have hs := hB.size
  clear hA2 hX2 hR2 hB2
  have hF := setRow_heap w4 (w.heap.size + 1) #[.int .i64 0, .string ⟨#[]⟩, .int .i64 0, .int .i64 0, .int .i64 0, .int .i64 0, .int .i64 0, .int .i64 0, .int .i64 0, .int .i64 0, .int .i64 0, .int .i64 0, .int .i64 0, .int .i64 0, .int .i64 0, .int .i64 0, .slice none 0 0, .int .i64 0, .int .i64 0, .int .i64 0, .int .i64 0, .int .i64 0, .int .i64 0, .int .i64 0] #[.int .i64 2, .string ⟨#[]⟩, .int .i64 D.op, .int .i64 D.kd, .int .i64 D.id, .int .i64 D.fr, .int .i64 D.tn, .int .i64 D.st, .int .i64 D.en, .int .i64 D.rt, .int .i64 D.rf, .int .i64 D.rn, .int .i64 D.rs, .int .i64 D.re, .int .i64 D.ro, .int .i64 0, .slice none 0 0, .int .i64 0, .int .i64 0, .int .i64 0, .int .i64 0, .int .i64 0, .int .i64 0, .int .i64 0] 36 (0, 0) hR
  have hWf := below_setRow hB (g := w.heap.size + 1) (by omega) #[.int .i64 2, .string ⟨#[]⟩, .int .i64 D.op, .int .i64 D.kd, .int .i64 D.id, .int .i64 D.fr, .int .i64 D.tn, .int .i64 D.st, .int .i64 D.en, .int .i64 D.rt, .int .i64 D.rf, .int .i64 D.rn, .int .i64 D.rs, .int .i64 D.re, .int .i64 D.ro, .int .i64 0, .slice none 0 0, .int .i64 0, .int .i64 0, .int .i64 0, .int .i64 0, .int .i64 0, .int .i64 0, .int .i64 0]
  have hgw := grown_setRow w4 (w.heap.size + 1) #[.int .i64 2, .string ⟨#[]⟩, .int .i64 D.op, .int .i64 D.kd, .int .i64 D.id, .int .i64 D.fr, .int .i64 D.tn, .int .i64 D.st, .int .i64 D.en, .int .i64 D.rt, .int .i64 D.rf, .int .i64 D.rn, .int .i64 D.rs, .int .i64 D.re, .int .i64 D.ro, .int .i64 0, .slice none 0 0, .int .i64 0, .int .i64 0, .int .i64 0, .int .i64 0, .int .i64 0, .int .i64 0, .int .i64 0]
  have hA' := hA
  have hR' := hR
  go_wp2_with (first | (refine wpList_load_row (by rfl) 36 (.tmp 3) (by rfl) bA (by rfl) 36 #[.int .i64 2, .string ⟨#[]⟩, .int .i64 D.op, .int .i64 D.kd, .int .i64 D.id, .int .i64 D.fr, .int .i64 D.tn, .int .i64 D.st, .int .i64 D.en, .int .i64 D.rt, .int .i64 D.rf, .int .i64 D.rn, .int .i64 D.rs, .int .i64 D.re, .int .i64 D.ro, .int .i64 0, .slice none 0 0, .int .i64 0, .int .i64 0, .int .i64 0, .int .i64 0, .int .i64 0, .int .i64 0, .int .i64 0] (0, 0) _ hA' Tryd.underlying36 rfl (by kernel_rfl) ?_) | (refine wpList_store_row (by rfl) 36 (.tmp 2) (.tmp 79) (by rfl) (w.heap.size + 1) #[.int .i64 2, .string ⟨#[]⟩, .int .i64 D.op, .int .i64 D.kd, .int .i64 D.id, .int .i64 D.fr, .int .i64 D.tn, .int .i64 D.st, .int .i64 D.en, .int .i64 D.rt, .int .i64 D.rf, .int .i64 D.rn, .int .i64 D.rs, .int .i64 D.re, .int .i64 D.ro, .int .i64 0, .slice none 0 0, .int .i64 0, .int .i64 0, .int .i64 0, .int .i64 0, .int .i64 0, .int .i64 0, .int .i64 0] (by rfl) (by rfl) 36 #[.int .i64 0, .string ⟨#[]⟩, .int .i64 0, .int .i64 0, .int .i64 0, .int .i64 0, .int .i64 0, .int .i64 0, .int .i64 0, .int .i64 0, .int .i64 0, .int .i64 0, .int .i64 0, .int .i64 0, .int .i64 0, .int .i64 0, .slice none 0 0, .int .i64 0, .int .i64 0, .int .i64 0, .int .i64 0, .int .i64 0, .int .i64 0, .int .i64 0] hR' (by kernel_rfl) rfl (by simp [Value.oneCell']) ?_))
  refine bodyPost_ret (results_cell_row Tryd.results16 _ _ (w.heap.size + 1) 36 #[.int .i64 2, .string ⟨#[]⟩, .int .i64 D.op, .int .i64 D.kd, .int .i64 D.id, .int .i64 D.fr, .int .i64 D.tn, .int .i64 D.st, .int .i64 D.en, .int .i64 D.rt, .int .i64 D.rf, .int .i64 D.rn, .int .i64 D.rs, .int .i64 D.re, .int .i64 D.ro, .int .i64 0, .slice none 0 0, .int .i64 0, .int .i64 0, .int .i64 0, .int .i64 0, .int .i64 0, .int .i64 0, .int .i64 0] (0, 0) _ (by rfl) hF Tryd.underlying36 rfl (by kernel_rfl)) rfl ?_
  exact ⟨_, rfl, ⟨none, 0, 0, by rw [← HP.out]; rfl, by rw [← HP.out]; exact own_none _ _ _ _, by rw [← HP.out]; rfl⟩, hWf⟩
end Go.Proofs.YtggdomeeienjbaaDoor

/- Package script: act, kind 2. No condition but that bytes are bytes. -/
namespace Go.Proofs.YtggdomeeienjbaaDoor
open Go.ChangeShapes Go.WideShapes Go.ChangeAt Go.RowKit Go.Sort
set_option linter.unusedSimpArgs false
set_option linter.unusedVariables false
set_option maxHeartbeats 16000000 in
set_option maxRecDepth 100000 in
theorem sact_2 (b0 b1 b2 b3 b4 b5 b6 b7 b8 b9 : Nat) (w : World) (ht : TenTab w) (h0 : b0 < 256) (h1 : b1 < 256) (h2 : b2 < 256) (h3 : b3 < 256) (h4 : b4 < 256) (h5 : b5 < 256) (h6 : b6 < 256) (h7 : b7 < 256) (h8 : b8 < 256) (h9 : b9 < 256) (P : Pa) (hq : b0 % 7 = 2) (hP : (⟨3, [], zeroDr, (b1 : Nat), [], 0, 0, 0, 0, 0, 0, 0⟩ : Pa) = P) :
    Calls Tryd.prog 16 #[.agg #[.int .u8 (b0 : Nat), .int .u8 (b1 : Nat), .int .u8 (b2 : Nat), .int .u8 (b3 : Nat), .int .u8 (b4 : Nat), .int .u8 (b5 : Nat), .int .u8 (b6 : Nat), .int .u8 (b7 : Nat), .int .u8 (b8 : Nat), .int .u8 (b9 : Nat)]] w fun e w' => ∃ v, e = .returned v ∧ AV w.heap.size w' v P ∧ Below w.heap.size w w' := by
  have Eq0 : Hid (b0 % 7 = 2) := hq
  have HP := Lib.hid hP
  have TT := Lib.hid ht
  have H0 := Lib.hid h0
  have H1 := Lib.hid h1
  have H2 := Lib.hid h2
  have H3 := Lib.hid h3
  have H4 := Lib.hid h4
  have H5 := Lib.hid h5
  have H6 := Lib.hid h6
  have H7 := Lib.hid h7
  have H8 := Lib.hid h8
  have H9 := Lib.hid h9
  have vb1 : IntKind.i64.wrap (b1 : Int) = (b1 : Int) := IntWalk.i64_in _ (by omega)
  have vb3 : IntKind.i64.wrap (b3 : Int) = (b3 : Int) := IntWalk.i64_in _ (by omega)
  have vb5 : IntKind.i64.wrap (b5 : Int) = (b5 : Int) := IntWalk.i64_in _ (by omega)
  have v45 : IntKind.i64.wrap (4 * (b5 : Int)) = 4 * (b5 : Int) := IntWalk.i64_in _ (by omega)
  clear hP ht hq  h0 h1 h2 h3 h4 h5 h6 h7 h8 h9
  have hB : Below w.heap.size w ((w.alloc (.cells #[.int .u8 (b0 : Nat), .int .u8 (b1 : Nat), .int .u8 (b2 : Nat), .int .u8 (b3 : Nat), .int .u8 (b4 : Nat), .int .u8 (b5 : Nat), .int .u8 (b6 : Nat), .int .u8 (b7 : Nat), .int .u8 (b8 : Nat), .int .u8 (b9 : Nat)] 23)).alloc (.cells #[.int .i64 0, .string ⟨#[]⟩, .int .i64 0, .int .i64 0, .int .i64 0, .int .i64 0, .int .i64 0, .int .i64 0, .int .i64 0, .int .i64 0, .int .i64 0, .int .i64 0, .int .i64 0, .int .i64 0, .int .i64 0, .int .i64 0, .slice none 0 0, .int .i64 0, .int .i64 0, .int .i64 0, .int .i64 0, .int .i64 0, .int .i64 0, .int .i64 0] 36)) := by (repeat (first | exact Below.refl _ _ | refine Below.alloc ?_ (by first | omega | (simp; done) | (simp; omega)) _ | refine Below.setCell ?_ (by first | omega | (simp; done) | (simp; omega)) _ | refine Below.drew ?_))
  have hX := (Blok.new w 23 #[.int .u8 (b0 : Nat), .int .u8 (b1 : Nat), .int .u8 (b2 : Nat), .int .u8 (b3 : Nat), .int .u8 (b4 : Nat), .int .u8 (b5 : Nat), .int .u8 (b6 : Nat), .int .u8 (b7 : Nat), .int .u8 (b8 : Nat), .int .u8 (b9 : Nat)]).alloc (.cells #[.int .i64 0, .string ⟨#[]⟩, .int .i64 0, .int .i64 0, .int .i64 0, .int .i64 0, .int .i64 0, .int .i64 0, .int .i64 0, .int .i64 0, .int .i64 0, .int .i64 0, .int .i64 0, .int .i64 0, .int .i64 0, .int .i64 0, .slice none 0 0, .int .i64 0, .int .i64 0, .int .i64 0, .int .i64 0, .int .i64 0, .int .i64 0, .int .i64 0] 36)
  have hR := Blok.new (w.alloc (.cells #[.int .u8 (b0 : Nat), .int .u8 (b1 : Nat), .int .u8 (b2 : Nat), .int .u8 (b3 : Nat), .int .u8 (b4 : Nat), .int .u8 (b5 : Nat), .int .u8 (b6 : Nat), .int .u8 (b7 : Nat), .int .u8 (b8 : Nat), .int .u8 (b9 : Nat)] 23)) 36 #[.int .i64 0, .string ⟨#[]⟩, .int .i64 0, .int .i64 0, .int .i64 0, .int .i64 0, .int .i64 0, .int .i64 0, .int .i64 0, .int .i64 0, .int .i64 0, .int .i64 0, .int .i64 0, .int .i64 0, .int .i64 0, .int .i64 0, .slice none 0 0, .int .i64 0, .int .i64 0, .int .i64 0, .int .i64 0, .int .i64 0, .int .i64 0, .int .i64 0]
  rw [World.size_alloc] at hR
  have hs := hB.size
  go_enter Tryd.func16, Tryd.ntmps16
  go_upto_region 1 with fail
  generalize ((w.alloc (.cells #[.int .u8 (b0 : Nat), .int .u8 (b1 : Nat), .int .u8 (b2 : Nat), .int .u8 (b3 : Nat), .int .u8 (b4 : Nat), .int .u8 (b5 : Nat), .int .u8 (b6 : Nat), .int .u8 (b7 : Nat), .int .u8 (b8 : Nat), .int .u8 (b9 : Nat)] 23)).alloc (.cells #[.int .i64 0, .string ⟨#[]⟩, .int .i64 0, .int .i64 0, .int .i64 0, .int .i64 0, .int .i64 0, .int .i64 0, .int .i64 0, .int .i64 0, .int .i64 0, .int .i64 0, .int .i64 0, .int .i64 0, .int .i64 0, .int .i64 0, .slice none 0 0, .int .i64 0, .int .i64 0, .int .i64 0, .int .i64 0, .int .i64 0, .int .i64 0, .int .i64 0] 36)) = w1 at *
  have x0 : w1.cell? ⟨w.heap.size, 0, none⟩ = some (.int .u8 (b0 : Nat)) := hX.cell 0
  have lt_x := hX.lt
  go_upto_region 2 with (first | (refine wpList_store_row (by rfl) 36 (.tmp 3) (.tmp 8) (by rfl) w1.heap.size #[.int .i64 3, .string ⟨#[]⟩, .int .i64 0, .int .i64 0, .int .i64 0, .int .i64 0, .int .i64 0, .int .i64 0, .int .i64 0, .int .i64 0, .int .i64 0, .int .i64 0, .int .i64 0, .int .i64 0, .int .i64 0, .int .i64 0, .slice none 0 0, .int .i64 0, .int .i64 0, .int .i64 0, .int .i64 0, .int .i64 0, .int .i64 0, .int .i64 0] (by rfl) (by rfl) 36 #[.int .i64 0, .string ⟨#[]⟩, .int .i64 0, .int .i64 0, .int .i64 0, .int .i64 0, .int .i64 0, .int .i64 0, .int .i64 0, .int .i64 0, .int .i64 0, .int .i64 0, .int .i64 0, .int .i64 0, .int .i64 0, .int .i64 0, .slice none 0 0, .int .i64 0, .int .i64 0, .int .i64 0, .int .i64 0, .int .i64 0, .int .i64 0, .int .i64 0] (heap_alloc_new _ _) (by kernel_rfl) rfl (by simp [Value.oneCell']) ?_; rw [World.setRow_alloc_new]) | (refine wpList_build_run _ (by rfl) 36 #[(0, .tmp 7)] (by rfl) #[(0, .int .i64 3)] (by rfl) (bact 3 _) ?_) | (go_at_call 19; first | ((with_reducible refine Calls.mono (rest_any b0 7 _ 7 k7_ _ H0.out (by decide) (by decide) Eq0.out) ?_); rintro e9 w9 ⟨rfl, rfl⟩)))
  clear x0 lt_x
  have hA := Blok.new w1 36 #[.int .i64 3, .string ⟨#[]⟩, .int .i64 0, .int .i64 0, .int .i64 0, .int .i64 0, .int .i64 0, .int .i64 0, .int .i64 0, .int .i64 0, .int .i64 0, .int .i64 0, .int .i64 0, .int .i64 0, .int .i64 0, .int .i64 0, .slice none 0 0, .int .i64 0, .int .i64 0, .int .i64 0, .int .i64 0, .int .i64 0, .int .i64 0, .int .i64 0]
  have hb : Below w1.heap.size w1 (w1.alloc (.cells #[.int .i64 3, .string ⟨#[]⟩, .int .i64 0, .int .i64 0, .int .i64 0, .int .i64 0, .int .i64 0, .int .i64 0, .int .i64 0, .int .i64 0, .int .i64 0, .int .i64 0, .int .i64 0, .int .i64 0, .int .i64 0, .int .i64 0, .slice none 0 0, .int .i64 0, .int .i64 0, .int .i64 0, .int .i64 0, .int .i64 0, .int .i64 0, .int .i64 0] 36)) := by (repeat (first | exact Below.refl _ _ | refine Below.alloc ?_ (by first | omega | (simp; done) | (simp; omega)) _ | refine Below.setCell ?_ (by first | omega | (simp; done) | (simp; omega)) _ | refine Below.drew ?_))
  have lR := hR.lt
  replace hX := hX.below hb hX.lt
  replace hR := hR.below hb hR.lt
  replace hB := hB.trans (hb.mono hs)
  replace hs := hB.size
  clear hb
  generalize w1.alloc (.cells #[.int .i64 3, .string ⟨#[]⟩, .int .i64 0, .int .i64 0, .int .i64 0, .int .i64 0, .int .i64 0, .int .i64 0, .int .i64 0, .int .i64 0, .int .i64 0, .int .i64 0, .int .i64 0, .int .i64 0, .int .i64 0, .int .i64 0, .slice none 0 0, .int .i64 0, .int .i64 0, .int .i64 0, .int .i64 0, .int .i64 0, .int .i64 0, .int .i64 0] 36) = w2 at *
  generalize w1.heap.size = bA at *
  have k0 : w2.cell? ⟨bA, 0, none⟩ = some (.int .i64 3) := hA.cell 0
  have k1 : w2.cell? ⟨bA, 1, none⟩ = some (.string ⟨#[]⟩) := hA.cell 1
  have k2 : w2.cell? ⟨bA, 2, none⟩ = some (.int .i64 0) := hA.cell 2
  have k3 : w2.cell? ⟨bA, 3, none⟩ = some (.int .i64 0) := hA.cell 3
  have k4 : w2.cell? ⟨bA, 4, none⟩ = some (.int .i64 0) := hA.cell 4
  have k5 : w2.cell? ⟨bA, 5, none⟩ = some (.int .i64 0) := hA.cell 5
  have k6 : w2.cell? ⟨bA, 6, none⟩ = some (.int .i64 0) := hA.cell 6
  have k7 : w2.cell? ⟨bA, 7, none⟩ = some (.int .i64 0) := hA.cell 7
  have k8 : w2.cell? ⟨bA, 8, none⟩ = some (.int .i64 0) := hA.cell 8
  have k9 : w2.cell? ⟨bA, 9, none⟩ = some (.int .i64 0) := hA.cell 9
  have k10 : w2.cell? ⟨bA, 10, none⟩ = some (.int .i64 0) := hA.cell 10
  have k11 : w2.cell? ⟨bA, 11, none⟩ = some (.int .i64 0) := hA.cell 11
  have k12 : w2.cell? ⟨bA, 12, none⟩ = some (.int .i64 0) := hA.cell 12
  have k13 : w2.cell? ⟨bA, 13, none⟩ = some (.int .i64 0) := hA.cell 13
  have k14 : w2.cell? ⟨bA, 14, none⟩ = some (.int .i64 0) := hA.cell 14
  have k15 : w2.cell? ⟨bA, 15, none⟩ = some (.int .i64 0) := hA.cell 15
  have k16 : w2.cell? ⟨bA, 16, none⟩ = some (.slice none 0 0) := hA.cell 16
  have k17 : w2.cell? ⟨bA, 17, none⟩ = some (.int .i64 0) := hA.cell 17
  have k18 : w2.cell? ⟨bA, 18, none⟩ = some (.int .i64 0) := hA.cell 18
  have k19 : w2.cell? ⟨bA, 19, none⟩ = some (.int .i64 0) := hA.cell 19
  have k20 : w2.cell? ⟨bA, 20, none⟩ = some (.int .i64 0) := hA.cell 20
  have k21 : w2.cell? ⟨bA, 21, none⟩ = some (.int .i64 0) := hA.cell 21
  have k22 : w2.cell? ⟨bA, 22, none⟩ = some (.int .i64 0) := hA.cell 22
  have k23 : w2.cell? ⟨bA, 23, none⟩ = some (.int .i64 0) := hA.cell 23
  have lt_k := hA.lt
  go_upto_region 8 with fail
  clear k0 k1 k2 k3 k4 k5 k6 k7 k8 k9 k10 k11 k12 k13 k14 k15 k16 k17 k18 k19 k20 k21 k22 k23 lt_k
  have x1 : w2.cell? ⟨w.heap.size, 1, none⟩ = some (.int .u8 (b1 : Nat)) := hX.cell 1
  have lt_x := hX.lt
  have k0 : w2.cell? ⟨bA, 0, none⟩ = some (.int .i64 3) := hA.cell 0
  have g0 := hA.free 0
  have k1 : w2.cell? ⟨bA, 1, none⟩ = some (.string ⟨#[]⟩) := hA.cell 1
  have g1 := hA.free 1
  have k2 : w2.cell? ⟨bA, 2, none⟩ = some (.int .i64 0) := hA.cell 2
  have g2 := hA.free 2
  have k3 : w2.cell? ⟨bA, 3, none⟩ = some (.int .i64 0) := hA.cell 3
  have g3 := hA.free 3
  have k4 : w2.cell? ⟨bA, 4, none⟩ = some (.int .i64 0) := hA.cell 4
  have g4 := hA.free 4
  have k5 : w2.cell? ⟨bA, 5, none⟩ = some (.int .i64 0) := hA.cell 5
  have g5 := hA.free 5
  have k6 : w2.cell? ⟨bA, 6, none⟩ = some (.int .i64 0) := hA.cell 6
  have g6 := hA.free 6
  have k7 : w2.cell? ⟨bA, 7, none⟩ = some (.int .i64 0) := hA.cell 7
  have g7 := hA.free 7
  have k8 : w2.cell? ⟨bA, 8, none⟩ = some (.int .i64 0) := hA.cell 8
  have g8 := hA.free 8
  have k9 : w2.cell? ⟨bA, 9, none⟩ = some (.int .i64 0) := hA.cell 9
  have g9 := hA.free 9
  have k10 : w2.cell? ⟨bA, 10, none⟩ = some (.int .i64 0) := hA.cell 10
  have g10 := hA.free 10
  have k11 : w2.cell? ⟨bA, 11, none⟩ = some (.int .i64 0) := hA.cell 11
  have g11 := hA.free 11
  have k12 : w2.cell? ⟨bA, 12, none⟩ = some (.int .i64 0) := hA.cell 12
  have g12 := hA.free 12
  have k13 : w2.cell? ⟨bA, 13, none⟩ = some (.int .i64 0) := hA.cell 13
  have g13 := hA.free 13
  have k14 : w2.cell? ⟨bA, 14, none⟩ = some (.int .i64 0) := hA.cell 14
  have g14 := hA.free 14
  have k15 : w2.cell? ⟨bA, 15, none⟩ = some (.int .i64 0) := hA.cell 15
  have g15 := hA.free 15
  have k16 : w2.cell? ⟨bA, 16, none⟩ = some (.slice none 0 0) := hA.cell 16
  have g16 := hA.free 16
  have k17 : w2.cell? ⟨bA, 17, none⟩ = some (.int .i64 0) := hA.cell 17
  have g17 := hA.free 17
  have k18 : w2.cell? ⟨bA, 18, none⟩ = some (.int .i64 0) := hA.cell 18
  have g18 := hA.free 18
  have k19 : w2.cell? ⟨bA, 19, none⟩ = some (.int .i64 0) := hA.cell 19
  have g19 := hA.free 19
  have k20 : w2.cell? ⟨bA, 20, none⟩ = some (.int .i64 0) := hA.cell 20
  have g20 := hA.free 20
  have k21 : w2.cell? ⟨bA, 21, none⟩ = some (.int .i64 0) := hA.cell 21
  have g21 := hA.free 21
  have k22 : w2.cell? ⟨bA, 22, none⟩ = some (.int .i64 0) := hA.cell 22
  have g22 := hA.free 22
  have k23 : w2.cell? ⟨bA, 23, none⟩ = some (.int .i64 0) := hA.cell 23
  have g23 := hA.free 23
  have lt_k := hA.lt
  go_upto_region 18 with fail
  clear k0 g0 k1 g1 k2 g2 k3 g3 k4 g4 k5 g5 k6 g6 k7 g7 k8 g8 k9 g9 k10 g10 k11 g11 k12 g12 k13 g13 k14 g14 k15 g15 k16 g16 k17 g17 k18 g18 k19 g19 k20 g20 k21 g21 k22 g22 k23 g23 lt_k
  clear x1 lt_x
  have hA2 : Blok (w2.setCell ⟨bA, 15, none⟩ (.int .i64 (b1 : Int))) bA 36 #[.int .i64 3, .string ⟨#[]⟩, .int .i64 0, .int .i64 0, .int .i64 0, .int .i64 0, .int .i64 0, .int .i64 0, .int .i64 0, .int .i64 0, .int .i64 0, .int .i64 0, .int .i64 0, .int .i64 0, .int .i64 0, .int .i64 (b1 : Int), .slice none 0 0, .int .i64 0, .int .i64 0, .int .i64 0, .int .i64 0, .int .i64 0, .int .i64 0, .int .i64 0] := by exact (hA.set_ 15 (.int .i64 (b1 : Int)))
  replace hX := (hX.far (p := ⟨bA, 15, none⟩) (by simp only; omega) (.int .i64 (b1 : Int)))
  replace hR := (hR.far (p := ⟨bA, 15, none⟩) (by simp only; omega) (.int .i64 (b1 : Int)))
  replace hB := (hB.setCell (p := ⟨bA, 15, none⟩) (by simp only; omega) (.int .i64 (b1 : Int)))
  replace hs := hB.size
  clear hA
  have hA := hA2
  clear hA2
  generalize (w2.setCell ⟨bA, 15, none⟩ (.int .i64 (b1 : Int))) = w4 at *
  have hF := setRow_heap w4 (w.heap.size + 1) #[.int .i64 0, .string ⟨#[]⟩, .int .i64 0, .int .i64 0, .int .i64 0, .int .i64 0, .int .i64 0, .int .i64 0, .int .i64 0, .int .i64 0, .int .i64 0, .int .i64 0, .int .i64 0, .int .i64 0, .int .i64 0, .int .i64 0, .slice none 0 0, .int .i64 0, .int .i64 0, .int .i64 0, .int .i64 0, .int .i64 0, .int .i64 0, .int .i64 0] #[.int .i64 3, .string ⟨#[]⟩, .int .i64 0, .int .i64 0, .int .i64 0, .int .i64 0, .int .i64 0, .int .i64 0, .int .i64 0, .int .i64 0, .int .i64 0, .int .i64 0, .int .i64 0, .int .i64 0, .int .i64 0, .int .i64 (b1 : Int), .slice none 0 0, .int .i64 0, .int .i64 0, .int .i64 0, .int .i64 0, .int .i64 0, .int .i64 0, .int .i64 0] 36 (0, 0) hR
  have hWf := below_setRow hB (g := w.heap.size + 1) (by omega) #[.int .i64 3, .string ⟨#[]⟩, .int .i64 0, .int .i64 0, .int .i64 0, .int .i64 0, .int .i64 0, .int .i64 0, .int .i64 0, .int .i64 0, .int .i64 0, .int .i64 0, .int .i64 0, .int .i64 0, .int .i64 0, .int .i64 (b1 : Int), .slice none 0 0, .int .i64 0, .int .i64 0, .int .i64 0, .int .i64 0, .int .i64 0, .int .i64 0, .int .i64 0]
  have hgw := grown_setRow w4 (w.heap.size + 1) #[.int .i64 3, .string ⟨#[]⟩, .int .i64 0, .int .i64 0, .int .i64 0, .int .i64 0, .int .i64 0, .int .i64 0, .int .i64 0, .int .i64 0, .int .i64 0, .int .i64 0, .int .i64 0, .int .i64 0, .int .i64 0, .int .i64 (b1 : Int), .slice none 0 0, .int .i64 0, .int .i64 0, .int .i64 0, .int .i64 0, .int .i64 0, .int .i64 0, .int .i64 0]
  have hA' := hA
  have hR' := hR
  go_wp2_with (first | (refine wpList_load_row (by rfl) 36 (.tmp 3) (by rfl) bA (by rfl) 36 #[.int .i64 3, .string ⟨#[]⟩, .int .i64 0, .int .i64 0, .int .i64 0, .int .i64 0, .int .i64 0, .int .i64 0, .int .i64 0, .int .i64 0, .int .i64 0, .int .i64 0, .int .i64 0, .int .i64 0, .int .i64 0, .int .i64 (b1 : Int), .slice none 0 0, .int .i64 0, .int .i64 0, .int .i64 0, .int .i64 0, .int .i64 0, .int .i64 0, .int .i64 0] (0, 0) _ hA' Tryd.underlying36 rfl (by kernel_rfl) ?_) | (refine wpList_store_row (by rfl) 36 (.tmp 2) (.tmp 79) (by rfl) (w.heap.size + 1) #[.int .i64 3, .string ⟨#[]⟩, .int .i64 0, .int .i64 0, .int .i64 0, .int .i64 0, .int .i64 0, .int .i64 0, .int .i64 0, .int .i64 0, .int .i64 0, .int .i64 0, .int .i64 0, .int .i64 0, .int .i64 0, .int .i64 (b1 : Int), .slice none 0 0, .int .i64 0, .int .i64 0, .int .i64 0, .int .i64 0, .int .i64 0, .int .i64 0, .int .i64 0] (by rfl) (by rfl) 36 #[.int .i64 0, .string ⟨#[]⟩, .int .i64 0, .int .i64 0, .int .i64 0, .int .i64 0, .int .i64 0, .int .i64 0, .int .i64 0, .int .i64 0, .int .i64 0, .int .i64 0, .int .i64 0, .int .i64 0, .int .i64 0, .int .i64 0, .slice none 0 0, .int .i64 0, .int .i64 0, .int .i64 0, .int .i64 0, .int .i64 0, .int .i64 0, .int .i64 0] hR' (by kernel_rfl) rfl (by simp [Value.oneCell']) ?_))
  refine bodyPost_ret (results_cell_row Tryd.results16 _ _ (w.heap.size + 1) 36 #[.int .i64 3, .string ⟨#[]⟩, .int .i64 0, .int .i64 0, .int .i64 0, .int .i64 0, .int .i64 0, .int .i64 0, .int .i64 0, .int .i64 0, .int .i64 0, .int .i64 0, .int .i64 0, .int .i64 0, .int .i64 0, .int .i64 (b1 : Int), .slice none 0 0, .int .i64 0, .int .i64 0, .int .i64 0, .int .i64 0, .int .i64 0, .int .i64 0, .int .i64 0] (0, 0) _ (by rfl) hF Tryd.underlying36 rfl (by kernel_rfl)) rfl ?_
  exact ⟨_, rfl, ⟨none, 0, 0, by rw [← HP.out]; rfl, by rw [← HP.out]; exact own_none _ _ _ _, by rw [← HP.out]; rfl⟩, hWf⟩
end Go.Proofs.YtggdomeeienjbaaDoor

/- Package script: act, kind 3. No condition but that bytes are bytes. -/
namespace Go.Proofs.YtggdomeeienjbaaDoor
open Go.ChangeShapes Go.WideShapes Go.ChangeAt Go.RowKit Go.Sort
set_option linter.unusedSimpArgs false
set_option linter.unusedVariables false
set_option maxHeartbeats 16000000 in
set_option maxRecDepth 100000 in
theorem sact_3 (b0 b1 b2 b3 b4 b5 b6 b7 b8 b9 : Nat) (w : World) (ht : TenTab w) (h0 : b0 < 256) (h1 : b1 < 256) (h2 : b2 < 256) (h3 : b3 < 256) (h4 : b4 < 256) (h5 : b5 < 256) (h6 : b6 < 256) (h7 : b7 < 256) (h8 : b8 < 256) (h9 : b9 < 256) (P : Pa) (hq : b0 % 7 = 3) (hP : (⟨4, [], zeroDr, 0, idsF b1 b2 b3, (b4 % 4 : Nat), (b5 : Nat), 0, 0, 0, 0, 0⟩ : Pa) = P) :
    Calls Tryd.prog 16 #[.agg #[.int .u8 (b0 : Nat), .int .u8 (b1 : Nat), .int .u8 (b2 : Nat), .int .u8 (b3 : Nat), .int .u8 (b4 : Nat), .int .u8 (b5 : Nat), .int .u8 (b6 : Nat), .int .u8 (b7 : Nat), .int .u8 (b8 : Nat), .int .u8 (b9 : Nat)]] w fun e w' => ∃ v, e = .returned v ∧ AV w.heap.size w' v P ∧ Below w.heap.size w w' := by
  have Eq0 : Hid (b0 % 7 = 3) := hq
  obtain ⟨q4, eq4⟩ : ∃ q, b4 % 4 = q := ⟨_, rfl⟩
  have lq4 : q4 < 4 := by rw [← eq4]; exact Nat.mod_lt _ (by omega)
  rw [eq4] at hP
  have Eq4 := Lib.hid eq4
  obtain ⟨L, eL⟩ : ∃ L, idsF b1 b2 b3 = L := ⟨_, rfl⟩
  rw [eL] at hP
  have EL := Lib.hid eL
  have hLL : Hid (L.length ≤ 2) := by have h := idsF_len b1 b2 b3; rw [eL] at h; exact h
  clear eL
  have HP := Lib.hid hP
  have TT := Lib.hid ht
  have H0 := Lib.hid h0
  have H1 := Lib.hid h1
  have H2 := Lib.hid h2
  have H3 := Lib.hid h3
  have H4 := Lib.hid h4
  have H5 := Lib.hid h5
  have H6 := Lib.hid h6
  have H7 := Lib.hid h7
  have H8 := Lib.hid h8
  have H9 := Lib.hid h9
  have vb1 : IntKind.i64.wrap (b1 : Int) = (b1 : Int) := IntWalk.i64_in _ (by omega)
  have vb3 : IntKind.i64.wrap (b3 : Int) = (b3 : Int) := IntWalk.i64_in _ (by omega)
  have vb5 : IntKind.i64.wrap (b5 : Int) = (b5 : Int) := IntWalk.i64_in _ (by omega)
  have v45 : IntKind.i64.wrap (4 * (b5 : Int)) = 4 * (b5 : Int) := IntWalk.i64_in _ (by omega)
  clear hP ht hq eq4 lq4 h0 h1 h2 h3 h4 h5 h6 h7 h8 h9
  have hB : Below w.heap.size w ((w.alloc (.cells #[.int .u8 (b0 : Nat), .int .u8 (b1 : Nat), .int .u8 (b2 : Nat), .int .u8 (b3 : Nat), .int .u8 (b4 : Nat), .int .u8 (b5 : Nat), .int .u8 (b6 : Nat), .int .u8 (b7 : Nat), .int .u8 (b8 : Nat), .int .u8 (b9 : Nat)] 23)).alloc (.cells #[.int .i64 0, .string ⟨#[]⟩, .int .i64 0, .int .i64 0, .int .i64 0, .int .i64 0, .int .i64 0, .int .i64 0, .int .i64 0, .int .i64 0, .int .i64 0, .int .i64 0, .int .i64 0, .int .i64 0, .int .i64 0, .int .i64 0, .slice none 0 0, .int .i64 0, .int .i64 0, .int .i64 0, .int .i64 0, .int .i64 0, .int .i64 0, .int .i64 0] 36)) := by (repeat (first | exact Below.refl _ _ | refine Below.alloc ?_ (by first | omega | (simp; done) | (simp; omega)) _ | refine Below.setCell ?_ (by first | omega | (simp; done) | (simp; omega)) _ | refine Below.drew ?_))
  have hX := (Blok.new w 23 #[.int .u8 (b0 : Nat), .int .u8 (b1 : Nat), .int .u8 (b2 : Nat), .int .u8 (b3 : Nat), .int .u8 (b4 : Nat), .int .u8 (b5 : Nat), .int .u8 (b6 : Nat), .int .u8 (b7 : Nat), .int .u8 (b8 : Nat), .int .u8 (b9 : Nat)]).alloc (.cells #[.int .i64 0, .string ⟨#[]⟩, .int .i64 0, .int .i64 0, .int .i64 0, .int .i64 0, .int .i64 0, .int .i64 0, .int .i64 0, .int .i64 0, .int .i64 0, .int .i64 0, .int .i64 0, .int .i64 0, .int .i64 0, .int .i64 0, .slice none 0 0, .int .i64 0, .int .i64 0, .int .i64 0, .int .i64 0, .int .i64 0, .int .i64 0, .int .i64 0] 36)
  have hR := Blok.new (w.alloc (.cells #[.int .u8 (b0 : Nat), .int .u8 (b1 : Nat), .int .u8 (b2 : Nat), .int .u8 (b3 : Nat), .int .u8 (b4 : Nat), .int .u8 (b5 : Nat), .int .u8 (b6 : Nat), .int .u8 (b7 : Nat), .int .u8 (b8 : Nat), .int .u8 (b9 : Nat)] 23)) 36 #[.int .i64 0, .string ⟨#[]⟩, .int .i64 0, .int .i64 0, .int .i64 0, .int .i64 0, .int .i64 0, .int .i64 0, .int .i64 0, .int .i64 0, .int .i64 0, .int .i64 0, .int .i64 0, .int .i64 0, .int .i64 0, .int .i64 0, .slice none 0 0, .int .i64 0, .int .i64 0, .int .i64 0, .int .i64 0, .int .i64 0, .int .i64 0, .int .i64 0]
  rw [World.size_alloc] at hR
  have hs := hB.size
  go_enter Tryd.func16, Tryd.ntmps16
  go_upto_region 1 with fail
  generalize ((w.alloc (.cells #[.int .u8 (b0 : Nat), .int .u8 (b1 : Nat), .int .u8 (b2 : Nat), .int .u8 (b3 : Nat), .int .u8 (b4 : Nat), .int .u8 (b5 : Nat), .int .u8 (b6 : Nat), .int .u8 (b7 : Nat), .int .u8 (b8 : Nat), .int .u8 (b9 : Nat)] 23)).alloc (.cells #[.int .i64 0, .string ⟨#[]⟩, .int .i64 0, .int .i64 0, .int .i64 0, .int .i64 0, .int .i64 0, .int .i64 0, .int .i64 0, .int .i64 0, .int .i64 0, .int .i64 0, .int .i64 0, .int .i64 0, .int .i64 0, .int .i64 0, .slice none 0 0, .int .i64 0, .int .i64 0, .int .i64 0, .int .i64 0, .int .i64 0, .int .i64 0, .int .i64 0] 36)) = w1 at *
  have x0 : w1.cell? ⟨w.heap.size, 0, none⟩ = some (.int .u8 (b0 : Nat)) := hX.cell 0
  have lt_x := hX.lt
  go_upto_region 2 with (first | (refine wpList_store_row (by rfl) 36 (.tmp 3) (.tmp 8) (by rfl) w1.heap.size #[.int .i64 4, .string ⟨#[]⟩, .int .i64 0, .int .i64 0, .int .i64 0, .int .i64 0, .int .i64 0, .int .i64 0, .int .i64 0, .int .i64 0, .int .i64 0, .int .i64 0, .int .i64 0, .int .i64 0, .int .i64 0, .int .i64 0, .slice none 0 0, .int .i64 0, .int .i64 0, .int .i64 0, .int .i64 0, .int .i64 0, .int .i64 0, .int .i64 0] (by rfl) (by rfl) 36 #[.int .i64 0, .string ⟨#[]⟩, .int .i64 0, .int .i64 0, .int .i64 0, .int .i64 0, .int .i64 0, .int .i64 0, .int .i64 0, .int .i64 0, .int .i64 0, .int .i64 0, .int .i64 0, .int .i64 0, .int .i64 0, .int .i64 0, .slice none 0 0, .int .i64 0, .int .i64 0, .int .i64 0, .int .i64 0, .int .i64 0, .int .i64 0, .int .i64 0] (heap_alloc_new _ _) (by kernel_rfl) rfl (by simp [Value.oneCell']) ?_; rw [World.setRow_alloc_new]) | (refine wpList_build_run _ (by rfl) 36 #[(0, .tmp 7)] (by rfl) #[(0, .int .i64 4)] (by rfl) (bact 4 _) ?_) | (go_at_call 19; first | ((with_reducible refine Calls.mono (rest_any b0 7 _ 7 k7_ _ H0.out (by decide) (by decide) Eq0.out) ?_); rintro e9 w9 ⟨rfl, rfl⟩) | ((with_reducible refine Calls.mono (rest_any b4 4 _ 4 k4_ _ H4.out (by decide) (by decide) Eq4.out) ?_); rintro e9 w9 ⟨rfl, rfl⟩)))
  clear x0 lt_x
  have hA := Blok.new w1 36 #[.int .i64 4, .string ⟨#[]⟩, .int .i64 0, .int .i64 0, .int .i64 0, .int .i64 0, .int .i64 0, .int .i64 0, .int .i64 0, .int .i64 0, .int .i64 0, .int .i64 0, .int .i64 0, .int .i64 0, .int .i64 0, .int .i64 0, .slice none 0 0, .int .i64 0, .int .i64 0, .int .i64 0, .int .i64 0, .int .i64 0, .int .i64 0, .int .i64 0]
  have hb : Below w1.heap.size w1 (w1.alloc (.cells #[.int .i64 4, .string ⟨#[]⟩, .int .i64 0, .int .i64 0, .int .i64 0, .int .i64 0, .int .i64 0, .int .i64 0, .int .i64 0, .int .i64 0, .int .i64 0, .int .i64 0, .int .i64 0, .int .i64 0, .int .i64 0, .int .i64 0, .slice none 0 0, .int .i64 0, .int .i64 0, .int .i64 0, .int .i64 0, .int .i64 0, .int .i64 0, .int .i64 0] 36)) := by (repeat (first | exact Below.refl _ _ | refine Below.alloc ?_ (by first | omega | (simp; done) | (simp; omega)) _ | refine Below.setCell ?_ (by first | omega | (simp; done) | (simp; omega)) _ | refine Below.drew ?_))
  have lR := hR.lt
  replace hX := hX.below hb hX.lt
  replace hR := hR.below hb hR.lt
  replace hB := hB.trans (hb.mono hs)
  replace hs := hB.size
  clear hb
  generalize w1.alloc (.cells #[.int .i64 4, .string ⟨#[]⟩, .int .i64 0, .int .i64 0, .int .i64 0, .int .i64 0, .int .i64 0, .int .i64 0, .int .i64 0, .int .i64 0, .int .i64 0, .int .i64 0, .int .i64 0, .int .i64 0, .int .i64 0, .int .i64 0, .slice none 0 0, .int .i64 0, .int .i64 0, .int .i64 0, .int .i64 0, .int .i64 0, .int .i64 0, .int .i64 0] 36) = w2 at *
  generalize w1.heap.size = bA at *
  have k0 : w2.cell? ⟨bA, 0, none⟩ = some (.int .i64 4) := hA.cell 0
  have k1 : w2.cell? ⟨bA, 1, none⟩ = some (.string ⟨#[]⟩) := hA.cell 1
  have k2 : w2.cell? ⟨bA, 2, none⟩ = some (.int .i64 0) := hA.cell 2
  have k3 : w2.cell? ⟨bA, 3, none⟩ = some (.int .i64 0) := hA.cell 3
  have k4 : w2.cell? ⟨bA, 4, none⟩ = some (.int .i64 0) := hA.cell 4
  have k5 : w2.cell? ⟨bA, 5, none⟩ = some (.int .i64 0) := hA.cell 5
  have k6 : w2.cell? ⟨bA, 6, none⟩ = some (.int .i64 0) := hA.cell 6
  have k7 : w2.cell? ⟨bA, 7, none⟩ = some (.int .i64 0) := hA.cell 7
  have k8 : w2.cell? ⟨bA, 8, none⟩ = some (.int .i64 0) := hA.cell 8
  have k9 : w2.cell? ⟨bA, 9, none⟩ = some (.int .i64 0) := hA.cell 9
  have k10 : w2.cell? ⟨bA, 10, none⟩ = some (.int .i64 0) := hA.cell 10
  have k11 : w2.cell? ⟨bA, 11, none⟩ = some (.int .i64 0) := hA.cell 11
  have k12 : w2.cell? ⟨bA, 12, none⟩ = some (.int .i64 0) := hA.cell 12
  have k13 : w2.cell? ⟨bA, 13, none⟩ = some (.int .i64 0) := hA.cell 13
  have k14 : w2.cell? ⟨bA, 14, none⟩ = some (.int .i64 0) := hA.cell 14
  have k15 : w2.cell? ⟨bA, 15, none⟩ = some (.int .i64 0) := hA.cell 15
  have k16 : w2.cell? ⟨bA, 16, none⟩ = some (.slice none 0 0) := hA.cell 16
  have k17 : w2.cell? ⟨bA, 17, none⟩ = some (.int .i64 0) := hA.cell 17
  have k18 : w2.cell? ⟨bA, 18, none⟩ = some (.int .i64 0) := hA.cell 18
  have k19 : w2.cell? ⟨bA, 19, none⟩ = some (.int .i64 0) := hA.cell 19
  have k20 : w2.cell? ⟨bA, 20, none⟩ = some (.int .i64 0) := hA.cell 20
  have k21 : w2.cell? ⟨bA, 21, none⟩ = some (.int .i64 0) := hA.cell 21
  have k22 : w2.cell? ⟨bA, 22, none⟩ = some (.int .i64 0) := hA.cell 22
  have k23 : w2.cell? ⟨bA, 23, none⟩ = some (.int .i64 0) := hA.cell 23
  have lt_k := hA.lt
  go_upto_region 11 with fail
  clear k0 k1 k2 k3 k4 k5 k6 k7 k8 k9 k10 k11 k12 k13 k14 k15 k16 k17 k18 k19 k20 k21 k22 k23 lt_k
  have x0 : w2.cell? ⟨w.heap.size, 0, none⟩ = some (.int .u8 (b0 : Nat)) := hX.cell 0
  have x1 : w2.cell? ⟨w.heap.size, 1, none⟩ = some (.int .u8 (b1 : Nat)) := hX.cell 1
  have x2 : w2.cell? ⟨w.heap.size, 2, none⟩ = some (.int .u8 (b2 : Nat)) := hX.cell 2
  have x3 : w2.cell? ⟨w.heap.size, 3, none⟩ = some (.int .u8 (b3 : Nat)) := hX.cell 3
  have x4 : w2.cell? ⟨w.heap.size, 4, none⟩ = some (.int .u8 (b4 : Nat)) := hX.cell 4
  have x5 : w2.cell? ⟨w.heap.size, 5, none⟩ = some (.int .u8 (b5 : Nat)) := hX.cell 5
  have x6 : w2.cell? ⟨w.heap.size, 6, none⟩ = some (.int .u8 (b6 : Nat)) := hX.cell 6
  have x7 : w2.cell? ⟨w.heap.size, 7, none⟩ = some (.int .u8 (b7 : Nat)) := hX.cell 7
  have x8 : w2.cell? ⟨w.heap.size, 8, none⟩ = some (.int .u8 (b8 : Nat)) := hX.cell 8
  have x9 : w2.cell? ⟨w.heap.size, 9, none⟩ = some (.int .u8 (b9 : Nat)) := hX.cell 9
  have lt_x := hX.lt
  go_wp2_with fail
  refine (sids_any b0 b1 b2 b3 b4 b5 b6 b7 b8 b9 w2 H0.out H1.out H2.out H3.out H4.out H5.out H6.out H7.out H8.out H9.out L EL.out).mono ?_
  rintro e w3 ⟨v, rfl, hown, hb⟩
  clear x0 x1 x2 x3 x4 x5 x6 x7 x8 x9 lt_x
  have hown := own_down (base' := w.heap.size) hown hs
  replace hX := hX.below hb hX.lt
  replace hR := hR.below hb hR.lt
  replace hA := hA.below hb hA.lt
  replace hB := hB.trans (hb.mono hs)
  replace hs := hB.size
  clear hb
  obtain ⟨A5, c5, rfl⟩ := slice_of_own hown
  obtain ⟨n5, hn5⟩ : ∃ n, L.length = n := ⟨_, rfl⟩
  rw [hn5] at hown
  simp only [hn5]
  have HN5 := Lib.hid hn5
  clear hn5
  have hne := Blok.ne_own hown hA (by decide)
  have hne2 := Blok.ne_own hown hR (by decide)
  have k0 : w3.cell? ⟨bA, 0, none⟩ = some (.int .i64 4) := hA.cell 0
  have g0 := hA.free 0
  have k1 : w3.cell? ⟨bA, 1, none⟩ = some (.string ⟨#[]⟩) := hA.cell 1
  have g1 := hA.free 1
  have k2 : w3.cell? ⟨bA, 2, none⟩ = some (.int .i64 0) := hA.cell 2
  have g2 := hA.free 2
  have k3 : w3.cell? ⟨bA, 3, none⟩ = some (.int .i64 0) := hA.cell 3
  have g3 := hA.free 3
  have k4 : w3.cell? ⟨bA, 4, none⟩ = some (.int .i64 0) := hA.cell 4
  have g4 := hA.free 4
  have k5 : w3.cell? ⟨bA, 5, none⟩ = some (.int .i64 0) := hA.cell 5
  have g5 := hA.free 5
  have k6 : w3.cell? ⟨bA, 6, none⟩ = some (.int .i64 0) := hA.cell 6
  have g6 := hA.free 6
  have k7 : w3.cell? ⟨bA, 7, none⟩ = some (.int .i64 0) := hA.cell 7
  have g7 := hA.free 7
  have k8 : w3.cell? ⟨bA, 8, none⟩ = some (.int .i64 0) := hA.cell 8
  have g8 := hA.free 8
  have k9 : w3.cell? ⟨bA, 9, none⟩ = some (.int .i64 0) := hA.cell 9
  have g9 := hA.free 9
  have k10 : w3.cell? ⟨bA, 10, none⟩ = some (.int .i64 0) := hA.cell 10
  have g10 := hA.free 10
  have k11 : w3.cell? ⟨bA, 11, none⟩ = some (.int .i64 0) := hA.cell 11
  have g11 := hA.free 11
  have k12 : w3.cell? ⟨bA, 12, none⟩ = some (.int .i64 0) := hA.cell 12
  have g12 := hA.free 12
  have k13 : w3.cell? ⟨bA, 13, none⟩ = some (.int .i64 0) := hA.cell 13
  have g13 := hA.free 13
  have k14 : w3.cell? ⟨bA, 14, none⟩ = some (.int .i64 0) := hA.cell 14
  have g14 := hA.free 14
  have k15 : w3.cell? ⟨bA, 15, none⟩ = some (.int .i64 0) := hA.cell 15
  have g15 := hA.free 15
  have k16 : w3.cell? ⟨bA, 16, none⟩ = some (.slice none 0 0) := hA.cell 16
  have g16 := hA.free 16
  have k17 : w3.cell? ⟨bA, 17, none⟩ = some (.int .i64 0) := hA.cell 17
  have g17 := hA.free 17
  have k18 : w3.cell? ⟨bA, 18, none⟩ = some (.int .i64 0) := hA.cell 18
  have g18 := hA.free 18
  have k19 : w3.cell? ⟨bA, 19, none⟩ = some (.int .i64 0) := hA.cell 19
  have g19 := hA.free 19
  have k20 : w3.cell? ⟨bA, 20, none⟩ = some (.int .i64 0) := hA.cell 20
  have g20 := hA.free 20
  have k21 : w3.cell? ⟨bA, 21, none⟩ = some (.int .i64 0) := hA.cell 21
  have g21 := hA.free 21
  have k22 : w3.cell? ⟨bA, 22, none⟩ = some (.int .i64 0) := hA.cell 22
  have g22 := hA.free 22
  have k23 : w3.cell? ⟨bA, 23, none⟩ = some (.int .i64 0) := hA.cell 23
  have g23 := hA.free 23
  have lt_k := hA.lt
  go_upto_region 12 with fail
  clear k0 g0 k1 g1 k2 g2 k3 g3 k4 g4 k5 g5 k6 g6 k7 g7 k8 g8 k9 g9 k10 g10 k11 g11 k12 g12 k13 g13 k14 g14 k15 g15 k16 g16 k17 g17 k18 g18 k19 g19 k20 g20 k21 g21 k22 g22 k23 g23 lt_k
  have hown4 := ownsRow_setCell_other hown (a := ⟨bA, 16, none⟩) hne (.slice A5 n5 c5)
  clear hown
  have hown := hown4
  clear hown4
  have hA2 : Blok (w3.setCell ⟨bA, 16, none⟩ (.slice A5 n5 c5)) bA 36 #[.int .i64 4, .string ⟨#[]⟩, .int .i64 0, .int .i64 0, .int .i64 0, .int .i64 0, .int .i64 0, .int .i64 0, .int .i64 0, .int .i64 0, .int .i64 0, .int .i64 0, .int .i64 0, .int .i64 0, .int .i64 0, .int .i64 0, .slice A5 n5 c5, .int .i64 0, .int .i64 0, .int .i64 0, .int .i64 0, .int .i64 0, .int .i64 0, .int .i64 0] := by exact (hA.set_ 16 (.slice A5 n5 c5))
  replace hX := (hX.far (p := ⟨bA, 16, none⟩) (by simp only; omega) (.slice A5 n5 c5))
  replace hR := (hR.far (p := ⟨bA, 16, none⟩) (by simp only; omega) (.slice A5 n5 c5))
  replace hB := (hB.setCell (p := ⟨bA, 16, none⟩) (by simp only; omega) (.slice A5 n5 c5))
  replace hs := hB.size
  clear hA
  have hA := hA2
  clear hA2
  generalize (w3.setCell ⟨bA, 16, none⟩ (.slice A5 n5 c5)) = w4 at *
  refine gen_frame ?_
  intro a0 ha0
  try simp only [List.append]
  refine wp_region_frames rfl (by kernel_rfl) (by kernel_rfl) (fun V x w' => BM w4 bA 36 (fun u5 u6 => #[.int .i64 4, .string ⟨#[]⟩, .int .i64 0, .int .i64 0, .int .i64 0, .int .i64 0, .int .i64 0, .int .i64 0, .int .i64 0, .int .i64 0, .int .i64 0, .int .i64 0, .int .i64 0, .int .i64 0, .int .i64 0, .int .i64 0, .slice A5 n5 c5, u5, u6, .int .i64 0, .int .i64 0, .int .i64 0, .int .i64 0, .int .i64 0]) (.int .i64 (q4 : Nat)) (.int .i64 (b5 : Nat)) V w' ∧ (V.getD 0 true = true → x 0 = .pointer (some ⟨w.heap.size, 4, none⟩)) ∧ (V.getD 1 true = true → x 1 = .int .u8 (b4 : Nat)) ∧ (V.getD 2 true = true → x 2 = .int .i64 (q4 : Nat)) ∧ (V.getD 3 true = true → x 3 = .pointer (some ⟨w.heap.size, 5, none⟩)) ∧ (V.getD 4 true = true → x 4 = .int .u8 (b5 : Nat)) ∧ (V.getD 5 true = true → x 5 = .int .i64 (b5 : Nat)) ∧ (V.getD 6 true = true → x 6 = .pointer (some ⟨bA, 17, none⟩)) ∧ (V.getD 8 true = true → x 8 = .pointer (some ⟨bA, 18, none⟩))) ?_ ?_ ?_
  · intro x
    refine ⟨⟨Kept.of_below (Below.refl _ _).drew, _, _, hA, fun h => by simp at h, fun h => by simp at h⟩, ?_, ?_, ?_, ?_, ?_, ?_, ?_, ?_⟩ <;> exact fun h => by simp at h
  · intro V x b w' hbq hsz hF i hi hun haf hcl
    obtain ⟨hM, f0, f1, f2, f3, f4, f5, f6, f8⟩ := hF
    have hbe : b = putAll a0 [some 33, some 34, some 35, some 36, some 37, some 38, some 39, none, some 40, none] x 0 := hbq
    have hz0 : a0.tmps.size = 80 := by rw [ha0]; rfl
    have e1 : b.eval (.tmp 1) = .pointer (some ⟨w.heap.size, 0, none⟩) := by rw [hbe, eval_out _ _ _ (by decide), ha0]; rfl
    have t1 : b.tmps[1]?.getD undef = .pointer (some ⟨w.heap.size, 0, none⟩) := by simpa [Act.eval] using e1
    have e3 : b.eval (.tmp 3) = .pointer (some ⟨bA, 0, none⟩) := by rw [hbe, eval_out _ _ _ (by decide), ha0]; rfl
    have t3 : b.tmps[3]?.getD undef = .pointer (some ⟨bA, 0, none⟩) := by simpa [Act.eval] using e3
    have evc : ∀ v, b.eval (.const v) = v := fun _ => rfl
    clear hbq
    have hi' : i < 10 := hi
    clear hi
    obtain rfl | rfl | rfl | rfl | rfl | rfl | rfl | rfl | rfl | rfl : i = 0 ∨ i = 1 ∨ i = 2 ∨ i = 3 ∨ i = 4 ∨ i = 5 ∨ i = 6 ∨ i = 7 ∨ i = 8 ∨ i = 9 := by omega
    · refine wpOp_runs (v := .pointer (some ⟨w.heap.size, 4, none⟩)) rfl rfl (by simp [execOp, go_sem, t1]) ⟨_, _, rfl, rfl, ⟨hM.other 0 (by decide) (by decide), fun _ => upd_same _ _ _, kE f1 rfl, kE f2 rfl, kE f3 rfl, kE f4 rfl, kE f5 rfl, kE f6 rfl, kE f8 rfl⟩⟩
    · have d0 := getD_ft (haf _ rfl ⟨0, .data⟩ (by simp) rfl)
      have e33 : b.eval (.tmp 33) = .pointer (some ⟨w.heap.size, 4, none⟩) := by rw [hbe, eval_in _ _ _ 0 (by decide) rfl (by rw [hz0]; decide)]; exact f0 d0
      have t33 : b.tmps[33]?.getD undef = .pointer (some ⟨w.heap.size, 4, none⟩) := by have tv := e33; simpa only [Act.eval, Array.getD_eq_getD_getElem?] using tv
      have bq := hX.kept hM.kept (by show ¬ (w.heap.size = bA); omega)
      have n_0 : w'.cell? ⟨w.heap.size, 4, none⟩ = some (.int .u8 (b4 : Nat)) := bq.cell 4
      have lt_n := bq.lt
      refine wpOp_runs (v := .int .u8 (b4 : Nat)) rfl rfl (by simp [execOp, go_sem, t33, n_0]) ⟨_, _, rfl, rfl, ⟨hM.other 1 (by decide) (by decide), kE f0 rfl, fun _ => upd_same _ _ _, kE f2 rfl, kE f3 rfl, kE f4 rfl, kE f5 rfl, kE f6 rfl, kE f8 rfl⟩⟩
    · have d1 := getD_ft (haf _ rfl ⟨1, .data⟩ (by simp) rfl)
      have e34 : b.eval (.tmp 34) = .int .u8 (b4 : Nat) := by rw [hbe, eval_in _ _ _ 1 (by decide) rfl (by rw [hz0]; decide)]; exact f1 d1
      have t34 : b.tmps[34]?.getD undef = .int .u8 (b4 : Nat) := by have tv := e34; simpa only [Act.eval, Array.getD_eq_getD_getElem?] using tv
      refine wpOp_call_on rfl (by simp [Region.wanted]) 19 #[.tmp 34, .const (.int .i64 4)] _ rfl #[.int .u8 (b4 : Nat), .int .i64 4] (by simp [e34, evc]) Tryd.func19 rfl rfl ?_
      refine (rest_any b4 4 _ 4 k4_ _ H4.out (by decide) (by decide) Eq4.out).mono ?_
      rintro e9 w9 ⟨rfl, rfl⟩
      exact ⟨_, rfl, _, _, rfl, rfl, ⟨hM.other 2 (by decide) (by decide), kE f0 rfl, kE f1 rfl, fun _ => upd_same _ _ _, kE f3 rfl, kE f4 rfl, kE f5 rfl, kE f6 rfl, kE f8 rfl⟩⟩
    · refine wpOp_runs (v := .pointer (some ⟨w.heap.size, 5, none⟩)) rfl rfl (by simp [execOp, go_sem, t1]) ⟨_, _, rfl, rfl, ⟨hM.other 3 (by decide) (by decide), kE f0 rfl, kE f1 rfl, kE f2 rfl, fun _ => upd_same _ _ _, kE f4 rfl, kE f5 rfl, kE f6 rfl, kE f8 rfl⟩⟩
    · have d3 := getD_ft (haf _ rfl ⟨3, .data⟩ (by simp) rfl)
      have e36 : b.eval (.tmp 36) = .pointer (some ⟨w.heap.size, 5, none⟩) := by rw [hbe, eval_in _ _ _ 3 (by decide) rfl (by rw [hz0]; decide)]; exact f3 d3
      have t36 : b.tmps[36]?.getD undef = .pointer (some ⟨w.heap.size, 5, none⟩) := by have tv := e36; simpa only [Act.eval, Array.getD_eq_getD_getElem?] using tv
      have bq := hX.kept hM.kept (by show ¬ (w.heap.size = bA); omega)
      have n_0 : w'.cell? ⟨w.heap.size, 5, none⟩ = some (.int .u8 (b5 : Nat)) := bq.cell 5
      have lt_n := bq.lt
      refine wpOp_runs (v := .int .u8 (b5 : Nat)) rfl rfl (by simp [execOp, go_sem, t36, n_0]) ⟨_, _, rfl, rfl, ⟨hM.other 4 (by decide) (by decide), kE f0 rfl, kE f1 rfl, kE f2 rfl, kE f3 rfl, fun _ => upd_same _ _ _, kE f5 rfl, kE f6 rfl, kE f8 rfl⟩⟩
    · have d4 := getD_ft (haf _ rfl ⟨4, .data⟩ (by simp) rfl)
      have e37 : b.eval (.tmp 37) = .int .u8 (b5 : Nat) := by rw [hbe, eval_in _ _ _ 4 (by decide) rfl (by rw [hz0]; decide)]; exact f4 d4
      have t37 : b.tmps[37]?.getD undef = .int .u8 (b5 : Nat) := by have tv := e37; simpa only [Act.eval, Array.getD_eq_getD_getElem?] using tv
      refine wpOp_runs (v := .int .i64 (b5 : Nat)) rfl rfl (by simp [execOp, go_sem, t37, vb5]) ⟨_, _, rfl, rfl, ⟨hM.other 5 (by decide) (by decide), kE f0 rfl, kE f1 rfl, kE f2 rfl, kE f3 rfl, kE f4 rfl, fun _ => upd_same _ _ _, kE f6 rfl, kE f8 rfl⟩⟩
    · refine wpOp_runs (v := .pointer (some ⟨bA, 17, none⟩)) rfl rfl (by simp [execOp, go_sem, t3]) ⟨_, _, rfl, rfl, ⟨hM.other 6 (by decide) (by decide), kE f0 rfl, kE f1 rfl, kE f2 rfl, kE f3 rfl, kE f4 rfl, kE f5 rfl, fun _ => upd_same _ _ _, kE f8 rfl⟩⟩
    · have d6 := getD_ft (haf _ rfl ⟨6, .data⟩ (by simp) rfl)
      have e39 : b.eval (.tmp 39) = .pointer (some ⟨bA, 17, none⟩) := by rw [hbe, eval_in _ _ _ 6 (by decide) rfl (by rw [hz0]; decide)]; exact f6 d6
      have t39 : b.tmps[39]?.getD undef = .pointer (some ⟨bA, 17, none⟩) := by have tv := e39; simpa only [Act.eval, Array.getD_eq_getD_getElem?] using tv
      have d2 := getD_ft (haf _ rfl ⟨2, .data⟩ (by simp) rfl)
      have e35 : b.eval (.tmp 35) = .int .i64 (q4 : Nat) := by rw [hbe, eval_in _ _ _ 2 (by decide) rfl (by rw [hz0]; decide)]; exact f2 d2
      have t35 : b.tmps[35]?.getD undef = .int .i64 (q4 : Nat) := by have tv := e35; simpa only [Act.eval, Array.getD_eq_getD_getElem?] using tv
      obtain ⟨u5, u6, hbb, _, _⟩ := hM.box
      have n_0 : w'.cell? ⟨bA, 17, none⟩ = some u5 := hbb.cell 17
      have nf_0 := hbb.free 17
      have lt_n := hbb.lt
      refine wpOp_skips' (w' := w'.setCell ⟨bA, 17, none⟩ (.int .i64 (q4 : Nat))) rfl rfl (by simp [execOp, go_sem, t39, t35, n_0, nf_0, lt_n]) ⟨_, undef, rfl, rfl, ⟨hM.store7 17 (fun _ _ _ => rfl), kE f0 rfl, kE f1 rfl, kE f2 rfl, kE f3 rfl, kE f4 rfl, kE f5 rfl, kE f6 rfl, kE f8 rfl⟩⟩
    · refine wpOp_runs (v := .pointer (some ⟨bA, 18, none⟩)) rfl rfl (by simp [execOp, go_sem, t3]) ⟨_, _, rfl, rfl, ⟨hM.other 8 (by decide) (by decide), kE f0 rfl, kE f1 rfl, kE f2 rfl, kE f3 rfl, kE f4 rfl, kE f5 rfl, kE f6 rfl, fun _ => upd_same _ _ _⟩⟩
    · have d8 := getD_ft (haf _ rfl ⟨8, .data⟩ (by simp) rfl)
      have e40 : b.eval (.tmp 40) = .pointer (some ⟨bA, 18, none⟩) := by rw [hbe, eval_in _ _ _ 8 (by decide) rfl (by rw [hz0]; decide)]; exact f8 d8
      have t40 : b.tmps[40]?.getD undef = .pointer (some ⟨bA, 18, none⟩) := by have tv := e40; simpa only [Act.eval, Array.getD_eq_getD_getElem?] using tv
      have d5 := getD_ft (haf _ rfl ⟨5, .data⟩ (by simp) rfl)
      have e38 : b.eval (.tmp 38) = .int .i64 (b5 : Nat) := by rw [hbe, eval_in _ _ _ 5 (by decide) rfl (by rw [hz0]; decide)]; exact f5 d5
      have t38 : b.tmps[38]?.getD undef = .int .i64 (b5 : Nat) := by have tv := e38; simpa only [Act.eval, Array.getD_eq_getD_getElem?] using tv
      obtain ⟨u5, u6, hbb, _, _⟩ := hM.box
      have n_0 : w'.cell? ⟨bA, 18, none⟩ = some u6 := hbb.cell 18
      have nf_0 := hbb.free 18
      have lt_n := hbb.lt
      refine wpOp_skips' (w' := w'.setCell ⟨bA, 18, none⟩ (.int .i64 (b5 : Nat))) rfl rfl (by simp [execOp, go_sem, t40, t38, n_0, nf_0, lt_n]) ⟨_, undef, rfl, rfl, ⟨hM.store9 18 (fun _ _ _ => rfl), kE f0 rfl, kE f1 rfl, kE f2 rfl, kE f3 rfl, kE f4 rfl, kE f5 rfl, kE f6 rfl, kE f8 rfl⟩⟩
  intro V x w' hall hF
  obtain ⟨hM, f0, f1, f2, f3, f4, f5, f6, f8⟩ := hF
  obtain ⟨u5, u6, hA2, hu5, hu6⟩ := hM.box
  obtain rfl := hu5 (hall 7 (by decide))
  obtain rfl := hu6 (hall 9 (by decide))
  have hK := hM.kept
  clear f0 f1 f2 f3 f4 f5 f6 f8 hall hM hu5 hu6
  subst ha0
  simp only [List.map_cons, List.map_nil, putAll]
  go_simp
  replace hX := hX.kept hK (by show ¬ (w.heap.size = bA); omega)
  replace hR := hR.kept hK (by show ¬ (w.heap.size + 1 = bA); omega)
  replace hown := own_kept hown hK (fun g hg => by show ¬ (g = bA); intro e; rw [e] at hg; exact hne hg)
  replace hB := below_kept hB hK (by omega) hs
  replace hs := hB.size
  clear hA hK
  have hA := hA2
  clear hA2
  have hF := setRow_heap w' (w.heap.size + 1) #[.int .i64 0, .string ⟨#[]⟩, .int .i64 0, .int .i64 0, .int .i64 0, .int .i64 0, .int .i64 0, .int .i64 0, .int .i64 0, .int .i64 0, .int .i64 0, .int .i64 0, .int .i64 0, .int .i64 0, .int .i64 0, .int .i64 0, .slice none 0 0, .int .i64 0, .int .i64 0, .int .i64 0, .int .i64 0, .int .i64 0, .int .i64 0, .int .i64 0] #[.int .i64 4, .string ⟨#[]⟩, .int .i64 0, .int .i64 0, .int .i64 0, .int .i64 0, .int .i64 0, .int .i64 0, .int .i64 0, .int .i64 0, .int .i64 0, .int .i64 0, .int .i64 0, .int .i64 0, .int .i64 0, .int .i64 0, .slice A5 n5 c5, .int .i64 (q4 : Nat), .int .i64 (b5 : Nat), .int .i64 0, .int .i64 0, .int .i64 0, .int .i64 0, .int .i64 0] 36 (0, 0) hR
  have hWf := below_setRow hB (g := w.heap.size + 1) (by omega) #[.int .i64 4, .string ⟨#[]⟩, .int .i64 0, .int .i64 0, .int .i64 0, .int .i64 0, .int .i64 0, .int .i64 0, .int .i64 0, .int .i64 0, .int .i64 0, .int .i64 0, .int .i64 0, .int .i64 0, .int .i64 0, .int .i64 0, .slice A5 n5 c5, .int .i64 (q4 : Nat), .int .i64 (b5 : Nat), .int .i64 0, .int .i64 0, .int .i64 0, .int .i64 0, .int .i64 0]
  have hgw := grown_setRow w' (w.heap.size + 1) #[.int .i64 4, .string ⟨#[]⟩, .int .i64 0, .int .i64 0, .int .i64 0, .int .i64 0, .int .i64 0, .int .i64 0, .int .i64 0, .int .i64 0, .int .i64 0, .int .i64 0, .int .i64 0, .int .i64 0, .int .i64 0, .int .i64 0, .slice A5 n5 c5, .int .i64 (q4 : Nat), .int .i64 (b5 : Nat), .int .i64 0, .int .i64 0, .int .i64 0, .int .i64 0, .int .i64 0]
  have hA' := hA
  have hR' := hR
  go_wp2_with (first | (refine wpList_load_row (by rfl) 36 (.tmp 3) (by rfl) bA (by rfl) 36 #[.int .i64 4, .string ⟨#[]⟩, .int .i64 0, .int .i64 0, .int .i64 0, .int .i64 0, .int .i64 0, .int .i64 0, .int .i64 0, .int .i64 0, .int .i64 0, .int .i64 0, .int .i64 0, .int .i64 0, .int .i64 0, .int .i64 0, .slice A5 n5 c5, .int .i64 (q4 : Nat), .int .i64 (b5 : Nat), .int .i64 0, .int .i64 0, .int .i64 0, .int .i64 0, .int .i64 0] (0, 0) _ hA' Tryd.underlying36 rfl (by kernel_rfl) ?_) | (refine wpList_store_row (by rfl) 36 (.tmp 2) (.tmp 79) (by rfl) (w.heap.size + 1) #[.int .i64 4, .string ⟨#[]⟩, .int .i64 0, .int .i64 0, .int .i64 0, .int .i64 0, .int .i64 0, .int .i64 0, .int .i64 0, .int .i64 0, .int .i64 0, .int .i64 0, .int .i64 0, .int .i64 0, .int .i64 0, .int .i64 0, .slice A5 n5 c5, .int .i64 (q4 : Nat), .int .i64 (b5 : Nat), .int .i64 0, .int .i64 0, .int .i64 0, .int .i64 0, .int .i64 0] (by rfl) (by rfl) 36 #[.int .i64 0, .string ⟨#[]⟩, .int .i64 0, .int .i64 0, .int .i64 0, .int .i64 0, .int .i64 0, .int .i64 0, .int .i64 0, .int .i64 0, .int .i64 0, .int .i64 0, .int .i64 0, .int .i64 0, .int .i64 0, .int .i64 0, .slice none 0 0, .int .i64 0, .int .i64 0, .int .i64 0, .int .i64 0, .int .i64 0, .int .i64 0, .int .i64 0] hR' (by kernel_rfl) rfl (by simp [Value.oneCell']) ?_))
  refine bodyPost_ret (results_cell_row Tryd.results16 _ _ (w.heap.size + 1) 36 #[.int .i64 4, .string ⟨#[]⟩, .int .i64 0, .int .i64 0, .int .i64 0, .int .i64 0, .int .i64 0, .int .i64 0, .int .i64 0, .int .i64 0, .int .i64 0, .int .i64 0, .int .i64 0, .int .i64 0, .int .i64 0, .int .i64 0, .slice A5 n5 c5, .int .i64 (q4 : Nat), .int .i64 (b5 : Nat), .int .i64 0, .int .i64 0, .int .i64 0, .int .i64 0, .int .i64 0] (0, 0) _ (by rfl) hF Tryd.underlying36 rfl (by kernel_rfl)) rfl ?_
  have hwf := hown.kept hgw (.inr hne2)
  exact ⟨_, rfl, ⟨A5, n5, c5, by rw [← HP.out]; rfl, by rw [← HP.out]; rw [← HN5.out] at hwf ⊢; exact hwf, by rw [← HP.out]; exact HN5.out⟩, hWf⟩
end Go.Proofs.YtggdomeeienjbaaDoor

/- Package script: act, kind 4. No condition but that bytes are bytes. -/
namespace Go.Proofs.YtggdomeeienjbaaDoor
open Go.ChangeShapes Go.WideShapes Go.ChangeAt Go.RowKit Go.Sort
set_option linter.unusedSimpArgs false
set_option linter.unusedVariables false
set_option maxHeartbeats 16000000 in
set_option maxRecDepth 100000 in
theorem sact_4 (b0 b1 b2 b3 b4 b5 b6 b7 b8 b9 : Nat) (w : World) (ht : TenTab w) (h0 : b0 < 256) (h1 : b1 < 256) (h2 : b2 < 256) (h3 : b3 < 256) (h4 : b4 < 256) (h5 : b5 < 256) (h6 : b6 < 256) (h7 : b7 < 256) (h8 : b8 < 256) (h9 : b9 < 256) (P : Pa) (hq : b0 % 7 = 4) (hP : (⟨5, [], zeroDr, 0, idsF b1 b2 b3, (b4 % 4 : Nat), (b5 : Nat), 0, 0, 0, 0, 0⟩ : Pa) = P) :
    Calls Tryd.prog 16 #[.agg #[.int .u8 (b0 : Nat), .int .u8 (b1 : Nat), .int .u8 (b2 : Nat), .int .u8 (b3 : Nat), .int .u8 (b4 : Nat), .int .u8 (b5 : Nat), .int .u8 (b6 : Nat), .int .u8 (b7 : Nat), .int .u8 (b8 : Nat), .int .u8 (b9 : Nat)]] w fun e w' => ∃ v, e = .returned v ∧ AV w.heap.size w' v P ∧ Below w.heap.size w w' := by
  have Eq0 : Hid (b0 % 7 = 4) := hq
  obtain ⟨q4, eq4⟩ : ∃ q, b4 % 4 = q := ⟨_, rfl⟩
  have lq4 : q4 < 4 := by rw [← eq4]; exact Nat.mod_lt _ (by omega)
  rw [eq4] at hP
  have Eq4 := Lib.hid eq4
  obtain ⟨L, eL⟩ : ∃ L, idsF b1 b2 b3 = L := ⟨_, rfl⟩
  rw [eL] at hP
  have EL := Lib.hid eL
  have hLL : Hid (L.length ≤ 2) := by have h := idsF_len b1 b2 b3; rw [eL] at h; exact h
  clear eL
  have HP := Lib.hid hP
  have TT := Lib.hid ht
  have H0 := Lib.hid h0
  have H1 := Lib.hid h1
  have H2 := Lib.hid h2
  have H3 := Lib.hid h3
  have H4 := Lib.hid h4
  have H5 := Lib.hid h5
  have H6 := Lib.hid h6
  have H7 := Lib.hid h7
  have H8 := Lib.hid h8
  have H9 := Lib.hid h9
  have vb1 : IntKind.i64.wrap (b1 : Int) = (b1 : Int) := IntWalk.i64_in _ (by omega)
  have vb3 : IntKind.i64.wrap (b3 : Int) = (b3 : Int) := IntWalk.i64_in _ (by omega)
  have vb5 : IntKind.i64.wrap (b5 : Int) = (b5 : Int) := IntWalk.i64_in _ (by omega)
  have v45 : IntKind.i64.wrap (4 * (b5 : Int)) = 4 * (b5 : Int) := IntWalk.i64_in _ (by omega)
  clear hP ht hq eq4 lq4 h0 h1 h2 h3 h4 h5 h6 h7 h8 h9
  have hB : Below w.heap.size w ((w.alloc (.cells #[.int .u8 (b0 : Nat), .int .u8 (b1 : Nat), .int .u8 (b2 : Nat), .int .u8 (b3 : Nat), .int .u8 (b4 : Nat), .int .u8 (b5 : Nat), .int .u8 (b6 : Nat), .int .u8 (b7 : Nat), .int .u8 (b8 : Nat), .int .u8 (b9 : Nat)] 23)).alloc (.cells #[.int .i64 0, .string ⟨#[]⟩, .int .i64 0, .int .i64 0, .int .i64 0, .int .i64 0, .int .i64 0, .int .i64 0, .int .i64 0, .int .i64 0, .int .i64 0, .int .i64 0, .int .i64 0, .int .i64 0, .int .i64 0, .int .i64 0, .slice none 0 0, .int .i64 0, .int .i64 0, .int .i64 0, .int .i64 0, .int .i64 0, .int .i64 0, .int .i64 0] 36)) := by (repeat (first | exact Below.refl _ _ | refine Below.alloc ?_ (by first | omega | (simp; done) | (simp; omega)) _ | refine Below.setCell ?_ (by first | omega | (simp; done) | (simp; omega)) _ | refine Below.drew ?_))
  have hX := (Blok.new w 23 #[.int .u8 (b0 : Nat), .int .u8 (b1 : Nat), .int .u8 (b2 : Nat), .int .u8 (b3 : Nat), .int .u8 (b4 : Nat), .int .u8 (b5 : Nat), .int .u8 (b6 : Nat), .int .u8 (b7 : Nat), .int .u8 (b8 : Nat), .int .u8 (b9 : Nat)]).alloc (.cells #[.int .i64 0, .string ⟨#[]⟩, .int .i64 0, .int .i64 0, .int .i64 0, .int .i64 0, .int .i64 0, .int .i64 0, .int .i64 0, .int .i64 0, .int .i64 0, .int .i64 0, .int .i64 0, .int .i64 0, .int .i64 0, .int .i64 0, .slice none 0 0, .int .i64 0, .int .i64 0, .int .i64 0, .int .i64 0, .int .i64 0, .int .i64 0, .int .i64 0] 36)
  have hR := Blok.new (w.alloc (.cells #[.int .u8 (b0 : Nat), .int .u8 (b1 : Nat), .int .u8 (b2 : Nat), .int .u8 (b3 : Nat), .int .u8 (b4 : Nat), .int .u8 (b5 : Nat), .int .u8 (b6 : Nat), .int .u8 (b7 : Nat), .int .u8 (b8 : Nat), .int .u8 (b9 : Nat)] 23)) 36 #[.int .i64 0, .string ⟨#[]⟩, .int .i64 0, .int .i64 0, .int .i64 0, .int .i64 0, .int .i64 0, .int .i64 0, .int .i64 0, .int .i64 0, .int .i64 0, .int .i64 0, .int .i64 0, .int .i64 0, .int .i64 0, .int .i64 0, .slice none 0 0, .int .i64 0, .int .i64 0, .int .i64 0, .int .i64 0, .int .i64 0, .int .i64 0, .int .i64 0]
  rw [World.size_alloc] at hR
  have hs := hB.size
  go_enter Tryd.func16, Tryd.ntmps16
  go_upto_region 1 with fail
  generalize ((w.alloc (.cells #[.int .u8 (b0 : Nat), .int .u8 (b1 : Nat), .int .u8 (b2 : Nat), .int .u8 (b3 : Nat), .int .u8 (b4 : Nat), .int .u8 (b5 : Nat), .int .u8 (b6 : Nat), .int .u8 (b7 : Nat), .int .u8 (b8 : Nat), .int .u8 (b9 : Nat)] 23)).alloc (.cells #[.int .i64 0, .string ⟨#[]⟩, .int .i64 0, .int .i64 0, .int .i64 0, .int .i64 0, .int .i64 0, .int .i64 0, .int .i64 0, .int .i64 0, .int .i64 0, .int .i64 0, .int .i64 0, .int .i64 0, .int .i64 0, .int .i64 0, .slice none 0 0, .int .i64 0, .int .i64 0, .int .i64 0, .int .i64 0, .int .i64 0, .int .i64 0, .int .i64 0] 36)) = w1 at *
  have x0 : w1.cell? ⟨w.heap.size, 0, none⟩ = some (.int .u8 (b0 : Nat)) := hX.cell 0
  have lt_x := hX.lt
  go_upto_region 2 with (first | (refine wpList_store_row (by rfl) 36 (.tmp 3) (.tmp 8) (by rfl) w1.heap.size #[.int .i64 5, .string ⟨#[]⟩, .int .i64 0, .int .i64 0, .int .i64 0, .int .i64 0, .int .i64 0, .int .i64 0, .int .i64 0, .int .i64 0, .int .i64 0, .int .i64 0, .int .i64 0, .int .i64 0, .int .i64 0, .int .i64 0, .slice none 0 0, .int .i64 0, .int .i64 0, .int .i64 0, .int .i64 0, .int .i64 0, .int .i64 0, .int .i64 0] (by rfl) (by rfl) 36 #[.int .i64 0, .string ⟨#[]⟩, .int .i64 0, .int .i64 0, .int .i64 0, .int .i64 0, .int .i64 0, .int .i64 0, .int .i64 0, .int .i64 0, .int .i64 0, .int .i64 0, .int .i64 0, .int .i64 0, .int .i64 0, .int .i64 0, .slice none 0 0, .int .i64 0, .int .i64 0, .int .i64 0, .int .i64 0, .int .i64 0, .int .i64 0, .int .i64 0] (heap_alloc_new _ _) (by kernel_rfl) rfl (by simp [Value.oneCell']) ?_; rw [World.setRow_alloc_new]) | (refine wpList_build_run _ (by rfl) 36 #[(0, .tmp 7)] (by rfl) #[(0, .int .i64 5)] (by rfl) (bact 5 _) ?_) | (go_at_call 19; first | ((with_reducible refine Calls.mono (rest_any b0 7 _ 7 k7_ _ H0.out (by decide) (by decide) Eq0.out) ?_); rintro e9 w9 ⟨rfl, rfl⟩) | ((with_reducible refine Calls.mono (rest_any b4 4 _ 4 k4_ _ H4.out (by decide) (by decide) Eq4.out) ?_); rintro e9 w9 ⟨rfl, rfl⟩)))
  clear x0 lt_x
  have hA := Blok.new w1 36 #[.int .i64 5, .string ⟨#[]⟩, .int .i64 0, .int .i64 0, .int .i64 0, .int .i64 0, .int .i64 0, .int .i64 0, .int .i64 0, .int .i64 0, .int .i64 0, .int .i64 0, .int .i64 0, .int .i64 0, .int .i64 0, .int .i64 0, .slice none 0 0, .int .i64 0, .int .i64 0, .int .i64 0, .int .i64 0, .int .i64 0, .int .i64 0, .int .i64 0]
  have hb : Below w1.heap.size w1 (w1.alloc (.cells #[.int .i64 5, .string ⟨#[]⟩, .int .i64 0, .int .i64 0, .int .i64 0, .int .i64 0, .int .i64 0, .int .i64 0, .int .i64 0, .int .i64 0, .int .i64 0, .int .i64 0, .int .i64 0, .int .i64 0, .int .i64 0, .int .i64 0, .slice none 0 0, .int .i64 0, .int .i64 0, .int .i64 0, .int .i64 0, .int .i64 0, .int .i64 0, .int .i64 0] 36)) := by (repeat (first | exact Below.refl _ _ | refine Below.alloc ?_ (by first | omega | (simp; done) | (simp; omega)) _ | refine Below.setCell ?_ (by first | omega | (simp; done) | (simp; omega)) _ | refine Below.drew ?_))
  have lR := hR.lt
  replace hX := hX.below hb hX.lt
  replace hR := hR.below hb hR.lt
  replace hB := hB.trans (hb.mono hs)
  replace hs := hB.size
  clear hb
  generalize w1.alloc (.cells #[.int .i64 5, .string ⟨#[]⟩, .int .i64 0, .int .i64 0, .int .i64 0, .int .i64 0, .int .i64 0, .int .i64 0, .int .i64 0, .int .i64 0, .int .i64 0, .int .i64 0, .int .i64 0, .int .i64 0, .int .i64 0, .int .i64 0, .slice none 0 0, .int .i64 0, .int .i64 0, .int .i64 0, .int .i64 0, .int .i64 0, .int .i64 0, .int .i64 0] 36) = w2 at *
  generalize w1.heap.size = bA at *
  have k0 : w2.cell? ⟨bA, 0, none⟩ = some (.int .i64 5) := hA.cell 0
  have k1 : w2.cell? ⟨bA, 1, none⟩ = some (.string ⟨#[]⟩) := hA.cell 1
  have k2 : w2.cell? ⟨bA, 2, none⟩ = some (.int .i64 0) := hA.cell 2
  have k3 : w2.cell? ⟨bA, 3, none⟩ = some (.int .i64 0) := hA.cell 3
  have k4 : w2.cell? ⟨bA, 4, none⟩ = some (.int .i64 0) := hA.cell 4
  have k5 : w2.cell? ⟨bA, 5, none⟩ = some (.int .i64 0) := hA.cell 5
  have k6 : w2.cell? ⟨bA, 6, none⟩ = some (.int .i64 0) := hA.cell 6
  have k7 : w2.cell? ⟨bA, 7, none⟩ = some (.int .i64 0) := hA.cell 7
  have k8 : w2.cell? ⟨bA, 8, none⟩ = some (.int .i64 0) := hA.cell 8
  have k9 : w2.cell? ⟨bA, 9, none⟩ = some (.int .i64 0) := hA.cell 9
  have k10 : w2.cell? ⟨bA, 10, none⟩ = some (.int .i64 0) := hA.cell 10
  have k11 : w2.cell? ⟨bA, 11, none⟩ = some (.int .i64 0) := hA.cell 11
  have k12 : w2.cell? ⟨bA, 12, none⟩ = some (.int .i64 0) := hA.cell 12
  have k13 : w2.cell? ⟨bA, 13, none⟩ = some (.int .i64 0) := hA.cell 13
  have k14 : w2.cell? ⟨bA, 14, none⟩ = some (.int .i64 0) := hA.cell 14
  have k15 : w2.cell? ⟨bA, 15, none⟩ = some (.int .i64 0) := hA.cell 15
  have k16 : w2.cell? ⟨bA, 16, none⟩ = some (.slice none 0 0) := hA.cell 16
  have k17 : w2.cell? ⟨bA, 17, none⟩ = some (.int .i64 0) := hA.cell 17
  have k18 : w2.cell? ⟨bA, 18, none⟩ = some (.int .i64 0) := hA.cell 18
  have k19 : w2.cell? ⟨bA, 19, none⟩ = some (.int .i64 0) := hA.cell 19
  have k20 : w2.cell? ⟨bA, 20, none⟩ = some (.int .i64 0) := hA.cell 20
  have k21 : w2.cell? ⟨bA, 21, none⟩ = some (.int .i64 0) := hA.cell 21
  have k22 : w2.cell? ⟨bA, 22, none⟩ = some (.int .i64 0) := hA.cell 22
  have k23 : w2.cell? ⟨bA, 23, none⟩ = some (.int .i64 0) := hA.cell 23
  have lt_k := hA.lt
  go_upto_region 11 with fail
  clear k0 k1 k2 k3 k4 k5 k6 k7 k8 k9 k10 k11 k12 k13 k14 k15 k16 k17 k18 k19 k20 k21 k22 k23 lt_k
  have x0 : w2.cell? ⟨w.heap.size, 0, none⟩ = some (.int .u8 (b0 : Nat)) := hX.cell 0
  have x1 : w2.cell? ⟨w.heap.size, 1, none⟩ = some (.int .u8 (b1 : Nat)) := hX.cell 1
  have x2 : w2.cell? ⟨w.heap.size, 2, none⟩ = some (.int .u8 (b2 : Nat)) := hX.cell 2
  have x3 : w2.cell? ⟨w.heap.size, 3, none⟩ = some (.int .u8 (b3 : Nat)) := hX.cell 3
  have x4 : w2.cell? ⟨w.heap.size, 4, none⟩ = some (.int .u8 (b4 : Nat)) := hX.cell 4
  have x5 : w2.cell? ⟨w.heap.size, 5, none⟩ = some (.int .u8 (b5 : Nat)) := hX.cell 5
  have x6 : w2.cell? ⟨w.heap.size, 6, none⟩ = some (.int .u8 (b6 : Nat)) := hX.cell 6
  have x7 : w2.cell? ⟨w.heap.size, 7, none⟩ = some (.int .u8 (b7 : Nat)) := hX.cell 7
  have x8 : w2.cell? ⟨w.heap.size, 8, none⟩ = some (.int .u8 (b8 : Nat)) := hX.cell 8
  have x9 : w2.cell? ⟨w.heap.size, 9, none⟩ = some (.int .u8 (b9 : Nat)) := hX.cell 9
  have lt_x := hX.lt
  go_wp2_with fail
  refine (sids_any b0 b1 b2 b3 b4 b5 b6 b7 b8 b9 w2 H0.out H1.out H2.out H3.out H4.out H5.out H6.out H7.out H8.out H9.out L EL.out).mono ?_
  rintro e w3 ⟨v, rfl, hown, hb⟩
  clear x0 x1 x2 x3 x4 x5 x6 x7 x8 x9 lt_x
  have hown := own_down (base' := w.heap.size) hown hs
  replace hX := hX.below hb hX.lt
  replace hR := hR.below hb hR.lt
  replace hA := hA.below hb hA.lt
  replace hB := hB.trans (hb.mono hs)
  replace hs := hB.size
  clear hb
  obtain ⟨A5, c5, rfl⟩ := slice_of_own hown
  obtain ⟨n5, hn5⟩ : ∃ n, L.length = n := ⟨_, rfl⟩
  rw [hn5] at hown
  simp only [hn5]
  have HN5 := Lib.hid hn5
  clear hn5
  have hne := Blok.ne_own hown hA (by decide)
  have hne2 := Blok.ne_own hown hR (by decide)
  have k0 : w3.cell? ⟨bA, 0, none⟩ = some (.int .i64 5) := hA.cell 0
  have g0 := hA.free 0
  have k1 : w3.cell? ⟨bA, 1, none⟩ = some (.string ⟨#[]⟩) := hA.cell 1
  have g1 := hA.free 1
  have k2 : w3.cell? ⟨bA, 2, none⟩ = some (.int .i64 0) := hA.cell 2
  have g2 := hA.free 2
  have k3 : w3.cell? ⟨bA, 3, none⟩ = some (.int .i64 0) := hA.cell 3
  have g3 := hA.free 3
  have k4 : w3.cell? ⟨bA, 4, none⟩ = some (.int .i64 0) := hA.cell 4
  have g4 := hA.free 4
  have k5 : w3.cell? ⟨bA, 5, none⟩ = some (.int .i64 0) := hA.cell 5
  have g5 := hA.free 5
  have k6 : w3.cell? ⟨bA, 6, none⟩ = some (.int .i64 0) := hA.cell 6
  have g6 := hA.free 6
  have k7 : w3.cell? ⟨bA, 7, none⟩ = some (.int .i64 0) := hA.cell 7
  have g7 := hA.free 7
  have k8 : w3.cell? ⟨bA, 8, none⟩ = some (.int .i64 0) := hA.cell 8
  have g8 := hA.free 8
  have k9 : w3.cell? ⟨bA, 9, none⟩ = some (.int .i64 0) := hA.cell 9
  have g9 := hA.free 9
  have k10 : w3.cell? ⟨bA, 10, none⟩ = some (.int .i64 0) := hA.cell 10
  have g10 := hA.free 10
  have k11 : w3.cell? ⟨bA, 11, none⟩ = some (.int .i64 0) := hA.cell 11
  have g11 := hA.free 11
  have k12 : w3.cell? ⟨bA, 12, none⟩ = some (.int .i64 0) := hA.cell 12
  have g12 := hA.free 12
  have k13 : w3.cell? ⟨bA, 13, none⟩ = some (.int .i64 0) := hA.cell 13
  have g13 := hA.free 13
  have k14 : w3.cell? ⟨bA, 14, none⟩ = some (.int .i64 0) := hA.cell 14
  have g14 := hA.free 14
  have k15 : w3.cell? ⟨bA, 15, none⟩ = some (.int .i64 0) := hA.cell 15
  have g15 := hA.free 15
  have k16 : w3.cell? ⟨bA, 16, none⟩ = some (.slice none 0 0) := hA.cell 16
  have g16 := hA.free 16
  have k17 : w3.cell? ⟨bA, 17, none⟩ = some (.int .i64 0) := hA.cell 17
  have g17 := hA.free 17
  have k18 : w3.cell? ⟨bA, 18, none⟩ = some (.int .i64 0) := hA.cell 18
  have g18 := hA.free 18
  have k19 : w3.cell? ⟨bA, 19, none⟩ = some (.int .i64 0) := hA.cell 19
  have g19 := hA.free 19
  have k20 : w3.cell? ⟨bA, 20, none⟩ = some (.int .i64 0) := hA.cell 20
  have g20 := hA.free 20
  have k21 : w3.cell? ⟨bA, 21, none⟩ = some (.int .i64 0) := hA.cell 21
  have g21 := hA.free 21
  have k22 : w3.cell? ⟨bA, 22, none⟩ = some (.int .i64 0) := hA.cell 22
  have g22 := hA.free 22
  have k23 : w3.cell? ⟨bA, 23, none⟩ = some (.int .i64 0) := hA.cell 23
  have g23 := hA.free 23
  have lt_k := hA.lt
  go_upto_region 12 with fail
  clear k0 g0 k1 g1 k2 g2 k3 g3 k4 g4 k5 g5 k6 g6 k7 g7 k8 g8 k9 g9 k10 g10 k11 g11 k12 g12 k13 g13 k14 g14 k15 g15 k16 g16 k17 g17 k18 g18 k19 g19 k20 g20 k21 g21 k22 g22 k23 g23 lt_k
  have hown4 := ownsRow_setCell_other hown (a := ⟨bA, 16, none⟩) hne (.slice A5 n5 c5)
  clear hown
  have hown := hown4
  clear hown4
  have hA2 : Blok (w3.setCell ⟨bA, 16, none⟩ (.slice A5 n5 c5)) bA 36 #[.int .i64 5, .string ⟨#[]⟩, .int .i64 0, .int .i64 0, .int .i64 0, .int .i64 0, .int .i64 0, .int .i64 0, .int .i64 0, .int .i64 0, .int .i64 0, .int .i64 0, .int .i64 0, .int .i64 0, .int .i64 0, .int .i64 0, .slice A5 n5 c5, .int .i64 0, .int .i64 0, .int .i64 0, .int .i64 0, .int .i64 0, .int .i64 0, .int .i64 0] := by exact (hA.set_ 16 (.slice A5 n5 c5))
  replace hX := (hX.far (p := ⟨bA, 16, none⟩) (by simp only; omega) (.slice A5 n5 c5))
  replace hR := (hR.far (p := ⟨bA, 16, none⟩) (by simp only; omega) (.slice A5 n5 c5))
  replace hB := (hB.setCell (p := ⟨bA, 16, none⟩) (by simp only; omega) (.slice A5 n5 c5))
  replace hs := hB.size
  clear hA
  have hA := hA2
  clear hA2
  generalize (w3.setCell ⟨bA, 16, none⟩ (.slice A5 n5 c5)) = w4 at *
  refine gen_frame ?_
  intro a0 ha0
  try simp only [List.append]
  refine wp_region_frames rfl (by kernel_rfl) (by kernel_rfl) (fun V x w' => BM w4 bA 36 (fun u5 u6 => #[.int .i64 5, .string ⟨#[]⟩, .int .i64 0, .int .i64 0, .int .i64 0, .int .i64 0, .int .i64 0, .int .i64 0, .int .i64 0, .int .i64 0, .int .i64 0, .int .i64 0, .int .i64 0, .int .i64 0, .int .i64 0, .int .i64 0, .slice A5 n5 c5, u5, u6, .int .i64 0, .int .i64 0, .int .i64 0, .int .i64 0, .int .i64 0]) (.int .i64 (q4 : Nat)) (.int .i64 (b5 : Nat)) V w' ∧ (V.getD 0 true = true → x 0 = .pointer (some ⟨w.heap.size, 4, none⟩)) ∧ (V.getD 1 true = true → x 1 = .int .u8 (b4 : Nat)) ∧ (V.getD 2 true = true → x 2 = .int .i64 (q4 : Nat)) ∧ (V.getD 3 true = true → x 3 = .pointer (some ⟨w.heap.size, 5, none⟩)) ∧ (V.getD 4 true = true → x 4 = .int .u8 (b5 : Nat)) ∧ (V.getD 5 true = true → x 5 = .int .i64 (b5 : Nat)) ∧ (V.getD 6 true = true → x 6 = .pointer (some ⟨bA, 17, none⟩)) ∧ (V.getD 8 true = true → x 8 = .pointer (some ⟨bA, 18, none⟩))) ?_ ?_ ?_
  · intro x
    refine ⟨⟨Kept.of_below (Below.refl _ _).drew, _, _, hA, fun h => by simp at h, fun h => by simp at h⟩, ?_, ?_, ?_, ?_, ?_, ?_, ?_, ?_⟩ <;> exact fun h => by simp at h
  · intro V x b w' hbq hsz hF i hi hun haf hcl
    obtain ⟨hM, f0, f1, f2, f3, f4, f5, f6, f8⟩ := hF
    have hbe : b = putAll a0 [some 33, some 34, some 35, some 36, some 37, some 38, some 39, none, some 40, none] x 0 := hbq
    have hz0 : a0.tmps.size = 80 := by rw [ha0]; rfl
    have e1 : b.eval (.tmp 1) = .pointer (some ⟨w.heap.size, 0, none⟩) := by rw [hbe, eval_out _ _ _ (by decide), ha0]; rfl
    have t1 : b.tmps[1]?.getD undef = .pointer (some ⟨w.heap.size, 0, none⟩) := by simpa [Act.eval] using e1
    have e3 : b.eval (.tmp 3) = .pointer (some ⟨bA, 0, none⟩) := by rw [hbe, eval_out _ _ _ (by decide), ha0]; rfl
    have t3 : b.tmps[3]?.getD undef = .pointer (some ⟨bA, 0, none⟩) := by simpa [Act.eval] using e3
    have evc : ∀ v, b.eval (.const v) = v := fun _ => rfl
    clear hbq
    have hi' : i < 10 := hi
    clear hi
    obtain rfl | rfl | rfl | rfl | rfl | rfl | rfl | rfl | rfl | rfl : i = 0 ∨ i = 1 ∨ i = 2 ∨ i = 3 ∨ i = 4 ∨ i = 5 ∨ i = 6 ∨ i = 7 ∨ i = 8 ∨ i = 9 := by omega
    · refine wpOp_runs (v := .pointer (some ⟨w.heap.size, 4, none⟩)) rfl rfl (by simp [execOp, go_sem, t1]) ⟨_, _, rfl, rfl, ⟨hM.other 0 (by decide) (by decide), fun _ => upd_same _ _ _, kE f1 rfl, kE f2 rfl, kE f3 rfl, kE f4 rfl, kE f5 rfl, kE f6 rfl, kE f8 rfl⟩⟩
    · have d0 := getD_ft (haf _ rfl ⟨0, .data⟩ (by simp) rfl)
      have e33 : b.eval (.tmp 33) = .pointer (some ⟨w.heap.size, 4, none⟩) := by rw [hbe, eval_in _ _ _ 0 (by decide) rfl (by rw [hz0]; decide)]; exact f0 d0
      have t33 : b.tmps[33]?.getD undef = .pointer (some ⟨w.heap.size, 4, none⟩) := by have tv := e33; simpa only [Act.eval, Array.getD_eq_getD_getElem?] using tv
      have bq := hX.kept hM.kept (by show ¬ (w.heap.size = bA); omega)
      have n_0 : w'.cell? ⟨w.heap.size, 4, none⟩ = some (.int .u8 (b4 : Nat)) := bq.cell 4
      have lt_n := bq.lt
      refine wpOp_runs (v := .int .u8 (b4 : Nat)) rfl rfl (by simp [execOp, go_sem, t33, n_0]) ⟨_, _, rfl, rfl, ⟨hM.other 1 (by decide) (by decide), kE f0 rfl, fun _ => upd_same _ _ _, kE f2 rfl, kE f3 rfl, kE f4 rfl, kE f5 rfl, kE f6 rfl, kE f8 rfl⟩⟩
    · have d1 := getD_ft (haf _ rfl ⟨1, .data⟩ (by simp) rfl)
      have e34 : b.eval (.tmp 34) = .int .u8 (b4 : Nat) := by rw [hbe, eval_in _ _ _ 1 (by decide) rfl (by rw [hz0]; decide)]; exact f1 d1
      have t34 : b.tmps[34]?.getD undef = .int .u8 (b4 : Nat) := by have tv := e34; simpa only [Act.eval, Array.getD_eq_getD_getElem?] using tv
      refine wpOp_call_on rfl (by simp [Region.wanted]) 19 #[.tmp 34, .const (.int .i64 4)] _ rfl #[.int .u8 (b4 : Nat), .int .i64 4] (by simp [e34, evc]) Tryd.func19 rfl rfl ?_
      refine (rest_any b4 4 _ 4 k4_ _ H4.out (by decide) (by decide) Eq4.out).mono ?_
      rintro e9 w9 ⟨rfl, rfl⟩
      exact ⟨_, rfl, _, _, rfl, rfl, ⟨hM.other 2 (by decide) (by decide), kE f0 rfl, kE f1 rfl, fun _ => upd_same _ _ _, kE f3 rfl, kE f4 rfl, kE f5 rfl, kE f6 rfl, kE f8 rfl⟩⟩
    · refine wpOp_runs (v := .pointer (some ⟨w.heap.size, 5, none⟩)) rfl rfl (by simp [execOp, go_sem, t1]) ⟨_, _, rfl, rfl, ⟨hM.other 3 (by decide) (by decide), kE f0 rfl, kE f1 rfl, kE f2 rfl, fun _ => upd_same _ _ _, kE f4 rfl, kE f5 rfl, kE f6 rfl, kE f8 rfl⟩⟩
    · have d3 := getD_ft (haf _ rfl ⟨3, .data⟩ (by simp) rfl)
      have e36 : b.eval (.tmp 36) = .pointer (some ⟨w.heap.size, 5, none⟩) := by rw [hbe, eval_in _ _ _ 3 (by decide) rfl (by rw [hz0]; decide)]; exact f3 d3
      have t36 : b.tmps[36]?.getD undef = .pointer (some ⟨w.heap.size, 5, none⟩) := by have tv := e36; simpa only [Act.eval, Array.getD_eq_getD_getElem?] using tv
      have bq := hX.kept hM.kept (by show ¬ (w.heap.size = bA); omega)
      have n_0 : w'.cell? ⟨w.heap.size, 5, none⟩ = some (.int .u8 (b5 : Nat)) := bq.cell 5
      have lt_n := bq.lt
      refine wpOp_runs (v := .int .u8 (b5 : Nat)) rfl rfl (by simp [execOp, go_sem, t36, n_0]) ⟨_, _, rfl, rfl, ⟨hM.other 4 (by decide) (by decide), kE f0 rfl, kE f1 rfl, kE f2 rfl, kE f3 rfl, fun _ => upd_same _ _ _, kE f5 rfl, kE f6 rfl, kE f8 rfl⟩⟩
    · have d4 := getD_ft (haf _ rfl ⟨4, .data⟩ (by simp) rfl)
      have e37 : b.eval (.tmp 37) = .int .u8 (b5 : Nat) := by rw [hbe, eval_in _ _ _ 4 (by decide) rfl (by rw [hz0]; decide)]; exact f4 d4
      have t37 : b.tmps[37]?.getD undef = .int .u8 (b5 : Nat) := by have tv := e37; simpa only [Act.eval, Array.getD_eq_getD_getElem?] using tv
      refine wpOp_runs (v := .int .i64 (b5 : Nat)) rfl rfl (by simp [execOp, go_sem, t37, vb5]) ⟨_, _, rfl, rfl, ⟨hM.other 5 (by decide) (by decide), kE f0 rfl, kE f1 rfl, kE f2 rfl, kE f3 rfl, kE f4 rfl, fun _ => upd_same _ _ _, kE f6 rfl, kE f8 rfl⟩⟩
    · refine wpOp_runs (v := .pointer (some ⟨bA, 17, none⟩)) rfl rfl (by simp [execOp, go_sem, t3]) ⟨_, _, rfl, rfl, ⟨hM.other 6 (by decide) (by decide), kE f0 rfl, kE f1 rfl, kE f2 rfl, kE f3 rfl, kE f4 rfl, kE f5 rfl, fun _ => upd_same _ _ _, kE f8 rfl⟩⟩
    · have d6 := getD_ft (haf _ rfl ⟨6, .data⟩ (by simp) rfl)
      have e39 : b.eval (.tmp 39) = .pointer (some ⟨bA, 17, none⟩) := by rw [hbe, eval_in _ _ _ 6 (by decide) rfl (by rw [hz0]; decide)]; exact f6 d6
      have t39 : b.tmps[39]?.getD undef = .pointer (some ⟨bA, 17, none⟩) := by have tv := e39; simpa only [Act.eval, Array.getD_eq_getD_getElem?] using tv
      have d2 := getD_ft (haf _ rfl ⟨2, .data⟩ (by simp) rfl)
      have e35 : b.eval (.tmp 35) = .int .i64 (q4 : Nat) := by rw [hbe, eval_in _ _ _ 2 (by decide) rfl (by rw [hz0]; decide)]; exact f2 d2
      have t35 : b.tmps[35]?.getD undef = .int .i64 (q4 : Nat) := by have tv := e35; simpa only [Act.eval, Array.getD_eq_getD_getElem?] using tv
      obtain ⟨u5, u6, hbb, _, _⟩ := hM.box
      have n_0 : w'.cell? ⟨bA, 17, none⟩ = some u5 := hbb.cell 17
      have nf_0 := hbb.free 17
      have lt_n := hbb.lt
      refine wpOp_skips' (w' := w'.setCell ⟨bA, 17, none⟩ (.int .i64 (q4 : Nat))) rfl rfl (by simp [execOp, go_sem, t39, t35, n_0, nf_0, lt_n]) ⟨_, undef, rfl, rfl, ⟨hM.store7 17 (fun _ _ _ => rfl), kE f0 rfl, kE f1 rfl, kE f2 rfl, kE f3 rfl, kE f4 rfl, kE f5 rfl, kE f6 rfl, kE f8 rfl⟩⟩
    · refine wpOp_runs (v := .pointer (some ⟨bA, 18, none⟩)) rfl rfl (by simp [execOp, go_sem, t3]) ⟨_, _, rfl, rfl, ⟨hM.other 8 (by decide) (by decide), kE f0 rfl, kE f1 rfl, kE f2 rfl, kE f3 rfl, kE f4 rfl, kE f5 rfl, kE f6 rfl, fun _ => upd_same _ _ _⟩⟩
    · have d8 := getD_ft (haf _ rfl ⟨8, .data⟩ (by simp) rfl)
      have e40 : b.eval (.tmp 40) = .pointer (some ⟨bA, 18, none⟩) := by rw [hbe, eval_in _ _ _ 8 (by decide) rfl (by rw [hz0]; decide)]; exact f8 d8
      have t40 : b.tmps[40]?.getD undef = .pointer (some ⟨bA, 18, none⟩) := by have tv := e40; simpa only [Act.eval, Array.getD_eq_getD_getElem?] using tv
      have d5 := getD_ft (haf _ rfl ⟨5, .data⟩ (by simp) rfl)
      have e38 : b.eval (.tmp 38) = .int .i64 (b5 : Nat) := by rw [hbe, eval_in _ _ _ 5 (by decide) rfl (by rw [hz0]; decide)]; exact f5 d5
      have t38 : b.tmps[38]?.getD undef = .int .i64 (b5 : Nat) := by have tv := e38; simpa only [Act.eval, Array.getD_eq_getD_getElem?] using tv
      obtain ⟨u5, u6, hbb, _, _⟩ := hM.box
      have n_0 : w'.cell? ⟨bA, 18, none⟩ = some u6 := hbb.cell 18
      have nf_0 := hbb.free 18
      have lt_n := hbb.lt
      refine wpOp_skips' (w' := w'.setCell ⟨bA, 18, none⟩ (.int .i64 (b5 : Nat))) rfl rfl (by simp [execOp, go_sem, t40, t38, n_0, nf_0, lt_n]) ⟨_, undef, rfl, rfl, ⟨hM.store9 18 (fun _ _ _ => rfl), kE f0 rfl, kE f1 rfl, kE f2 rfl, kE f3 rfl, kE f4 rfl, kE f5 rfl, kE f6 rfl, kE f8 rfl⟩⟩
  intro V x w' hall hF
  obtain ⟨hM, f0, f1, f2, f3, f4, f5, f6, f8⟩ := hF
  obtain ⟨u5, u6, hA2, hu5, hu6⟩ := hM.box
  obtain rfl := hu5 (hall 7 (by decide))
  obtain rfl := hu6 (hall 9 (by decide))
  have hK := hM.kept
  clear f0 f1 f2 f3 f4 f5 f6 f8 hall hM hu5 hu6
  subst ha0
  simp only [List.map_cons, List.map_nil, putAll]
  go_simp
  replace hX := hX.kept hK (by show ¬ (w.heap.size = bA); omega)
  replace hR := hR.kept hK (by show ¬ (w.heap.size + 1 = bA); omega)
  replace hown := own_kept hown hK (fun g hg => by show ¬ (g = bA); intro e; rw [e] at hg; exact hne hg)
  replace hB := below_kept hB hK (by omega) hs
  replace hs := hB.size
  clear hA hK
  have hA := hA2
  clear hA2
  have hF := setRow_heap w' (w.heap.size + 1) #[.int .i64 0, .string ⟨#[]⟩, .int .i64 0, .int .i64 0, .int .i64 0, .int .i64 0, .int .i64 0, .int .i64 0, .int .i64 0, .int .i64 0, .int .i64 0, .int .i64 0, .int .i64 0, .int .i64 0, .int .i64 0, .int .i64 0, .slice none 0 0, .int .i64 0, .int .i64 0, .int .i64 0, .int .i64 0, .int .i64 0, .int .i64 0, .int .i64 0] #[.int .i64 5, .string ⟨#[]⟩, .int .i64 0, .int .i64 0, .int .i64 0, .int .i64 0, .int .i64 0, .int .i64 0, .int .i64 0, .int .i64 0, .int .i64 0, .int .i64 0, .int .i64 0, .int .i64 0, .int .i64 0, .int .i64 0, .slice A5 n5 c5, .int .i64 (q4 : Nat), .int .i64 (b5 : Nat), .int .i64 0, .int .i64 0, .int .i64 0, .int .i64 0, .int .i64 0] 36 (0, 0) hR
  have hWf := below_setRow hB (g := w.heap.size + 1) (by omega) #[.int .i64 5, .string ⟨#[]⟩, .int .i64 0, .int .i64 0, .int .i64 0, .int .i64 0, .int .i64 0, .int .i64 0, .int .i64 0, .int .i64 0, .int .i64 0, .int .i64 0, .int .i64 0, .int .i64 0, .int .i64 0, .int .i64 0, .slice A5 n5 c5, .int .i64 (q4 : Nat), .int .i64 (b5 : Nat), .int .i64 0, .int .i64 0, .int .i64 0, .int .i64 0, .int .i64 0]
  have hgw := grown_setRow w' (w.heap.size + 1) #[.int .i64 5, .string ⟨#[]⟩, .int .i64 0, .int .i64 0, .int .i64 0, .int .i64 0, .int .i64 0, .int .i64 0, .int .i64 0, .int .i64 0, .int .i64 0, .int .i64 0, .int .i64 0, .int .i64 0, .int .i64 0, .int .i64 0, .slice A5 n5 c5, .int .i64 (q4 : Nat), .int .i64 (b5 : Nat), .int .i64 0, .int .i64 0, .int .i64 0, .int .i64 0, .int .i64 0]
  have hA' := hA
  have hR' := hR
  go_wp2_with (first | (refine wpList_load_row (by rfl) 36 (.tmp 3) (by rfl) bA (by rfl) 36 #[.int .i64 5, .string ⟨#[]⟩, .int .i64 0, .int .i64 0, .int .i64 0, .int .i64 0, .int .i64 0, .int .i64 0, .int .i64 0, .int .i64 0, .int .i64 0, .int .i64 0, .int .i64 0, .int .i64 0, .int .i64 0, .int .i64 0, .slice A5 n5 c5, .int .i64 (q4 : Nat), .int .i64 (b5 : Nat), .int .i64 0, .int .i64 0, .int .i64 0, .int .i64 0, .int .i64 0] (0, 0) _ hA' Tryd.underlying36 rfl (by kernel_rfl) ?_) | (refine wpList_store_row (by rfl) 36 (.tmp 2) (.tmp 79) (by rfl) (w.heap.size + 1) #[.int .i64 5, .string ⟨#[]⟩, .int .i64 0, .int .i64 0, .int .i64 0, .int .i64 0, .int .i64 0, .int .i64 0, .int .i64 0, .int .i64 0, .int .i64 0, .int .i64 0, .int .i64 0, .int .i64 0, .int .i64 0, .int .i64 0, .slice A5 n5 c5, .int .i64 (q4 : Nat), .int .i64 (b5 : Nat), .int .i64 0, .int .i64 0, .int .i64 0, .int .i64 0, .int .i64 0] (by rfl) (by rfl) 36 #[.int .i64 0, .string ⟨#[]⟩, .int .i64 0, .int .i64 0, .int .i64 0, .int .i64 0, .int .i64 0, .int .i64 0, .int .i64 0, .int .i64 0, .int .i64 0, .int .i64 0, .int .i64 0, .int .i64 0, .int .i64 0, .int .i64 0, .slice none 0 0, .int .i64 0, .int .i64 0, .int .i64 0, .int .i64 0, .int .i64 0, .int .i64 0, .int .i64 0] hR' (by kernel_rfl) rfl (by simp [Value.oneCell']) ?_))
  refine bodyPost_ret (results_cell_row Tryd.results16 _ _ (w.heap.size + 1) 36 #[.int .i64 5, .string ⟨#[]⟩, .int .i64 0, .int .i64 0, .int .i64 0, .int .i64 0, .int .i64 0, .int .i64 0, .int .i64 0, .int .i64 0, .int .i64 0, .int .i64 0, .int .i64 0, .int .i64 0, .int .i64 0, .int .i64 0, .slice A5 n5 c5, .int .i64 (q4 : Nat), .int .i64 (b5 : Nat), .int .i64 0, .int .i64 0, .int .i64 0, .int .i64 0, .int .i64 0] (0, 0) _ (by rfl) hF Tryd.underlying36 rfl (by kernel_rfl)) rfl ?_
  have hwf := hown.kept hgw (.inr hne2)
  exact ⟨_, rfl, ⟨A5, n5, c5, by rw [← HP.out]; rfl, by rw [← HP.out]; rw [← HN5.out] at hwf ⊢; exact hwf, by rw [← HP.out]; exact HN5.out⟩, hWf⟩
end Go.Proofs.YtggdomeeienjbaaDoor

/- Package script: act, kind 5. No condition but that bytes are bytes. -/
namespace Go.Proofs.YtggdomeeienjbaaDoor
open Go.ChangeShapes Go.WideShapes Go.ChangeAt Go.RowKit Go.Sort
set_option linter.unusedSimpArgs false
set_option linter.unusedVariables false
set_option maxHeartbeats 16000000 in
set_option maxRecDepth 100000 in
theorem sact_5 (b0 b1 b2 b3 b4 b5 b6 b7 b8 b9 : Nat) (w : World) (ht : TenTab w) (h0 : b0 < 256) (h1 : b1 < 256) (h2 : b2 < 256) (h3 : b3 < 256) (h4 : b4 < 256) (h5 : b5 < 256) (h6 : b6 < 256) (h7 : b7 < 256) (h8 : b8 < 256) (h9 : b9 < 256) (P : Pa) (hq : b0 % 7 = 5) (hP : (⟨6, [], zeroDr, 0, [], 0, 0, (1 + b1 % 4 : Nat), (1 + b2 % 4 : Nat), (b3 : Nat), (b4 % 3 : Nat), (4 * b5 : Nat)⟩ : Pa) = P) :
    Calls Tryd.prog 16 #[.agg #[.int .u8 (b0 : Nat), .int .u8 (b1 : Nat), .int .u8 (b2 : Nat), .int .u8 (b3 : Nat), .int .u8 (b4 : Nat), .int .u8 (b5 : Nat), .int .u8 (b6 : Nat), .int .u8 (b7 : Nat), .int .u8 (b8 : Nat), .int .u8 (b9 : Nat)]] w fun e w' => ∃ v, e = .returned v ∧ AV w.heap.size w' v P ∧ Below w.heap.size w w' := by
  have Eq0 : Hid (b0 % 7 = 5) := hq
  obtain ⟨q1, eq1⟩ : ∃ q, b1 % 4 = q := ⟨_, rfl⟩
  have lq1 : q1 < 4 := by rw [← eq1]; exact Nat.mod_lt _ (by omega)
  rw [eq1] at hP
  have Eq1 := Lib.hid eq1
  obtain ⟨q2, eq2⟩ : ∃ q, b2 % 4 = q := ⟨_, rfl⟩
  have lq2 : q2 < 4 := by rw [← eq2]; exact Nat.mod_lt _ (by omega)
  rw [eq2] at hP
  have Eq2 := Lib.hid eq2
  obtain ⟨p4, ep4⟩ : ∃ q, b4 % 3 = q := ⟨_, rfl⟩
  have lp4 : p4 < 3 := by rw [← ep4]; exact Nat.mod_lt _ (by omega)
  rw [ep4] at hP
  have Ep4 := Lib.hid ep4
  have HP := Lib.hid hP
  have TT := Lib.hid ht
  have H0 := Lib.hid h0
  have H1 := Lib.hid h1
  have H2 := Lib.hid h2
  have H3 := Lib.hid h3
  have H4 := Lib.hid h4
  have H5 := Lib.hid h5
  have H6 := Lib.hid h6
  have H7 := Lib.hid h7
  have H8 := Lib.hid h8
  have H9 := Lib.hid h9
  have wq1 : IntKind.i64.wrap (1 + (q1 : Int)) = 1 + (q1 : Int) := IntWalk.i64_in _ (by omega)
  have wq2 : IntKind.i64.wrap (1 + (q2 : Int)) = 1 + (q2 : Int) := IntWalk.i64_in _ (by omega)
  have vb1 : IntKind.i64.wrap (b1 : Int) = (b1 : Int) := IntWalk.i64_in _ (by omega)
  have vb3 : IntKind.i64.wrap (b3 : Int) = (b3 : Int) := IntWalk.i64_in _ (by omega)
  have vb5 : IntKind.i64.wrap (b5 : Int) = (b5 : Int) := IntWalk.i64_in _ (by omega)
  have v45 : IntKind.i64.wrap (4 * (b5 : Int)) = 4 * (b5 : Int) := IntWalk.i64_in _ (by omega)
  clear hP ht hq eq1 lq1 eq2 lq2 ep4 lp4 h0 h1 h2 h3 h4 h5 h6 h7 h8 h9
  have hB : Below w.heap.size w ((w.alloc (.cells #[.int .u8 (b0 : Nat), .int .u8 (b1 : Nat), .int .u8 (b2 : Nat), .int .u8 (b3 : Nat), .int .u8 (b4 : Nat), .int .u8 (b5 : Nat), .int .u8 (b6 : Nat), .int .u8 (b7 : Nat), .int .u8 (b8 : Nat), .int .u8 (b9 : Nat)] 23)).alloc (.cells #[.int .i64 0, .string ⟨#[]⟩, .int .i64 0, .int .i64 0, .int .i64 0, .int .i64 0, .int .i64 0, .int .i64 0, .int .i64 0, .int .i64 0, .int .i64 0, .int .i64 0, .int .i64 0, .int .i64 0, .int .i64 0, .int .i64 0, .slice none 0 0, .int .i64 0, .int .i64 0, .int .i64 0, .int .i64 0, .int .i64 0, .int .i64 0, .int .i64 0] 36)) := by (repeat (first | exact Below.refl _ _ | refine Below.alloc ?_ (by first | omega | (simp; done) | (simp; omega)) _ | refine Below.setCell ?_ (by first | omega | (simp; done) | (simp; omega)) _ | refine Below.drew ?_))
  have hX := (Blok.new w 23 #[.int .u8 (b0 : Nat), .int .u8 (b1 : Nat), .int .u8 (b2 : Nat), .int .u8 (b3 : Nat), .int .u8 (b4 : Nat), .int .u8 (b5 : Nat), .int .u8 (b6 : Nat), .int .u8 (b7 : Nat), .int .u8 (b8 : Nat), .int .u8 (b9 : Nat)]).alloc (.cells #[.int .i64 0, .string ⟨#[]⟩, .int .i64 0, .int .i64 0, .int .i64 0, .int .i64 0, .int .i64 0, .int .i64 0, .int .i64 0, .int .i64 0, .int .i64 0, .int .i64 0, .int .i64 0, .int .i64 0, .int .i64 0, .int .i64 0, .slice none 0 0, .int .i64 0, .int .i64 0, .int .i64 0, .int .i64 0, .int .i64 0, .int .i64 0, .int .i64 0] 36)
  have hR := Blok.new (w.alloc (.cells #[.int .u8 (b0 : Nat), .int .u8 (b1 : Nat), .int .u8 (b2 : Nat), .int .u8 (b3 : Nat), .int .u8 (b4 : Nat), .int .u8 (b5 : Nat), .int .u8 (b6 : Nat), .int .u8 (b7 : Nat), .int .u8 (b8 : Nat), .int .u8 (b9 : Nat)] 23)) 36 #[.int .i64 0, .string ⟨#[]⟩, .int .i64 0, .int .i64 0, .int .i64 0, .int .i64 0, .int .i64 0, .int .i64 0, .int .i64 0, .int .i64 0, .int .i64 0, .int .i64 0, .int .i64 0, .int .i64 0, .int .i64 0, .int .i64 0, .slice none 0 0, .int .i64 0, .int .i64 0, .int .i64 0, .int .i64 0, .int .i64 0, .int .i64 0, .int .i64 0]
  rw [World.size_alloc] at hR
  have hs := hB.size
  go_enter Tryd.func16, Tryd.ntmps16
  go_upto_region 1 with fail
  generalize ((w.alloc (.cells #[.int .u8 (b0 : Nat), .int .u8 (b1 : Nat), .int .u8 (b2 : Nat), .int .u8 (b3 : Nat), .int .u8 (b4 : Nat), .int .u8 (b5 : Nat), .int .u8 (b6 : Nat), .int .u8 (b7 : Nat), .int .u8 (b8 : Nat), .int .u8 (b9 : Nat)] 23)).alloc (.cells #[.int .i64 0, .string ⟨#[]⟩, .int .i64 0, .int .i64 0, .int .i64 0, .int .i64 0, .int .i64 0, .int .i64 0, .int .i64 0, .int .i64 0, .int .i64 0, .int .i64 0, .int .i64 0, .int .i64 0, .int .i64 0, .int .i64 0, .slice none 0 0, .int .i64 0, .int .i64 0, .int .i64 0, .int .i64 0, .int .i64 0, .int .i64 0, .int .i64 0] 36)) = w1 at *
  have x0 : w1.cell? ⟨w.heap.size, 0, none⟩ = some (.int .u8 (b0 : Nat)) := hX.cell 0
  have lt_x := hX.lt
  go_upto_region 2 with (first | (refine wpList_store_row (by rfl) 36 (.tmp 3) (.tmp 8) (by rfl) w1.heap.size #[.int .i64 6, .string ⟨#[]⟩, .int .i64 0, .int .i64 0, .int .i64 0, .int .i64 0, .int .i64 0, .int .i64 0, .int .i64 0, .int .i64 0, .int .i64 0, .int .i64 0, .int .i64 0, .int .i64 0, .int .i64 0, .int .i64 0, .slice none 0 0, .int .i64 0, .int .i64 0, .int .i64 0, .int .i64 0, .int .i64 0, .int .i64 0, .int .i64 0] (by rfl) (by rfl) 36 #[.int .i64 0, .string ⟨#[]⟩, .int .i64 0, .int .i64 0, .int .i64 0, .int .i64 0, .int .i64 0, .int .i64 0, .int .i64 0, .int .i64 0, .int .i64 0, .int .i64 0, .int .i64 0, .int .i64 0, .int .i64 0, .int .i64 0, .slice none 0 0, .int .i64 0, .int .i64 0, .int .i64 0, .int .i64 0, .int .i64 0, .int .i64 0, .int .i64 0] (heap_alloc_new _ _) (by kernel_rfl) rfl (by simp [Value.oneCell']) ?_; rw [World.setRow_alloc_new]) | (refine wpList_build_run _ (by rfl) 36 #[(0, .tmp 7)] (by rfl) #[(0, .int .i64 6)] (by rfl) (bact 6 _) ?_) | (go_at_call 19; first | ((with_reducible refine Calls.mono (rest_any b0 7 _ 7 k7_ _ H0.out (by decide) (by decide) Eq0.out) ?_); rintro e9 w9 ⟨rfl, rfl⟩) | ((with_reducible refine Calls.mono (rest_any b1 4 _ 4 k4_ _ H1.out (by decide) (by decide) Eq1.out) ?_); rintro e9 w9 ⟨rfl, rfl⟩) | ((with_reducible refine Calls.mono (rest_any b2 4 _ 4 k4_ _ H2.out (by decide) (by decide) Eq2.out) ?_); rintro e9 w9 ⟨rfl, rfl⟩) | ((with_reducible refine Calls.mono (rest_any b4 3 _ 3 k3_ _ H4.out (by decide) (by decide) Ep4.out) ?_); rintro e9 w9 ⟨rfl, rfl⟩)))
  clear x0 lt_x
  have hA := Blok.new w1 36 #[.int .i64 6, .string ⟨#[]⟩, .int .i64 0, .int .i64 0, .int .i64 0, .int .i64 0, .int .i64 0, .int .i64 0, .int .i64 0, .int .i64 0, .int .i64 0, .int .i64 0, .int .i64 0, .int .i64 0, .int .i64 0, .int .i64 0, .slice none 0 0, .int .i64 0, .int .i64 0, .int .i64 0, .int .i64 0, .int .i64 0, .int .i64 0, .int .i64 0]
  have hb : Below w1.heap.size w1 (w1.alloc (.cells #[.int .i64 6, .string ⟨#[]⟩, .int .i64 0, .int .i64 0, .int .i64 0, .int .i64 0, .int .i64 0, .int .i64 0, .int .i64 0, .int .i64 0, .int .i64 0, .int .i64 0, .int .i64 0, .int .i64 0, .int .i64 0, .int .i64 0, .slice none 0 0, .int .i64 0, .int .i64 0, .int .i64 0, .int .i64 0, .int .i64 0, .int .i64 0, .int .i64 0] 36)) := by (repeat (first | exact Below.refl _ _ | refine Below.alloc ?_ (by first | omega | (simp; done) | (simp; omega)) _ | refine Below.setCell ?_ (by first | omega | (simp; done) | (simp; omega)) _ | refine Below.drew ?_))
  have lR := hR.lt
  replace hX := hX.below hb hX.lt
  replace hR := hR.below hb hR.lt
  replace hB := hB.trans (hb.mono hs)
  replace hs := hB.size
  clear hb
  generalize w1.alloc (.cells #[.int .i64 6, .string ⟨#[]⟩, .int .i64 0, .int .i64 0, .int .i64 0, .int .i64 0, .int .i64 0, .int .i64 0, .int .i64 0, .int .i64 0, .int .i64 0, .int .i64 0, .int .i64 0, .int .i64 0, .int .i64 0, .int .i64 0, .slice none 0 0, .int .i64 0, .int .i64 0, .int .i64 0, .int .i64 0, .int .i64 0, .int .i64 0, .int .i64 0] 36) = w2 at *
  generalize w1.heap.size = bA at *
  have k0 : w2.cell? ⟨bA, 0, none⟩ = some (.int .i64 6) := hA.cell 0
  have k1 : w2.cell? ⟨bA, 1, none⟩ = some (.string ⟨#[]⟩) := hA.cell 1
  have k2 : w2.cell? ⟨bA, 2, none⟩ = some (.int .i64 0) := hA.cell 2
  have k3 : w2.cell? ⟨bA, 3, none⟩ = some (.int .i64 0) := hA.cell 3
  have k4 : w2.cell? ⟨bA, 4, none⟩ = some (.int .i64 0) := hA.cell 4
  have k5 : w2.cell? ⟨bA, 5, none⟩ = some (.int .i64 0) := hA.cell 5
  have k6 : w2.cell? ⟨bA, 6, none⟩ = some (.int .i64 0) := hA.cell 6
  have k7 : w2.cell? ⟨bA, 7, none⟩ = some (.int .i64 0) := hA.cell 7
  have k8 : w2.cell? ⟨bA, 8, none⟩ = some (.int .i64 0) := hA.cell 8
  have k9 : w2.cell? ⟨bA, 9, none⟩ = some (.int .i64 0) := hA.cell 9
  have k10 : w2.cell? ⟨bA, 10, none⟩ = some (.int .i64 0) := hA.cell 10
  have k11 : w2.cell? ⟨bA, 11, none⟩ = some (.int .i64 0) := hA.cell 11
  have k12 : w2.cell? ⟨bA, 12, none⟩ = some (.int .i64 0) := hA.cell 12
  have k13 : w2.cell? ⟨bA, 13, none⟩ = some (.int .i64 0) := hA.cell 13
  have k14 : w2.cell? ⟨bA, 14, none⟩ = some (.int .i64 0) := hA.cell 14
  have k15 : w2.cell? ⟨bA, 15, none⟩ = some (.int .i64 0) := hA.cell 15
  have k16 : w2.cell? ⟨bA, 16, none⟩ = some (.slice none 0 0) := hA.cell 16
  have k17 : w2.cell? ⟨bA, 17, none⟩ = some (.int .i64 0) := hA.cell 17
  have k18 : w2.cell? ⟨bA, 18, none⟩ = some (.int .i64 0) := hA.cell 18
  have k19 : w2.cell? ⟨bA, 19, none⟩ = some (.int .i64 0) := hA.cell 19
  have k20 : w2.cell? ⟨bA, 20, none⟩ = some (.int .i64 0) := hA.cell 20
  have k21 : w2.cell? ⟨bA, 21, none⟩ = some (.int .i64 0) := hA.cell 21
  have k22 : w2.cell? ⟨bA, 22, none⟩ = some (.int .i64 0) := hA.cell 22
  have k23 : w2.cell? ⟨bA, 23, none⟩ = some (.int .i64 0) := hA.cell 23
  have lt_k := hA.lt
  go_upto_region 14 with fail
  clear k0 k1 k2 k3 k4 k5 k6 k7 k8 k9 k10 k11 k12 k13 k14 k15 k16 k17 k18 k19 k20 k21 k22 k23 lt_k
  have x1 : w2.cell? ⟨w.heap.size, 1, none⟩ = some (.int .u8 (b1 : Nat)) := hX.cell 1
  have x2 : w2.cell? ⟨w.heap.size, 2, none⟩ = some (.int .u8 (b2 : Nat)) := hX.cell 2
  have x3 : w2.cell? ⟨w.heap.size, 3, none⟩ = some (.int .u8 (b3 : Nat)) := hX.cell 3
  have x4 : w2.cell? ⟨w.heap.size, 4, none⟩ = some (.int .u8 (b4 : Nat)) := hX.cell 4
  have x5 : w2.cell? ⟨w.heap.size, 5, none⟩ = some (.int .u8 (b5 : Nat)) := hX.cell 5
  have lt_x := hX.lt
  have q_x1 := fun d os => cell_regrown x1 d os
  have q_x2 := fun d os => cell_regrown x2 d os
  have q_x3 := fun d os => cell_regrown x3 d os
  have q_x4 := fun d os => cell_regrown x4 d os
  have q_x5 := fun d os => cell_regrown x5 d os
  try simp only [List.append]
  refine wp_region_grown_tail 20 (by kernel_rfl) (by kernel_rfl) ?_
  simp only [List.take_succ_cons, List.take_zero]
  repeat (go_big_quiet_step (((go_at_call 19; first | with_reducible exact Calls.regrown_same (rest_any b0 7 _ 7 k7_ _ H0.out (by decide) (by decide) Eq0.out) | with_reducible exact Calls.regrown_same (rest_any b1 4 _ 4 k4_ _ H1.out (by decide) (by decide) Eq1.out) | with_reducible exact Calls.regrown_same (rest_any b2 4 _ 4 k4_ _ H2.out (by decide) (by decide) Eq2.out) | with_reducible exact Calls.regrown_same (rest_any b4 3 _ 3 k3_ _ H4.out (by decide) (by decide) Ep4.out)))))
  refine wpQuiet_nil ?_
  intro w3 hw3
  obtain ⟨pq, hw3⟩ := hw3
  have hb := below_regrown w2 pq.d pq.os
  rw [← hw3] at hb
  clear hw3
  clear q_x1 q_x2 q_x3 q_x4 q_x5
  clear x1 x2 x3 x4 x5 lt_x
  replace hX := hX.below hb hX.lt
  replace hR := hR.below hb hR.lt
  replace hA := hA.below hb hA.lt
  replace hB := hB.trans (hb.mono hs)
  replace hs := hB.size
  clear hb
  simp only [List.drop_succ_cons, List.drop_zero]
  have hth := hA.there_ 19 5 (by simp)
  refine wpList_store_mid rfl 34 (.tmp 62) (.tmp 61) rfl bA 19 #[.int .i64 (1 + (q1 : Int)), .int .i64 (1 + (q2 : Int)), .int .i64 (b3 : Nat), .int .i64 (p4 : Nat), .int .i64 (4 * (b5 : Int))] rfl rfl hth (by kernel_rfl) (by simp [Value.oneCell']) ?_
  obtain ⟨w4, hw4⟩ : ∃ x, x = w3.setCells bA 19 (#[.int .i64 (1 + (q1 : Int)), .int .i64 (1 + (q2 : Int)), .int .i64 (b3 : Nat), .int .i64 (p4 : Nat), .int .i64 (4 * (b5 : Int))] : Array Value).toList := ⟨_, rfl⟩
  rw [← hw4]
  have hgs := grown_sets (b := bA) [.int .i64 (1 + (q1 : Int)), .int .i64 (1 + (q2 : Int)), .int .i64 (b3 : Nat), .int .i64 (p4 : Nat), .int .i64 (4 * (b5 : Int))] 19 w3
  have hA2 : Blok w4 bA 36 #[.int .i64 6, .string ⟨#[]⟩, .int .i64 0, .int .i64 0, .int .i64 0, .int .i64 0, .int .i64 0, .int .i64 0, .int .i64 0, .int .i64 0, .int .i64 0, .int .i64 0, .int .i64 0, .int .i64 0, .int .i64 0, .int .i64 0, .slice none 0 0, .int .i64 0, .int .i64 0, .int .i64 (1 + (q1 : Int)), .int .i64 (1 + (q2 : Int)), .int .i64 (b3 : Nat), .int .i64 (p4 : Nat), .int .i64 (4 * (b5 : Int))] := by rw [hw4]; exact Blok.sets [.int .i64 (1 + (q1 : Int)), .int .i64 (1 + (q2 : Int)), .int .i64 (b3 : Nat), .int .i64 (p4 : Nat), .int .i64 (4 * (b5 : Int))] 19 w3 [.int .i64 6, .string ⟨#[]⟩, .int .i64 0, .int .i64 0, .int .i64 0, .int .i64 0, .int .i64 0, .int .i64 0, .int .i64 0, .int .i64 0, .int .i64 0, .int .i64 0, .int .i64 0, .int .i64 0, .int .i64 0, .int .i64 0, .slice none 0 0, .int .i64 0, .int .i64 0, .int .i64 0, .int .i64 0, .int .i64 0, .int .i64 0, .int .i64 0] hA (by simp)
  have hX2 : Blok w4 w.heap.size 23 #[.int .u8 (b0 : Nat), .int .u8 (b1 : Nat), .int .u8 (b2 : Nat), .int .u8 (b3 : Nat), .int .u8 (b4 : Nat), .int .u8 (b5 : Nat), .int .u8 (b6 : Nat), .int .u8 (b7 : Nat), .int .u8 (b8 : Nat), .int .u8 (b9 : Nat)] := by rw [hw4]; exact hX.grown hgs (by simp only [ne_eq, Option.some.injEq]; omega)
  have hR2 : Blok w4 (w.heap.size + 1) 36 #[.int .i64 0, .string ⟨#[]⟩, .int .i64 0, .int .i64 0, .int .i64 0, .int .i64 0, .int .i64 0, .int .i64 0, .int .i64 0, .int .i64 0, .int .i64 0, .int .i64 0, .int .i64 0, .int .i64 0, .int .i64 0, .int .i64 0, .slice none 0 0, .int .i64 0, .int .i64 0, .int .i64 0, .int .i64 0, .int .i64 0, .int .i64 0, .int .i64 0] := by rw [hw4]; exact hR.grown hgs (by simp only [ne_eq, Option.some.injEq]; omega)
  have hB2 : Below w.heap.size w w4 := by rw [hw4]; exact hB.grown hgs hs (fun k hk => by injection hk with hk; omega)
  clear hgs
  clear hA hX hR hB hs hth hw4
  have hA := hA2
  have hX := hX2
  have hR := hR2
  have hB := hB2
  have hs := hB.size
  clear hA2 hX2 hR2 hB2
  go_upto_region 18 with fail
  have hF := setRow_heap w4 (w.heap.size + 1) #[.int .i64 0, .string ⟨#[]⟩, .int .i64 0, .int .i64 0, .int .i64 0, .int .i64 0, .int .i64 0, .int .i64 0, .int .i64 0, .int .i64 0, .int .i64 0, .int .i64 0, .int .i64 0, .int .i64 0, .int .i64 0, .int .i64 0, .slice none 0 0, .int .i64 0, .int .i64 0, .int .i64 0, .int .i64 0, .int .i64 0, .int .i64 0, .int .i64 0] #[.int .i64 6, .string ⟨#[]⟩, .int .i64 0, .int .i64 0, .int .i64 0, .int .i64 0, .int .i64 0, .int .i64 0, .int .i64 0, .int .i64 0, .int .i64 0, .int .i64 0, .int .i64 0, .int .i64 0, .int .i64 0, .int .i64 0, .slice none 0 0, .int .i64 0, .int .i64 0, .int .i64 (1 + (q1 : Int)), .int .i64 (1 + (q2 : Int)), .int .i64 (b3 : Nat), .int .i64 (p4 : Nat), .int .i64 (4 * (b5 : Int))] 36 (0, 0) hR
  have hWf := below_setRow hB (g := w.heap.size + 1) (by omega) #[.int .i64 6, .string ⟨#[]⟩, .int .i64 0, .int .i64 0, .int .i64 0, .int .i64 0, .int .i64 0, .int .i64 0, .int .i64 0, .int .i64 0, .int .i64 0, .int .i64 0, .int .i64 0, .int .i64 0, .int .i64 0, .int .i64 0, .slice none 0 0, .int .i64 0, .int .i64 0, .int .i64 (1 + (q1 : Int)), .int .i64 (1 + (q2 : Int)), .int .i64 (b3 : Nat), .int .i64 (p4 : Nat), .int .i64 (4 * (b5 : Int))]
  have hgw := grown_setRow w4 (w.heap.size + 1) #[.int .i64 6, .string ⟨#[]⟩, .int .i64 0, .int .i64 0, .int .i64 0, .int .i64 0, .int .i64 0, .int .i64 0, .int .i64 0, .int .i64 0, .int .i64 0, .int .i64 0, .int .i64 0, .int .i64 0, .int .i64 0, .int .i64 0, .slice none 0 0, .int .i64 0, .int .i64 0, .int .i64 (1 + (q1 : Int)), .int .i64 (1 + (q2 : Int)), .int .i64 (b3 : Nat), .int .i64 (p4 : Nat), .int .i64 (4 * (b5 : Int))]
  have hA' := hA
  have hR' := hR
  go_wp2_with (first | (refine wpList_load_row (by rfl) 36 (.tmp 3) (by rfl) bA (by rfl) 36 #[.int .i64 6, .string ⟨#[]⟩, .int .i64 0, .int .i64 0, .int .i64 0, .int .i64 0, .int .i64 0, .int .i64 0, .int .i64 0, .int .i64 0, .int .i64 0, .int .i64 0, .int .i64 0, .int .i64 0, .int .i64 0, .int .i64 0, .slice none 0 0, .int .i64 0, .int .i64 0, .int .i64 (1 + (q1 : Int)), .int .i64 (1 + (q2 : Int)), .int .i64 (b3 : Nat), .int .i64 (p4 : Nat), .int .i64 (4 * (b5 : Int))] (0, 0) _ hA' Tryd.underlying36 rfl (by kernel_rfl) ?_) | (refine wpList_store_row (by rfl) 36 (.tmp 2) (.tmp 79) (by rfl) (w.heap.size + 1) #[.int .i64 6, .string ⟨#[]⟩, .int .i64 0, .int .i64 0, .int .i64 0, .int .i64 0, .int .i64 0, .int .i64 0, .int .i64 0, .int .i64 0, .int .i64 0, .int .i64 0, .int .i64 0, .int .i64 0, .int .i64 0, .int .i64 0, .slice none 0 0, .int .i64 0, .int .i64 0, .int .i64 (1 + (q1 : Int)), .int .i64 (1 + (q2 : Int)), .int .i64 (b3 : Nat), .int .i64 (p4 : Nat), .int .i64 (4 * (b5 : Int))] (by rfl) (by rfl) 36 #[.int .i64 0, .string ⟨#[]⟩, .int .i64 0, .int .i64 0, .int .i64 0, .int .i64 0, .int .i64 0, .int .i64 0, .int .i64 0, .int .i64 0, .int .i64 0, .int .i64 0, .int .i64 0, .int .i64 0, .int .i64 0, .int .i64 0, .slice none 0 0, .int .i64 0, .int .i64 0, .int .i64 0, .int .i64 0, .int .i64 0, .int .i64 0, .int .i64 0] hR' (by kernel_rfl) rfl (by simp [Value.oneCell']) ?_))
  refine bodyPost_ret (results_cell_row Tryd.results16 _ _ (w.heap.size + 1) 36 #[.int .i64 6, .string ⟨#[]⟩, .int .i64 0, .int .i64 0, .int .i64 0, .int .i64 0, .int .i64 0, .int .i64 0, .int .i64 0, .int .i64 0, .int .i64 0, .int .i64 0, .int .i64 0, .int .i64 0, .int .i64 0, .int .i64 0, .slice none 0 0, .int .i64 0, .int .i64 0, .int .i64 (1 + (q1 : Int)), .int .i64 (1 + (q2 : Int)), .int .i64 (b3 : Nat), .int .i64 (p4 : Nat), .int .i64 (4 * (b5 : Int))] (0, 0) _ (by rfl) hF Tryd.underlying36 rfl (by kernel_rfl)) rfl ?_
  exact ⟨_, rfl, ⟨none, 0, 0, by rw [← HP.out]; rfl, by rw [← HP.out]; exact own_none _ _ _ _, by rw [← HP.out]; rfl⟩, hWf⟩
end Go.Proofs.YtggdomeeienjbaaDoor

/- Package script: act, kind 6. No condition but that bytes are bytes. -/
namespace Go.Proofs.YtggdomeeienjbaaDoor
open Go.ChangeShapes Go.WideShapes Go.ChangeAt Go.RowKit Go.Sort
set_option linter.unusedSimpArgs false
set_option linter.unusedVariables false
set_option maxHeartbeats 16000000 in
set_option maxRecDepth 100000 in
theorem sact_6 (b0 b1 b2 b3 b4 b5 b6 b7 b8 b9 : Nat) (w : World) (ht : TenTab w) (h0 : b0 < 256) (h1 : b1 < 256) (h2 : b2 < 256) (h3 : b3 < 256) (h4 : b4 < 256) (h5 : b5 < 256) (h6 : b6 < 256) (h7 : b7 < 256) (h8 : b8 < 256) (h9 : b9 < 256) (P : Pa) (hq : b0 % 7 = 6) (hP : (⟨7, [], zeroDr, (b3 % 10 : Nat), [], 0, 0, (1 + b1 % 4 : Nat), (1 + b2 % 4 : Nat), 0, 0, 0⟩ : Pa) = P) :
    Calls Tryd.prog 16 #[.agg #[.int .u8 (b0 : Nat), .int .u8 (b1 : Nat), .int .u8 (b2 : Nat), .int .u8 (b3 : Nat), .int .u8 (b4 : Nat), .int .u8 (b5 : Nat), .int .u8 (b6 : Nat), .int .u8 (b7 : Nat), .int .u8 (b8 : Nat), .int .u8 (b9 : Nat)]] w fun e w' => ∃ v, e = .returned v ∧ AV w.heap.size w' v P ∧ Below w.heap.size w w' := by
  have Eq0 : Hid (b0 % 7 = 6) := hq
  obtain ⟨q1, eq1⟩ : ∃ q, b1 % 4 = q := ⟨_, rfl⟩
  have lq1 : q1 < 4 := by rw [← eq1]; exact Nat.mod_lt _ (by omega)
  rw [eq1] at hP
  have Eq1 := Lib.hid eq1
  obtain ⟨q2, eq2⟩ : ∃ q, b2 % 4 = q := ⟨_, rfl⟩
  have lq2 : q2 < 4 := by rw [← eq2]; exact Nat.mod_lt _ (by omega)
  rw [eq2] at hP
  have Eq2 := Lib.hid eq2
  obtain ⟨p3, ep3⟩ : ∃ q, b3 % 10 = q := ⟨_, rfl⟩
  have lp3 : p3 < 10 := by rw [← ep3]; exact Nat.mod_lt _ (by omega)
  rw [ep3] at hP
  have Ep3 := Lib.hid ep3
  have HP := Lib.hid hP
  have TT := Lib.hid ht
  have H0 := Lib.hid h0
  have H1 := Lib.hid h1
  have H2 := Lib.hid h2
  have H3 := Lib.hid h3
  have H4 := Lib.hid h4
  have H5 := Lib.hid h5
  have H6 := Lib.hid h6
  have H7 := Lib.hid h7
  have H8 := Lib.hid h8
  have H9 := Lib.hid h9
  have wq1 : IntKind.i64.wrap (1 + (q1 : Int)) = 1 + (q1 : Int) := IntWalk.i64_in _ (by omega)
  have wq2 : IntKind.i64.wrap (1 + (q2 : Int)) = 1 + (q2 : Int) := IntWalk.i64_in _ (by omega)
  have vb1 : IntKind.i64.wrap (b1 : Int) = (b1 : Int) := IntWalk.i64_in _ (by omega)
  have vb3 : IntKind.i64.wrap (b3 : Int) = (b3 : Int) := IntWalk.i64_in _ (by omega)
  have vb5 : IntKind.i64.wrap (b5 : Int) = (b5 : Int) := IntWalk.i64_in _ (by omega)
  have v45 : IntKind.i64.wrap (4 * (b5 : Int)) = 4 * (b5 : Int) := IntWalk.i64_in _ (by omega)
  clear hP ht hq eq1 lq1 eq2 lq2 ep3 lp3 h0 h1 h2 h3 h4 h5 h6 h7 h8 h9
  have hB : Below w.heap.size w ((w.alloc (.cells #[.int .u8 (b0 : Nat), .int .u8 (b1 : Nat), .int .u8 (b2 : Nat), .int .u8 (b3 : Nat), .int .u8 (b4 : Nat), .int .u8 (b5 : Nat), .int .u8 (b6 : Nat), .int .u8 (b7 : Nat), .int .u8 (b8 : Nat), .int .u8 (b9 : Nat)] 23)).alloc (.cells #[.int .i64 0, .string ⟨#[]⟩, .int .i64 0, .int .i64 0, .int .i64 0, .int .i64 0, .int .i64 0, .int .i64 0, .int .i64 0, .int .i64 0, .int .i64 0, .int .i64 0, .int .i64 0, .int .i64 0, .int .i64 0, .int .i64 0, .slice none 0 0, .int .i64 0, .int .i64 0, .int .i64 0, .int .i64 0, .int .i64 0, .int .i64 0, .int .i64 0] 36)) := by (repeat (first | exact Below.refl _ _ | refine Below.alloc ?_ (by first | omega | (simp; done) | (simp; omega)) _ | refine Below.setCell ?_ (by first | omega | (simp; done) | (simp; omega)) _ | refine Below.drew ?_))
  have hX := (Blok.new w 23 #[.int .u8 (b0 : Nat), .int .u8 (b1 : Nat), .int .u8 (b2 : Nat), .int .u8 (b3 : Nat), .int .u8 (b4 : Nat), .int .u8 (b5 : Nat), .int .u8 (b6 : Nat), .int .u8 (b7 : Nat), .int .u8 (b8 : Nat), .int .u8 (b9 : Nat)]).alloc (.cells #[.int .i64 0, .string ⟨#[]⟩, .int .i64 0, .int .i64 0, .int .i64 0, .int .i64 0, .int .i64 0, .int .i64 0, .int .i64 0, .int .i64 0, .int .i64 0, .int .i64 0, .int .i64 0, .int .i64 0, .int .i64 0, .int .i64 0, .slice none 0 0, .int .i64 0, .int .i64 0, .int .i64 0, .int .i64 0, .int .i64 0, .int .i64 0, .int .i64 0] 36)
  have hR := Blok.new (w.alloc (.cells #[.int .u8 (b0 : Nat), .int .u8 (b1 : Nat), .int .u8 (b2 : Nat), .int .u8 (b3 : Nat), .int .u8 (b4 : Nat), .int .u8 (b5 : Nat), .int .u8 (b6 : Nat), .int .u8 (b7 : Nat), .int .u8 (b8 : Nat), .int .u8 (b9 : Nat)] 23)) 36 #[.int .i64 0, .string ⟨#[]⟩, .int .i64 0, .int .i64 0, .int .i64 0, .int .i64 0, .int .i64 0, .int .i64 0, .int .i64 0, .int .i64 0, .int .i64 0, .int .i64 0, .int .i64 0, .int .i64 0, .int .i64 0, .int .i64 0, .slice none 0 0, .int .i64 0, .int .i64 0, .int .i64 0, .int .i64 0, .int .i64 0, .int .i64 0, .int .i64 0]
  rw [World.size_alloc] at hR
  have hs := hB.size
  go_enter Tryd.func16, Tryd.ntmps16
  go_upto_region 1 with fail
  generalize ((w.alloc (.cells #[.int .u8 (b0 : Nat), .int .u8 (b1 : Nat), .int .u8 (b2 : Nat), .int .u8 (b3 : Nat), .int .u8 (b4 : Nat), .int .u8 (b5 : Nat), .int .u8 (b6 : Nat), .int .u8 (b7 : Nat), .int .u8 (b8 : Nat), .int .u8 (b9 : Nat)] 23)).alloc (.cells #[.int .i64 0, .string ⟨#[]⟩, .int .i64 0, .int .i64 0, .int .i64 0, .int .i64 0, .int .i64 0, .int .i64 0, .int .i64 0, .int .i64 0, .int .i64 0, .int .i64 0, .int .i64 0, .int .i64 0, .int .i64 0, .int .i64 0, .slice none 0 0, .int .i64 0, .int .i64 0, .int .i64 0, .int .i64 0, .int .i64 0, .int .i64 0, .int .i64 0] 36)) = w1 at *
  have x0 : w1.cell? ⟨w.heap.size, 0, none⟩ = some (.int .u8 (b0 : Nat)) := hX.cell 0
  have lt_x := hX.lt
  go_upto_region 2 with (first | (refine wpList_store_row (by rfl) 36 (.tmp 3) (.tmp 8) (by rfl) w1.heap.size #[.int .i64 7, .string ⟨#[]⟩, .int .i64 0, .int .i64 0, .int .i64 0, .int .i64 0, .int .i64 0, .int .i64 0, .int .i64 0, .int .i64 0, .int .i64 0, .int .i64 0, .int .i64 0, .int .i64 0, .int .i64 0, .int .i64 0, .slice none 0 0, .int .i64 0, .int .i64 0, .int .i64 0, .int .i64 0, .int .i64 0, .int .i64 0, .int .i64 0] (by rfl) (by rfl) 36 #[.int .i64 0, .string ⟨#[]⟩, .int .i64 0, .int .i64 0, .int .i64 0, .int .i64 0, .int .i64 0, .int .i64 0, .int .i64 0, .int .i64 0, .int .i64 0, .int .i64 0, .int .i64 0, .int .i64 0, .int .i64 0, .int .i64 0, .slice none 0 0, .int .i64 0, .int .i64 0, .int .i64 0, .int .i64 0, .int .i64 0, .int .i64 0, .int .i64 0] (heap_alloc_new _ _) (by kernel_rfl) rfl (by simp [Value.oneCell']) ?_; rw [World.setRow_alloc_new]) | (refine wpList_build_run _ (by rfl) 36 #[(0, .tmp 7)] (by rfl) #[(0, .int .i64 7)] (by rfl) (bact 7 _) ?_) | (go_at_call 19; first | ((with_reducible refine Calls.mono (rest_any b0 7 _ 7 k7_ _ H0.out (by decide) (by decide) Eq0.out) ?_); rintro e9 w9 ⟨rfl, rfl⟩) | ((with_reducible refine Calls.mono (rest_any b1 4 _ 4 k4_ _ H1.out (by decide) (by decide) Eq1.out) ?_); rintro e9 w9 ⟨rfl, rfl⟩) | ((with_reducible refine Calls.mono (rest_any b2 4 _ 4 k4_ _ H2.out (by decide) (by decide) Eq2.out) ?_); rintro e9 w9 ⟨rfl, rfl⟩) | ((with_reducible refine Calls.mono (rest_any b3 10 _ 10 k10_ _ H3.out (by decide) (by decide) Ep3.out) ?_); rintro e9 w9 ⟨rfl, rfl⟩)))
  clear x0 lt_x
  have hA := Blok.new w1 36 #[.int .i64 7, .string ⟨#[]⟩, .int .i64 0, .int .i64 0, .int .i64 0, .int .i64 0, .int .i64 0, .int .i64 0, .int .i64 0, .int .i64 0, .int .i64 0, .int .i64 0, .int .i64 0, .int .i64 0, .int .i64 0, .int .i64 0, .slice none 0 0, .int .i64 0, .int .i64 0, .int .i64 0, .int .i64 0, .int .i64 0, .int .i64 0, .int .i64 0]
  have hb : Below w1.heap.size w1 (w1.alloc (.cells #[.int .i64 7, .string ⟨#[]⟩, .int .i64 0, .int .i64 0, .int .i64 0, .int .i64 0, .int .i64 0, .int .i64 0, .int .i64 0, .int .i64 0, .int .i64 0, .int .i64 0, .int .i64 0, .int .i64 0, .int .i64 0, .int .i64 0, .slice none 0 0, .int .i64 0, .int .i64 0, .int .i64 0, .int .i64 0, .int .i64 0, .int .i64 0, .int .i64 0] 36)) := by (repeat (first | exact Below.refl _ _ | refine Below.alloc ?_ (by first | omega | (simp; done) | (simp; omega)) _ | refine Below.setCell ?_ (by first | omega | (simp; done) | (simp; omega)) _ | refine Below.drew ?_))
  have lR := hR.lt
  replace hX := hX.below hb hX.lt
  replace hR := hR.below hb hR.lt
  replace hB := hB.trans (hb.mono hs)
  replace hs := hB.size
  clear hb
  generalize w1.alloc (.cells #[.int .i64 7, .string ⟨#[]⟩, .int .i64 0, .int .i64 0, .int .i64 0, .int .i64 0, .int .i64 0, .int .i64 0, .int .i64 0, .int .i64 0, .int .i64 0, .int .i64 0, .int .i64 0, .int .i64 0, .int .i64 0, .int .i64 0, .slice none 0 0, .int .i64 0, .int .i64 0, .int .i64 0, .int .i64 0, .int .i64 0, .int .i64 0, .int .i64 0] 36) = w2 at *
  generalize w1.heap.size = bA at *
  have k0 : w2.cell? ⟨bA, 0, none⟩ = some (.int .i64 7) := hA.cell 0
  have k1 : w2.cell? ⟨bA, 1, none⟩ = some (.string ⟨#[]⟩) := hA.cell 1
  have k2 : w2.cell? ⟨bA, 2, none⟩ = some (.int .i64 0) := hA.cell 2
  have k3 : w2.cell? ⟨bA, 3, none⟩ = some (.int .i64 0) := hA.cell 3
  have k4 : w2.cell? ⟨bA, 4, none⟩ = some (.int .i64 0) := hA.cell 4
  have k5 : w2.cell? ⟨bA, 5, none⟩ = some (.int .i64 0) := hA.cell 5
  have k6 : w2.cell? ⟨bA, 6, none⟩ = some (.int .i64 0) := hA.cell 6
  have k7 : w2.cell? ⟨bA, 7, none⟩ = some (.int .i64 0) := hA.cell 7
  have k8 : w2.cell? ⟨bA, 8, none⟩ = some (.int .i64 0) := hA.cell 8
  have k9 : w2.cell? ⟨bA, 9, none⟩ = some (.int .i64 0) := hA.cell 9
  have k10 : w2.cell? ⟨bA, 10, none⟩ = some (.int .i64 0) := hA.cell 10
  have k11 : w2.cell? ⟨bA, 11, none⟩ = some (.int .i64 0) := hA.cell 11
  have k12 : w2.cell? ⟨bA, 12, none⟩ = some (.int .i64 0) := hA.cell 12
  have k13 : w2.cell? ⟨bA, 13, none⟩ = some (.int .i64 0) := hA.cell 13
  have k14 : w2.cell? ⟨bA, 14, none⟩ = some (.int .i64 0) := hA.cell 14
  have k15 : w2.cell? ⟨bA, 15, none⟩ = some (.int .i64 0) := hA.cell 15
  have k16 : w2.cell? ⟨bA, 16, none⟩ = some (.slice none 0 0) := hA.cell 16
  have k17 : w2.cell? ⟨bA, 17, none⟩ = some (.int .i64 0) := hA.cell 17
  have k18 : w2.cell? ⟨bA, 18, none⟩ = some (.int .i64 0) := hA.cell 18
  have k19 : w2.cell? ⟨bA, 19, none⟩ = some (.int .i64 0) := hA.cell 19
  have k20 : w2.cell? ⟨bA, 20, none⟩ = some (.int .i64 0) := hA.cell 20
  have k21 : w2.cell? ⟨bA, 21, none⟩ = some (.int .i64 0) := hA.cell 21
  have k22 : w2.cell? ⟨bA, 22, none⟩ = some (.int .i64 0) := hA.cell 22
  have k23 : w2.cell? ⟨bA, 23, none⟩ = some (.int .i64 0) := hA.cell 23
  have lt_k := hA.lt
  go_upto_region 16 with fail
  clear k0 k1 k2 k3 k4 k5 k6 k7 k8 k9 k10 k11 k12 k13 k14 k15 k16 k17 k18 k19 k20 k21 k22 k23 lt_k
  have x1 : w2.cell? ⟨w.heap.size, 1, none⟩ = some (.int .u8 (b1 : Nat)) := hX.cell 1
  have x2 : w2.cell? ⟨w.heap.size, 2, none⟩ = some (.int .u8 (b2 : Nat)) := hX.cell 2
  have x3 : w2.cell? ⟨w.heap.size, 3, none⟩ = some (.int .u8 (b3 : Nat)) := hX.cell 3
  have x4 : w2.cell? ⟨w.heap.size, 4, none⟩ = some (.int .u8 (b4 : Nat)) := hX.cell 4
  have x5 : w2.cell? ⟨w.heap.size, 5, none⟩ = some (.int .u8 (b5 : Nat)) := hX.cell 5
  have lt_x := hX.lt
  have q_x1 := fun d os => cell_regrown x1 d os
  have q_x2 := fun d os => cell_regrown x2 d os
  have q_x3 := fun d os => cell_regrown x3 d os
  have q_x4 := fun d os => cell_regrown x4 d os
  have q_x5 := fun d os => cell_regrown x5 d os
  try simp only [List.append]
  refine wp_region_grown_tail 10 (by kernel_rfl) (by kernel_rfl) ?_
  simp only [List.take_succ_cons, List.take_zero]
  repeat (go_big_quiet_step (((go_at_call 19; first | with_reducible exact Calls.regrown_same (rest_any b0 7 _ 7 k7_ _ H0.out (by decide) (by decide) Eq0.out) | with_reducible exact Calls.regrown_same (rest_any b1 4 _ 4 k4_ _ H1.out (by decide) (by decide) Eq1.out) | with_reducible exact Calls.regrown_same (rest_any b2 4 _ 4 k4_ _ H2.out (by decide) (by decide) Eq2.out) | with_reducible exact Calls.regrown_same (rest_any b3 10 _ 10 k10_ _ H3.out (by decide) (by decide) Ep3.out)))))
  refine wpQuiet_nil ?_
  intro w3 hw3
  obtain ⟨pq, hw3⟩ := hw3
  have hb := below_regrown w2 pq.d pq.os
  rw [← hw3] at hb
  clear hw3
  clear q_x1 q_x2 q_x3 q_x4 q_x5
  clear x1 x2 x3 x4 x5 lt_x
  replace hX := hX.below hb hX.lt
  replace hR := hR.below hb hR.lt
  replace hA := hA.below hb hA.lt
  replace hB := hB.trans (hb.mono hs)
  replace hs := hB.size
  clear hb
  simp only [List.drop_succ_cons, List.drop_zero]
  have hth := hA.there_ 19 5 (by simp)
  refine wpList_store_mid rfl 34 (.tmp 74) (.tmp 73) rfl bA 19 #[.int .i64 (1 + (q1 : Int)), .int .i64 (1 + (q2 : Int)), .int .i64 0, .int .i64 0, .int .i64 0] rfl rfl hth (by kernel_rfl) (by simp [Value.oneCell']) ?_
  obtain ⟨w4, hw4⟩ : ∃ x, x = w3.setCells bA 19 (#[.int .i64 (1 + (q1 : Int)), .int .i64 (1 + (q2 : Int)), .int .i64 0, .int .i64 0, .int .i64 0] : Array Value).toList := ⟨_, rfl⟩
  rw [← hw4]
  have hgs := grown_sets (b := bA) [.int .i64 (1 + (q1 : Int)), .int .i64 (1 + (q2 : Int)), .int .i64 0, .int .i64 0, .int .i64 0] 19 w3
  have hA2 : Blok w4 bA 36 #[.int .i64 7, .string ⟨#[]⟩, .int .i64 0, .int .i64 0, .int .i64 0, .int .i64 0, .int .i64 0, .int .i64 0, .int .i64 0, .int .i64 0, .int .i64 0, .int .i64 0, .int .i64 0, .int .i64 0, .int .i64 0, .int .i64 0, .slice none 0 0, .int .i64 0, .int .i64 0, .int .i64 (1 + (q1 : Int)), .int .i64 (1 + (q2 : Int)), .int .i64 0, .int .i64 0, .int .i64 0] := by rw [hw4]; exact Blok.sets [.int .i64 (1 + (q1 : Int)), .int .i64 (1 + (q2 : Int)), .int .i64 0, .int .i64 0, .int .i64 0] 19 w3 [.int .i64 7, .string ⟨#[]⟩, .int .i64 0, .int .i64 0, .int .i64 0, .int .i64 0, .int .i64 0, .int .i64 0, .int .i64 0, .int .i64 0, .int .i64 0, .int .i64 0, .int .i64 0, .int .i64 0, .int .i64 0, .int .i64 0, .slice none 0 0, .int .i64 0, .int .i64 0, .int .i64 0, .int .i64 0, .int .i64 0, .int .i64 0, .int .i64 0] hA (by simp)
  have hX2 : Blok w4 w.heap.size 23 #[.int .u8 (b0 : Nat), .int .u8 (b1 : Nat), .int .u8 (b2 : Nat), .int .u8 (b3 : Nat), .int .u8 (b4 : Nat), .int .u8 (b5 : Nat), .int .u8 (b6 : Nat), .int .u8 (b7 : Nat), .int .u8 (b8 : Nat), .int .u8 (b9 : Nat)] := by rw [hw4]; exact hX.grown hgs (by simp only [ne_eq, Option.some.injEq]; omega)
  have hR2 : Blok w4 (w.heap.size + 1) 36 #[.int .i64 0, .string ⟨#[]⟩, .int .i64 0, .int .i64 0, .int .i64 0, .int .i64 0, .int .i64 0, .int .i64 0, .int .i64 0, .int .i64 0, .int .i64 0, .int .i64 0, .int .i64 0, .int .i64 0, .int .i64 0, .int .i64 0, .slice none 0 0, .int .i64 0, .int .i64 0, .int .i64 0, .int .i64 0, .int .i64 0, .int .i64 0, .int .i64 0] := by rw [hw4]; exact hR.grown hgs (by simp only [ne_eq, Option.some.injEq]; omega)
  have hB2 : Below w.heap.size w w4 := by rw [hw4]; exact hB.grown hgs hs (fun k hk => by injection hk with hk; omega)
  clear hgs
  clear hA hX hR hB hs hth hw4
  have hA := hA2
  have hX := hX2
  have hR := hR2
  have hB := hB2
  have hs := hB.size
  clear hA2 hX2 hR2 hB2
  go_upto_region 17 with fail
  have x3 : w4.cell? ⟨w.heap.size, 3, none⟩ = some (.int .u8 (b3 : Nat)) := hX.cell 3
  have lt_x := hX.lt
  have k0 : w4.cell? ⟨bA, 0, none⟩ = some (.int .i64 7) := hA.cell 0
  have g0 := hA.free 0
  have k1 : w4.cell? ⟨bA, 1, none⟩ = some (.string ⟨#[]⟩) := hA.cell 1
  have g1 := hA.free 1
  have k2 : w4.cell? ⟨bA, 2, none⟩ = some (.int .i64 0) := hA.cell 2
  have g2 := hA.free 2
  have k3 : w4.cell? ⟨bA, 3, none⟩ = some (.int .i64 0) := hA.cell 3
  have g3 := hA.free 3
  have k4 : w4.cell? ⟨bA, 4, none⟩ = some (.int .i64 0) := hA.cell 4
  have g4 := hA.free 4
  have k5 : w4.cell? ⟨bA, 5, none⟩ = some (.int .i64 0) := hA.cell 5
  have g5 := hA.free 5
  have k6 : w4.cell? ⟨bA, 6, none⟩ = some (.int .i64 0) := hA.cell 6
  have g6 := hA.free 6
  have k7 : w4.cell? ⟨bA, 7, none⟩ = some (.int .i64 0) := hA.cell 7
  have g7 := hA.free 7
  have k8 : w4.cell? ⟨bA, 8, none⟩ = some (.int .i64 0) := hA.cell 8
  have g8 := hA.free 8
  have k9 : w4.cell? ⟨bA, 9, none⟩ = some (.int .i64 0) := hA.cell 9
  have g9 := hA.free 9
  have k10 : w4.cell? ⟨bA, 10, none⟩ = some (.int .i64 0) := hA.cell 10
  have g10 := hA.free 10
  have k11 : w4.cell? ⟨bA, 11, none⟩ = some (.int .i64 0) := hA.cell 11
  have g11 := hA.free 11
  have k12 : w4.cell? ⟨bA, 12, none⟩ = some (.int .i64 0) := hA.cell 12
  have g12 := hA.free 12
  have k13 : w4.cell? ⟨bA, 13, none⟩ = some (.int .i64 0) := hA.cell 13
  have g13 := hA.free 13
  have k14 : w4.cell? ⟨bA, 14, none⟩ = some (.int .i64 0) := hA.cell 14
  have g14 := hA.free 14
  have k15 : w4.cell? ⟨bA, 15, none⟩ = some (.int .i64 0) := hA.cell 15
  have g15 := hA.free 15
  have k16 : w4.cell? ⟨bA, 16, none⟩ = some (.slice none 0 0) := hA.cell 16
  have g16 := hA.free 16
  have k17 : w4.cell? ⟨bA, 17, none⟩ = some (.int .i64 0) := hA.cell 17
  have g17 := hA.free 17
  have k18 : w4.cell? ⟨bA, 18, none⟩ = some (.int .i64 0) := hA.cell 18
  have g18 := hA.free 18
  have k19 : w4.cell? ⟨bA, 19, none⟩ = some (.int .i64 (1 + (q1 : Int))) := hA.cell 19
  have g19 := hA.free 19
  have k20 : w4.cell? ⟨bA, 20, none⟩ = some (.int .i64 (1 + (q2 : Int))) := hA.cell 20
  have g20 := hA.free 20
  have k21 : w4.cell? ⟨bA, 21, none⟩ = some (.int .i64 0) := hA.cell 21
  have g21 := hA.free 21
  have k22 : w4.cell? ⟨bA, 22, none⟩ = some (.int .i64 0) := hA.cell 22
  have g22 := hA.free 22
  have k23 : w4.cell? ⟨bA, 23, none⟩ = some (.int .i64 0) := hA.cell 23
  have g23 := hA.free 23
  have lt_k := hA.lt
  go_upto_region 18 with (go_at_call 19; first | ((with_reducible refine Calls.mono (rest_any b0 7 _ 7 k7_ _ H0.out (by decide) (by decide) Eq0.out) ?_); rintro e9 w9 ⟨rfl, rfl⟩) | ((with_reducible refine Calls.mono (rest_any b1 4 _ 4 k4_ _ H1.out (by decide) (by decide) Eq1.out) ?_); rintro e9 w9 ⟨rfl, rfl⟩) | ((with_reducible refine Calls.mono (rest_any b2 4 _ 4 k4_ _ H2.out (by decide) (by decide) Eq2.out) ?_); rintro e9 w9 ⟨rfl, rfl⟩) | ((with_reducible refine Calls.mono (rest_any b3 10 _ 10 k10_ _ H3.out (by decide) (by decide) Ep3.out) ?_); rintro e9 w9 ⟨rfl, rfl⟩))
  clear k0 g0 k1 g1 k2 g2 k3 g3 k4 g4 k5 g5 k6 g6 k7 g7 k8 g8 k9 g9 k10 g10 k11 g11 k12 g12 k13 g13 k14 g14 k15 g15 k16 g16 k17 g17 k18 g18 k19 g19 k20 g20 k21 g21 k22 g22 k23 g23 lt_k
  clear x3 lt_x
  have hA2 : Blok (w4.setCell ⟨bA, 15, none⟩ (.int .i64 (p3 : Nat))) bA 36 #[.int .i64 7, .string ⟨#[]⟩, .int .i64 0, .int .i64 0, .int .i64 0, .int .i64 0, .int .i64 0, .int .i64 0, .int .i64 0, .int .i64 0, .int .i64 0, .int .i64 0, .int .i64 0, .int .i64 0, .int .i64 0, .int .i64 (p3 : Nat), .slice none 0 0, .int .i64 0, .int .i64 0, .int .i64 (1 + (q1 : Int)), .int .i64 (1 + (q2 : Int)), .int .i64 0, .int .i64 0, .int .i64 0] := by exact (hA.set_ 15 (.int .i64 (p3 : Nat)))
  replace hX := (hX.far (p := ⟨bA, 15, none⟩) (by simp only; omega) (.int .i64 (p3 : Nat)))
  replace hR := (hR.far (p := ⟨bA, 15, none⟩) (by simp only; omega) (.int .i64 (p3 : Nat)))
  replace hB := (hB.setCell (p := ⟨bA, 15, none⟩) (by simp only; omega) (.int .i64 (p3 : Nat)))
  replace hs := hB.size
  clear hA
  have hA := hA2
  clear hA2
  generalize (w4.setCell ⟨bA, 15, none⟩ (.int .i64 (p3 : Nat))) = w5 at *
  have hF := setRow_heap w5 (w.heap.size + 1) #[.int .i64 0, .string ⟨#[]⟩, .int .i64 0, .int .i64 0, .int .i64 0, .int .i64 0, .int .i64 0, .int .i64 0, .int .i64 0, .int .i64 0, .int .i64 0, .int .i64 0, .int .i64 0, .int .i64 0, .int .i64 0, .int .i64 0, .slice none 0 0, .int .i64 0, .int .i64 0, .int .i64 0, .int .i64 0, .int .i64 0, .int .i64 0, .int .i64 0] #[.int .i64 7, .string ⟨#[]⟩, .int .i64 0, .int .i64 0, .int .i64 0, .int .i64 0, .int .i64 0, .int .i64 0, .int .i64 0, .int .i64 0, .int .i64 0, .int .i64 0, .int .i64 0, .int .i64 0, .int .i64 0, .int .i64 (p3 : Nat), .slice none 0 0, .int .i64 0, .int .i64 0, .int .i64 (1 + (q1 : Int)), .int .i64 (1 + (q2 : Int)), .int .i64 0, .int .i64 0, .int .i64 0] 36 (0, 0) hR
  have hWf := below_setRow hB (g := w.heap.size + 1) (by omega) #[.int .i64 7, .string ⟨#[]⟩, .int .i64 0, .int .i64 0, .int .i64 0, .int .i64 0, .int .i64 0, .int .i64 0, .int .i64 0, .int .i64 0, .int .i64 0, .int .i64 0, .int .i64 0, .int .i64 0, .int .i64 0, .int .i64 (p3 : Nat), .slice none 0 0, .int .i64 0, .int .i64 0, .int .i64 (1 + (q1 : Int)), .int .i64 (1 + (q2 : Int)), .int .i64 0, .int .i64 0, .int .i64 0]
  have hgw := grown_setRow w5 (w.heap.size + 1) #[.int .i64 7, .string ⟨#[]⟩, .int .i64 0, .int .i64 0, .int .i64 0, .int .i64 0, .int .i64 0, .int .i64 0, .int .i64 0, .int .i64 0, .int .i64 0, .int .i64 0, .int .i64 0, .int .i64 0, .int .i64 0, .int .i64 (p3 : Nat), .slice none 0 0, .int .i64 0, .int .i64 0, .int .i64 (1 + (q1 : Int)), .int .i64 (1 + (q2 : Int)), .int .i64 0, .int .i64 0, .int .i64 0]
  have hA' := hA
  have hR' := hR
  go_wp2_with (first | (refine wpList_load_row (by rfl) 36 (.tmp 3) (by rfl) bA (by rfl) 36 #[.int .i64 7, .string ⟨#[]⟩, .int .i64 0, .int .i64 0, .int .i64 0, .int .i64 0, .int .i64 0, .int .i64 0, .int .i64 0, .int .i64 0, .int .i64 0, .int .i64 0, .int .i64 0, .int .i64 0, .int .i64 0, .int .i64 (p3 : Nat), .slice none 0 0, .int .i64 0, .int .i64 0, .int .i64 (1 + (q1 : Int)), .int .i64 (1 + (q2 : Int)), .int .i64 0, .int .i64 0, .int .i64 0] (0, 0) _ hA' Tryd.underlying36 rfl (by kernel_rfl) ?_) | (refine wpList_store_row (by rfl) 36 (.tmp 2) (.tmp 79) (by rfl) (w.heap.size + 1) #[.int .i64 7, .string ⟨#[]⟩, .int .i64 0, .int .i64 0, .int .i64 0, .int .i64 0, .int .i64 0, .int .i64 0, .int .i64 0, .int .i64 0, .int .i64 0, .int .i64 0, .int .i64 0, .int .i64 0, .int .i64 0, .int .i64 (p3 : Nat), .slice none 0 0, .int .i64 0, .int .i64 0, .int .i64 (1 + (q1 : Int)), .int .i64 (1 + (q2 : Int)), .int .i64 0, .int .i64 0, .int .i64 0] (by rfl) (by rfl) 36 #[.int .i64 0, .string ⟨#[]⟩, .int .i64 0, .int .i64 0, .int .i64 0, .int .i64 0, .int .i64 0, .int .i64 0, .int .i64 0, .int .i64 0, .int .i64 0, .int .i64 0, .int .i64 0, .int .i64 0, .int .i64 0, .int .i64 0, .slice none 0 0, .int .i64 0, .int .i64 0, .int .i64 0, .int .i64 0, .int .i64 0, .int .i64 0, .int .i64 0] hR' (by kernel_rfl) rfl (by simp [Value.oneCell']) ?_))
  refine bodyPost_ret (results_cell_row Tryd.results16 _ _ (w.heap.size + 1) 36 #[.int .i64 7, .string ⟨#[]⟩, .int .i64 0, .int .i64 0, .int .i64 0, .int .i64 0, .int .i64 0, .int .i64 0, .int .i64 0, .int .i64 0, .int .i64 0, .int .i64 0, .int .i64 0, .int .i64 0, .int .i64 0, .int .i64 (p3 : Nat), .slice none 0 0, .int .i64 0, .int .i64 0, .int .i64 (1 + (q1 : Int)), .int .i64 (1 + (q2 : Int)), .int .i64 0, .int .i64 0, .int .i64 0] (0, 0) _ (by rfl) hF Tryd.underlying36 rfl (by kernel_rfl)) rfl ?_
  exact ⟨_, rfl, ⟨none, 0, 0, by rw [← HP.out]; rfl, by rw [← HP.out]; exact own_none _ _ _ _, by rw [← HP.out]; rfl⟩, hWf⟩
end Go.Proofs.YtggdomeeienjbaaDoor

/- Package script: act, whole; rows of acts. No condition but that bytes are bytes. -/
namespace Go.Proofs.YtggdomeeienjbaaDoor
open Go.ChangeShapes Go.WideShapes Go.ChangeAt Go.RowKit Go.Sort
set_option linter.unusedSimpArgs false
set_option linter.unusedVariables false
theorem sact_any (b0 b1 b2 b3 b4 b5 b6 b7 b8 b9 : Nat) (w : World) (ht : TenTab w) (h0 : b0 < 256) (h1 : b1 < 256) (h2 : b2 < 256) (h3 : b3 < 256) (h4 : b4 < 256) (h5 : b5 < 256) (h6 : b6 < 256) (h7 : b7 < 256) (h8 : b8 < 256) (h9 : b9 < 256) (P : Pa) (hP : actF b0 b1 b2 b3 b4 b5 b6 b7 b8 = P) :
    Calls Tryd.prog 16 #[.agg #[.int .u8 (b0 : Nat), .int .u8 (b1 : Nat), .int .u8 (b2 : Nat), .int .u8 (b3 : Nat), .int .u8 (b4 : Nat), .int .u8 (b5 : Nat), .int .u8 (b6 : Nat), .int .u8 (b7 : Nat), .int .u8 (b8 : Nat), .int .u8 (b9 : Nat)]] w fun e w' => ∃ v, e = .returned v ∧ AV w.heap.size w' v P ∧ Below w.heap.size w w' := by
  have hq : b0 % 7 = 0 ∨ b0 % 7 = 1 ∨ b0 % 7 = 2 ∨ b0 % 7 = 3 ∨ b0 % 7 = 4 ∨ b0 % 7 = 5 ∨ b0 % 7 = 6 := by omega
  rcases hq with hq | hq | hq | hq | hq | hq | hq
  · exact sact_0 b0 b1 b2 b3 b4 b5 b6 b7 b8 b9 w ht h0 h1 h2 h3 h4 h5 h6 h7 h8 h9 P hq (by rw [← hP]; simp [actF, hq])
  · exact sact_1 b0 b1 b2 b3 b4 b5 b6 b7 b8 b9 w ht h0 h1 h2 h3 h4 h5 h6 h7 h8 h9 P hq (by rw [← hP]; simp [actF, hq])
  · exact sact_2 b0 b1 b2 b3 b4 b5 b6 b7 b8 b9 w ht h0 h1 h2 h3 h4 h5 h6 h7 h8 h9 P hq (by rw [← hP]; simp [actF, hq])
  · exact sact_3 b0 b1 b2 b3 b4 b5 b6 b7 b8 b9 w ht h0 h1 h2 h3 h4 h5 h6 h7 h8 h9 P hq (by rw [← hP]; simp [actF, hq])
  · exact sact_4 b0 b1 b2 b3 b4 b5 b6 b7 b8 b9 w ht h0 h1 h2 h3 h4 h5 h6 h7 h8 h9 P hq (by rw [← hP]; simp [actF, hq])
  · exact sact_5 b0 b1 b2 b3 b4 b5 b6 b7 b8 b9 w ht h0 h1 h2 h3 h4 h5 h6 h7 h8 h9 P hq (by rw [← hP]; simp [actF, hq])
  · exact sact_6 b0 b1 b2 b3 b4 b5 b6 b7 b8 b9 w ht h0 h1 h2 h3 h4 h5 h6 h7 h8 h9 P hq (by rw [← hP]; simp [actF, hq])
/-- An act in memory: what it tells, where its IDs lie. -/
structure Ax where
  p : Pa
  A : Option Addr
  k : Nat
  c : Nat
def Ax.cs (x : Ax) : List Value := x.p.cs x.A x.k x.c
def flatAx (l : List Ax) : List Value := l.flatMap Ax.cs
def zeroAx : Ax := ⟨⟨0, [], zeroDr, 0, [], 0, 0, 0, 0, 0, 0, 0⟩, none, 0, 0⟩
def gAx (l : List Ax) (i : Nat) : Ax := l.getD i zeroAx
theorem Ax.cs_len (x : Ax) : x.cs.length = 24 := rfl
theorem flatAx_append (d e : List Ax) : flatAx (d ++ e) = flatAx d ++ flatAx e := by simp [flatAx]
theorem flatAx_length (d : List Ax) : (flatAx d).length = d.length * 24 := by
  induction d with
  | nil => rfl
  | cons p d ih => rw [show flatAx (p :: d) = p.cs ++ flatAx d from rfl, List.length_append, ih, Ax.cs_len, List.length_cons]; omega
theorem flatAx_at : ∀ (d : List Ax) (i j : Nat), i < d.length → j < 24 → (flatAx d)[i * 24 + j]? = (gAx d i).cs[j]?
  | p :: d, 0, j, _, hj => by
    rw [show flatAx (p :: d) = p.cs ++ flatAx d from rfl, List.getElem?_append_left (by rw [Ax.cs_len]; omega)]
    simp [gAx]
  | p :: d, i + 1, j, h, hj => by
    rw [show flatAx (p :: d) = p.cs ++ flatAx d from rfl, List.getElem?_append_right (by rw [Ax.cs_len]; omega), Ax.cs_len, show (i + 1) * 24 + j - 24 = i * 24 + j by omega, flatAx_at d i j (by simpa using h) hj]
    simp [gAx]
theorem flatAx_one (l : List Ax) : ∀ u ∈ flatAx l, u.oneCell' = true := by
  intro u hu
  obtain ⟨x, _, hx⟩ := List.mem_flatMap.1 hu
  simp only [Ax.cs, Pa.cs, List.mem_cons, List.not_mem_nil, or_false] at hx
  rcases hx with rfl | rfl | rfl | rfl | rfl | rfl | rfl | rfl | rfl | rfl | rfl | rfl | rfl | rfl | rfl | rfl | rfl | rfl | rfl | rfl | rfl | rfl | rfl | rfl <;> rfl
theorem gAx_mem {d : List Ax} {i : Nat} (h : i < d.length) : gAx d i ∈ d := by
  unfold gAx; rw [List.getD_eq_getElem?_getD, List.getElem?_eq_getElem h]; simp
/-- Its IDs are in memory. -/
def Ax.ok (w : World) (x : Ax) : Prop := x.p.ids.length = x.k ∧ x.k ≤ 1000000 ∧ Sl w w.heap.size 1 x.A x.k x.c (x.p.ids.map (Value.int .i64))
theorem Ax.ok.below {w w' : World} {x : Ax} (h : x.ok w) (hb : Below w.heap.size w w') : x.ok w' := ⟨h.1, h.2.1, h.2.2.up hb⟩
theorem own_apart {w : World} {base base' : Nat} {e e' : TypeId} {k k' n n' : Nat} {v v' : Value} {xs xs' : List Value} (h : w.ownsRow base e k v n xs) (h' : w.ownsRow base' e' k' v' n' xs') (hne : e ≠ e') : v.ownBlock = none ∨ v.ownBlock ≠ v'.ownBlock := by
  rcases h.2 with ⟨rfl, _⟩ | ⟨g, cap, cur, rfl, _, hg, _⟩
  · exact .inl rfl
  · refine .inr fun he => ?_
    rcases h'.2 with ⟨rfl, _⟩ | ⟨g', cap', cur', rfl, _, hg', _⟩
    · simp [Value.ownBlock] at he
    · have e1 : g = g' := by simpa [Value.ownBlock] using he
      subst e1
      rw [hg] at hg'
      injection hg' with h1
      injection h1 with _ h2
      exact hne h2
/-- The IDs' row is the call's own. -/
def Ax.own (base : Nat) (w : World) (x : Ax) : Prop := x.p.ids.length = x.k ∧ x.k ≤ 1000000 ∧ w.ownsRow base 3 1 (.slice x.A x.k x.c) x.k (x.p.ids.map (Value.int .i64))
theorem Ax.own.ok {base : Nat} {w : World} {x : Ax} (h : x.own base w) : x.ok w := ⟨h.1, h.2.1, Sl.of_own h.2.2⟩
/-- The acts of bytes, ten by ten. -/
def actsF (l : List Nat) : List Pa :=
  if h : 10 ≤ l.length then actF (l.getD 0 0) (l.getD 1 0) (l.getD 2 0) (l.getD 3 0) (l.getD 4 0) (l.getD 5 0) (l.getD 6 0) (l.getD 7 0) (l.getD 8 0) :: actsF (l.drop 10) else []
termination_by l.length
decreasing_by simp; omega
def cB (l : List Nat) : List Value := l.map fun (b : Nat) => Value.int .u8 (b : Int)
theorem cB_length (l : List Nat) : (cB l).length = l.length := by simp [cB]
theorem cB_drop (l : List Nat) (k : Nat) : (cB l).drop k = cB (l.drop k) := by simp [cB]
theorem cB_take (l : List Nat) (k : Nat) : (cB l).take k = cB (l.take k) := by simp [cB]
theorem cB_at (l : List Nat) (i : Nat) (h : i < l.length) : (cB l)[i]? = some (.int .u8 ((l.getD i 0 : Nat) : Int)) := by
  simp [cB, List.getD_eq_getElem?_getD, List.getElem?_eq_getElem h]
set_option maxRecDepth 100000 in
theorem brow (u0 u1 u2 u3 u4 u5 u6 u7 u8 u9 u10 u11 u12 u13 u14 u15 u16 u17 u18 u19 u20 u21 u22 u23 : Value) (w : World) : (Instr.buildSlice 24 1 #[(0, .agg #[u0, u1, u2, u3, u4, u5, u6, u7, u8, u9, u10, u11, u12, u13, u14, u15, u16, u17, u18, u19, u20, u21, u22, u23])]).run Tryd.prog w = .ok (.slice (some ⟨w.heap.size, 0, none⟩) 1 1) (w.alloc (.cells #[u0, u1, u2, u3, u4, u5, u6, u7, u8, u9, u10, u11, u12, u13, u14, u15, u16, u17, u18, u19, u20, u21, u22, u23] 36)) := by kernel_rfl
/-- An operation whose run is known. -/
theorem wpList_op_run {P : Program} {w w' : World} {ops : Array Oper} {rest : List Oper} {o : Oper} {a : Act} {Q : Exit → Act → World → Prop} (hgd : o.guard = none) {v : Value} (hr : (execOp a.eval o).run P w = .ok (.value v) w') (h : wpList P ops Q rest (a.put o.dst v) w') : wpList P ops Q (o :: rest) a w :=
  wpList_plain hgd fun _ hK => by
    unfold Oper.wp
    rw [hr]
    exact hK _ _ h
theorem buildSlice_run {P : Program} {w w' : World} {o : Oper} {ev : Operand → Value} {t : TypeId} {len : Nat} {parts : Array (Nat × Operand)} (ho : o.op = .buildSlice t len parts) {vals : Array (Nat × Value)} (hv : parts.map (fun p => (p.1, ev p.2)) = vals) {v : Value} (hr : (Instr.buildSlice t len vals).run P w = .ok v w') : (execOp ev o).run P w = .ok (.value v) w' := by
  unfold execOp
  have hv' : parts.map (fun x : Nat × Operand => match x with | (i, x) => (i, ev x)) = vals := hv
  simp only [ho, hv', Sem.run_bind, Sem.run_pure, hr, Result.andThen_ok]
theorem wpList_bs1 {w : World} {ops : Array Oper} {rest : List Oper} {o : Oper} {a : Act} {Q : Exit → Act → World → Prop} (hgd : o.guard = none) (x : Operand) (ho : o.op = .buildSlice 24 1 #[(0, x)]) (u0 u1 u2 u3 u4 u5 u6 u7 u8 u9 u10 u11 u12 u13 u14 u15 u16 u17 u18 u19 u20 u21 u22 u23 : Value) (hx : a.eval x = .agg #[u0, u1, u2, u3, u4, u5, u6, u7, u8, u9, u10, u11, u12, u13, u14, u15, u16, u17, u18, u19, u20, u21, u22, u23])
    (h : wpList Tryd.prog ops Q rest (a.put o.dst (.slice (some ⟨w.heap.size, 0, none⟩) 1 1)) (w.alloc (.cells #[u0, u1, u2, u3, u4, u5, u6, u7, u8, u9, u10, u11, u12, u13, u14, u15, u16, u17, u18, u19, u20, u21, u22, u23] 36))) : wpList Tryd.prog ops Q (o :: rest) a w := by
  refine wpList_op_run hgd (buildSlice_run ho (vals := #[(0, .agg #[u0, u1, u2, u3, u4, u5, u6, u7, u8, u9, u10, u11, u12, u13, u14, u15, u16, u17, u18, u19, u20, u21, u22, u23])]) ?_ (brow u0 u1 u2 u3 u4 u5 u6 u7 u8 u9 u10 u11 u12 u13 u14 u15 u16 u17 u18 u19 u20 u21 u22 u23 w)) h
  simp [hx]
end Go.Proofs.YtggdomeeienjbaaDoor

/- Package script: Acts. No condition but that bytes are bytes. -/
namespace Go.Proofs.YtggdomeeienjbaaDoor
open Go.ChangeShapes Go.WideShapes Go.ChangeAt Go.RowKit Go.Sort
set_option linter.unusedSimpArgs false
set_option linter.unusedVariables false
theorem infoAx : (Tryd.prog.info? 36).map (fun i => (i.zero, i.size, i.bytes)) = some (some (.agg #[.int .i64 0, .string ByteArray.empty, .int .i64 0, .int .i64 0, .int .i64 0, .int .i64 0, .int .i64 0, .int .i64 0, .int .i64 0, .int .i64 0, .int .i64 0, .int .i64 0, .int .i64 0, .int .i64 0, .int .i64 0, .int .i64 0, .slice none 0 0, .int .i64 0, .int .i64 0, .int .i64 0, .int .i64 0, .int .i64 0, .int .i64 0, .int .i64 0]), 24, 216) := by kernel_rfl
theorem actsF_nil {l : List Nat} (h : l.length < 10) : actsF l = [] := by rw [actsF, dif_neg (by omega)]
theorem actsF_next {l : List Nat} (h : 10 ≤ l.length) : actsF l = actF (l.getD 0 0) (l.getD 1 0) (l.getD 2 0) (l.getD 3 0) (l.getD 4 0) (l.getD 5 0) (l.getD 6 0) (l.getD 7 0) (l.getD 8 0) :: actsF (l.drop 10) := by rw [actsF, dif_pos h]
theorem actsF_take : ∀ (k : Nat) (l : List Nat), 10 * k + 10 ≤ l.length → actsF (l.take (10 * (k + 1))) = actsF (l.take (10 * k)) ++ [actF ((l.drop (10 * k)).getD 0 0) ((l.drop (10 * k)).getD 1 0) ((l.drop (10 * k)).getD 2 0) ((l.drop (10 * k)).getD 3 0) ((l.drop (10 * k)).getD 4 0) ((l.drop (10 * k)).getD 5 0) ((l.drop (10 * k)).getD 6 0) ((l.drop (10 * k)).getD 7 0) ((l.drop (10 * k)).getD 8 0)]
  | 0, l, h => by
    rw [actsF_next (by simp; omega), actsF_nil (l := l.take (10 * 0)) (by simp), actsF_nil (by simp)]
    simp [List.getD_eq_getElem?_getD, List.getElem?_take]
  | k + 1, l, h => by
    have e1 : 10 * (k + 1 + 1) = 10 * (k + 1) + 10 := by omega
    have e2 : 10 * (k + 1) = 10 * k + 10 := by omega
    rw [actsF_next (l := l.take (10 * (k + 1 + 1))) (by simp; omega), actsF_next (l := l.take (10 * (k + 1))) (by simp; omega)]
    have d1 : (l.take (10 * (k + 1 + 1))).drop 10 = (l.drop 10).take (10 * (k + 1)) := by rw [List.drop_take]; congr 1
    have d2 : (l.take (10 * (k + 1))).drop 10 = (l.drop 10).take (10 * k) := by rw [List.drop_take]; congr 1
    rw [d1, d2, actsF_take k (l.drop 10) (by simp; omega), List.drop_drop, show 10 + 10 * k = 10 * (k + 1) by omega]
    have g : ∀ j, j < 10 → (l.take (10 * (k + 1 + 1))).getD j 0 = (l.take (10 * (k + 1))).getD j 0 := fun j hj => by
      rw [List.getD_eq_getElem?_getD, List.getD_eq_getElem?_getD, List.getElem?_take, List.getElem?_take, if_pos (by omega), if_pos (by omega)]
    rw [g 0 (by omega), g 1 (by omega), g 2 (by omega), g 3 (by omega), g 4 (by omega), g 5 (by omega), g 6 (by omega), g 7 (by omega), g 8 (by omega)]
    rfl
theorem actsF_whole : ∀ (k : Nat) (l : List Nat), 10 * k ≤ l.length → l.length < 10 * k + 10 → actsF (l.take (10 * k)) = actsF l
  | 0, l, _, h => by rw [actsF_nil (by simp), actsF_nil (by omega)]
  | k + 1, l, h1, h2 => by
    rw [actsF_next (l := l) (by omega), actsF_next (by simp; omega)]
    have d2 : (l.take (10 * (k + 1))).drop 10 = (l.drop 10).take (10 * k) := by rw [List.drop_take]; congr 1
    rw [d2, actsF_whole k (l.drop 10) (by simp; omega) (by simp; omega)]
    have g : ∀ j, j < 10 → (l.take (10 * (k + 1))).getD j 0 = l.getD j 0 := fun j hj => by
      rw [List.getD_eq_getElem?_getD, List.getD_eq_getElem?_getD, List.getElem?_take, if_pos (by omega)]
    rw [g 0 (by omega), g 1 (by omega), g 2 (by omega), g 3 (by omega), g 4 (by omega), g 5 (by omega), g 6 (by omega), g 7 (by omega), g 8 (by omega)]
theorem Sl.bt {w : World} {B n c : Nat} {A : Option Addr} {l : List Nat} (h : Sl w B 1 A n c (cB l)) (hl : l.length = n) {j : Nat} (hj : j < n) : ∃ ad, A = some ad ∧ ad.block < B ∧ w.cell? (ad.add j) = some (.int .u8 ((l.getD j 0 : Nat) : Int)) := by
  obtain ⟨ad, e, hb, hc⟩ := h.lst.at_ (by omega)
  exact ⟨ad, e, hb, hc j _ (cB_at l j (by omega))⟩
theorem ten_cells {w : World} {ad : Addr} {B n c : Nat} {l : List Nat} (h : Sl w B 1 (some ad) n c (cB l)) (hl : l.length = n) (hn : 10 ≤ n) : ∀ j v, ([.int .u8 ((l.getD 0 0 : Nat) : Int), .int .u8 ((l.getD 1 0 : Nat) : Int), .int .u8 ((l.getD 2 0 : Nat) : Int), .int .u8 ((l.getD 3 0 : Nat) : Int), .int .u8 ((l.getD 4 0 : Nat) : Int), .int .u8 ((l.getD 5 0 : Nat) : Int), .int .u8 ((l.getD 6 0 : Nat) : Int), .int .u8 ((l.getD 7 0 : Nat) : Int), .int .u8 ((l.getD 8 0 : Nat) : Int), .int .u8 ((l.getD 9 0 : Nat) : Int)] : List Value)[j]? = some v → w.cell? (ad.add j) = some v := by
  intro j v hv
  have hj : j < 10 := by
    have := (List.getElem?_eq_some_iff.1 hv).1
    simpa using this
  obtain ⟨ad', e, _, hc⟩ := h.bt hl (j := j) (by omega)
  injection e with e
  subst e
  rw [hc]
  obtain rfl | rfl | rfl | rfl | rfl | rfl | rfl | rfl | rfl | rfl : j = 0 ∨ j = 1 ∨ j = 2 ∨ j = 3 ∨ j = 4 ∨ j = 5 ∨ j = 6 ∨ j = 7 ∨ j = 8 ∨ j = 9 := by omega
  all_goals simpa using hv
structure ActsI (w wr : World) (ps : List Pa) (v : Value) (k : Nat) (L : List Ax) : Prop where
  len : L.length = k
  rows : L.map Ax.p = ps
  own : wr.ownsRow w.heap.size 36 24 v k (flatAx L)
  ids : ∀ x ∈ L, x.own w.heap.size wr
theorem ActsI.below {w wr wr' : World} {ps : List Pa} {v : Value} {k : Nat} {L : List Ax} (h : ActsI w wr ps v k L) (hb : Below wr.heap.size wr wr') : ActsI w wr' ps v k L :=
  ⟨h.len, h.rows, own_below h.own hb, fun x hx => ⟨(h.ids x hx).1, (h.ids x hx).2.1, own_below (h.ids x hx).2.2 hb⟩⟩
theorem bs_nil : bs [] = ByteArray.empty := rfl
set_option maxHeartbeats 16000000 in
set_option maxRecDepth 100000 in
theorem sacts_any (A : Option Addr) (n c : Nat) (l : List Nat) (hl : l.length = n) (hn : n ≤ 100000) (hb : ∀ x ∈ l, x < 256) (w : World) (ht : TenTab w) (h : Sl w w.heap.size 1 A n c (cB l)) :
    Calls Tryd.prog 7 #[.slice A n c] w fun e w' => ∃ v L, e = .returned (.tuple #[v, .int .i64 (n % 10 : Nat)]) ∧ ActsI w w' (actsF l) v (n / 10) L ∧ Below w.heap.size w w' := by
  obtain ⟨i0, hi0, hz0, hz1, hz2⟩ := info_parts infoAx
  have HL := Lib.hid hl
  have HBY := Lib.hid hb
  have TT := Lib.hid ht
  have HH := Lib.hid h
  have HN := Lib.hid hn
  clear hl hb ht h hn
  go_enter Tryd.func7, Tryd.ntmps7
  go_wp2_with fail
  go_loopw [0, 4] (fun bv lv wr => ∃ (k m c' : Nat) (A' : Option Addr), bv = .slice A' m c' ∧ m + 10 * k = n ∧ Hid (Sl wr w.heap.size 1 A' m c' (cB (l.drop (10 * k)))) ∧ Hid (∃ L, ActsI w wr (actsF (l.take (10 * k))) lv k L) ∧ Below w.heap.size w wr) (fun bv _ _ => match bv with | .slice _ m _ => m | _ => 0)
  case atStart => exact ⟨0, n, c, A, rfl, by omega, by simpa [Hid] using HH.out, ⟨[], rfl, (actsF_nil (by simp)).symm, own_none _ _ _ _, fun x hx => by cases hx⟩, Below.refl _ _⟩
  case round =>
    obtain ⟨k, m, c', A', rfl, hmk, HS, HI, hB⟩ := hrel
    have hs := hB.size
    by_cases hm : 10 ≤ m
    · have g1 : decide ((m : Int) ≥ 10) = true := decide_eq_true (by omega)
      have hdl : (l.drop (10 * k)).length = m := by rw [List.length_drop, HL.out]; omega
      obtain ⟨ad, rfl, hab, _⟩ := HS.out.bt hdl (j := 0) (by omega)
      have hten := ten_cells HS.out hdl hm
      have hby : ∀ j, j < 10 → (l.drop (10 * k)).getD j 0 < 256 := fun j hj => by
        rw [List.getD_eq_getElem?_getD, List.getElem?_eq_getElem (by omega)]
        exact HBY.out _ (List.mem_of_mem_drop (List.getElem_mem _))
      obtain ⟨P, hP⟩ : ∃ P, actF ((l.drop (10 * k)).getD 0 0) ((l.drop (10 * k)).getD 1 0) ((l.drop (10 * k)).getD 2 0) ((l.drop (10 * k)).getD 3 0) ((l.drop (10 * k)).getD 4 0) ((l.drop (10 * k)).getD 5 0) ((l.drop (10 * k)).getD 6 0) ((l.drop (10 * k)).getD 7 0) ((l.drop (10 * k)).getD 8 0) = P := ⟨_, rfl⟩
      have hnx : actsF (l.take (10 * (k + 1))) = actsF (l.take (10 * k)) ++ [P] := by rw [actsF_take k l (by rw [HL.out]; omega), hP]
      have HNX := Lib.hid hnx
      have hpi : P.ids.length ≤ 2 := by rw [← hP]; exact actF_ids _ _ _ _ _ _ _ _ _
      have z0 := hby 0 (by omega)
      have z1 := hby 1 (by omega)
      have z2 := hby 2 (by omega)
      have z3 := hby 3 (by omega)
      have z4 := hby 4 (by omega)
      have z5 := hby 5 (by omega)
      have z6 := hby 6 (by omega)
      have z7 := hby 7 (by omega)
      have z8 := hby 8 (by omega)
      have z9 := hby 9 (by omega)
      obtain ⟨y0, y1, y2, y3, y4, y5, y6, y7, y8, y9, hys⟩ : ∃ y0 y1 y2 y3 y4 y5 y6 y7 y8 y9 : Nat, (l.drop (10 * k)).getD 0 0 = y0 ∧ (l.drop (10 * k)).getD 1 0 = y1 ∧ (l.drop (10 * k)).getD 2 0 = y2 ∧ (l.drop (10 * k)).getD 3 0 = y3 ∧ (l.drop (10 * k)).getD 4 0 = y4 ∧ (l.drop (10 * k)).getD 5 0 = y5 ∧ (l.drop (10 * k)).getD 6 0 = y6 ∧ (l.drop (10 * k)).getD 7 0 = y7 ∧ (l.drop (10 * k)).getD 8 0 = y8 ∧ (l.drop (10 * k)).getD 9 0 = y9 := ⟨_, _, _, _, _, _, _, _, _, _, rfl, rfl, rfl, rfl, rfl, rfl, rfl, rfl, rfl, rfl⟩
      obtain ⟨v0, v1, v2, v3, v4, v5, v6, v7, v8, v9⟩ := hys
      simp only [v0, v1, v2, v3, v4, v5, v6, v7, v8, v9] at hten hP z0 z1 z2 z3 z4 z5 z6 z7 z8 z9
      have HP := Lib.hid hP
      have HPI := Lib.hid hpi
      have HT := Lib.hid hten
      have HZ := Lib.hid (show y0 < 256 ∧ y1 < 256 ∧ y2 < 256 ∧ y3 < 256 ∧ y4 < 256 ∧ y5 < 256 ∧ y6 < 256 ∧ y7 < 256 ∧ y8 < 256 ∧ y9 < 256 from ⟨z0, z1, z2, z3, z4, z5, z6, z7, z8, z9⟩)
      clear v0 v1 v2 v3 v4 v5 v6 v7 v8 v9 z0 z1 z2 z3 z4 z5 z6 z7 z8 z9 hdl hby hnx hP hpi hten
      have hX0 := heap_alloc_new wr (.cells #[.int .u8 0, .int .u8 0, .int .u8 0, .int .u8 0, .int .u8 0, .int .u8 0, .int .u8 0, .int .u8 0, .int .u8 0, .int .u8 0] 23)
      have hb0 : Below wr.heap.size wr (wr.alloc (.cells #[.int .u8 0, .int .u8 0, .int .u8 0, .int .u8 0, .int .u8 0, .int .u8 0, .int .u8 0, .int .u8 0, .int .u8 0, .int .u8 0] 23)) := by (repeat (first | exact Below.refl _ _ | refine Below.alloc ?_ (by first | omega | (simp; done) | (simp; omega)) _ | refine Below.setCell ?_ (by first | omega | (simp; done) | (simp; omega)) _ | refine Below.drew ?_))
      have hsrc : ∀ j v, ([.int .u8 (y0 : Nat), .int .u8 (y1 : Nat), .int .u8 (y2 : Nat), .int .u8 (y3 : Nat), .int .u8 (y4 : Nat), .int .u8 (y5 : Nat), .int .u8 (y6 : Nat), .int .u8 (y7 : Nat), .int .u8 (y8 : Nat), .int .u8 (y9 : Nat)] : List Value)[j]? = some v → (wr.alloc (.cells #[.int .u8 0, .int .u8 0, .int .u8 0, .int .u8 0, .int .u8 0, .int .u8 0, .int .u8 0, .int .u8 0, .int .u8 0, .int .u8 0] 23)).cell? (ad.add j) = some v := fun j v hv => (hb0.cell (p := ad.add j) (by rw [add_block]; omega)).trans (HT.out j v hv)
      have hrc := run_copy_row (P := Tryd.prog) (wr.alloc (.cells #[.int .u8 0, .int .u8 0, .int .u8 0, .int .u8 0, .int .u8 0, .int .u8 0, .int .u8 0, .int .u8 0, .int .u8 0, .int .u8 0] 23)) 22 22 3 5 wr.heap.size 0 10 10 ad m c' #[.int .u8 0, .int .u8 0, .int .u8 0, .int .u8 0, .int .u8 0, .int .u8 0, .int .u8 0, .int .u8 0, .int .u8 0, .int .u8 0] 23 [.int .u8 (y0 : Nat), .int .u8 (y1 : Nat), .int .u8 (y2 : Nat), .int .u8 (y3 : Nat), .int .u8 (y4 : Nat), .int .u8 (y5 : Nat), .int .u8 (y6 : Nat), .int .u8 (y7 : Nat), .int .u8 (y8 : Nat), .int .u8 (y9 : Nat)] Tryd.underlying22 (by kernel_rfl) hX0 (Nat.min_eq_right hm).symm hsrc (by simp) (by simp [Value.oneCell'])
      go_upto_region 5 with (at_builtin; refine Lib.wpList_copy_run _ rfl _ _ 22 22 rfl _ _ rfl rfl hrc ?_)
      have hcells : ((#[.int .u8 0, .int .u8 0, .int .u8 0, .int .u8 0, .int .u8 0, .int .u8 0, .int .u8 0, .int .u8 0, .int .u8 0, .int .u8 0] : Array Value).toList.take 0 ++ ([.int .u8 (y0 : Nat), .int .u8 (y1 : Nat), .int .u8 (y2 : Nat), .int .u8 (y3 : Nat), .int .u8 (y4 : Nat), .int .u8 (y5 : Nat), .int .u8 (y6 : Nat), .int .u8 (y7 : Nat), .int .u8 (y8 : Nat), .int .u8 (y9 : Nat)] : List Value) ++ (#[.int .u8 0, .int .u8 0, .int .u8 0, .int .u8 0, .int .u8 0, .int .u8 0, .int .u8 0, .int .u8 0, .int .u8 0, .int .u8 0] : Array Value).toList.drop (0 + ([.int .u8 (y0 : Nat), .int .u8 (y1 : Nat), .int .u8 (y2 : Nat), .int .u8 (y3 : Nat), .int .u8 (y4 : Nat), .int .u8 (y5 : Nat), .int .u8 (y6 : Nat), .int .u8 (y7 : Nat), .int .u8 (y8 : Nat), .int .u8 (y9 : Nat)] : List Value).length)).toArray = (#[.int .u8 (y0 : Nat), .int .u8 (y1 : Nat), .int .u8 (y2 : Nat), .int .u8 (y3 : Nat), .int .u8 (y4 : Nat), .int .u8 (y5 : Nat), .int .u8 (y6 : Nat), .int .u8 (y7 : Nat), .int .u8 (y8 : Nat), .int .u8 (y9 : Nat)] : Array Value) := rfl
      try rw [hcells]
      rw [World.setRow_alloc_new]
      clear hcells hrc hsrc hX0 hb0
      have hX := Blok.new wr 23 #[.int .u8 (y0 : Nat), .int .u8 (y1 : Nat), .int .u8 (y2 : Nat), .int .u8 (y3 : Nat), .int .u8 (y4 : Nat), .int .u8 (y5 : Nat), .int .u8 (y6 : Nat), .int .u8 (y7 : Nat), .int .u8 (y8 : Nat), .int .u8 (y9 : Nat)]
      have hb0 : Below wr.heap.size wr (wr.alloc (.cells #[.int .u8 (y0 : Nat), .int .u8 (y1 : Nat), .int .u8 (y2 : Nat), .int .u8 (y3 : Nat), .int .u8 (y4 : Nat), .int .u8 (y5 : Nat), .int .u8 (y6 : Nat), .int .u8 (y7 : Nat), .int .u8 (y8 : Nat), .int .u8 (y9 : Nat)] 23)) := by (repeat (first | exact Below.refl _ _ | refine Below.alloc ?_ (by first | omega | (simp; done) | (simp; omega)) _ | refine Below.setCell ?_ (by first | omega | (simp; done) | (simp; omega)) _ | refine Below.drew ?_))
      replace HS := Lib.hid (HS.out.below (B := w.heap.size) ⟨hb0.os, hb0.tape, hb0.output, hb0.size, fun q hq => hb0.block q (by omega)⟩)
      obtain ⟨L, hI⟩ := HI.out
      clear HI
      replace hI := hI.below hb0
      replace hB := hB.trans (hb0.mono hs)
      replace hs := hB.size
      clear hb0
      generalize wr.alloc (.cells #[.int .u8 (y0 : Nat), .int .u8 (y1 : Nat), .int .u8 (y2 : Nat), .int .u8 (y3 : Nat), .int .u8 (y4 : Nat), .int .u8 (y5 : Nat), .int .u8 (y6 : Nat), .int .u8 (y7 : Nat), .int .u8 (y8 : Nat), .int .u8 (y9 : Nat)] 23) = w2 at *
      generalize wr.heap.size = bX at *
      have x0 : w2.cell? ⟨bX, 0, none⟩ = some (.int .u8 (y0 : Nat)) := hX.cell 0
      have x1 : w2.cell? ⟨bX, 1, none⟩ = some (.int .u8 (y1 : Nat)) := hX.cell 1
      have x2 : w2.cell? ⟨bX, 2, none⟩ = some (.int .u8 (y2 : Nat)) := hX.cell 2
      have x3 : w2.cell? ⟨bX, 3, none⟩ = some (.int .u8 (y3 : Nat)) := hX.cell 3
      have x4 : w2.cell? ⟨bX, 4, none⟩ = some (.int .u8 (y4 : Nat)) := hX.cell 4
      have x5 : w2.cell? ⟨bX, 5, none⟩ = some (.int .u8 (y5 : Nat)) := hX.cell 5
      have x6 : w2.cell? ⟨bX, 6, none⟩ = some (.int .u8 (y6 : Nat)) := hX.cell 6
      have x7 : w2.cell? ⟨bX, 7, none⟩ = some (.int .u8 (y7 : Nat)) := hX.cell 7
      have x8 : w2.cell? ⟨bX, 8, none⟩ = some (.int .u8 (y8 : Nat)) := hX.cell 8
      have x9 : w2.cell? ⟨bX, 9, none⟩ = some (.int .u8 (y9 : Nat)) := hX.cell 9
      have lt_x := hX.lt
      have HI := Lib.hid hI
      clear hI
      go_wp2_with fail
      refine (sact_any y0 y1 y2 y3 y4 y5 y6 y7 y8 y9 w2 (TT.out.below hB) HZ.out.1 HZ.out.2.1 HZ.out.2.2.1 HZ.out.2.2.2.1 HZ.out.2.2.2.2.1 HZ.out.2.2.2.2.2.1 HZ.out.2.2.2.2.2.2.1 HZ.out.2.2.2.2.2.2.2.1 HZ.out.2.2.2.2.2.2.2.2.1 HZ.out.2.2.2.2.2.2.2.2.2 P HP.out).mono ?_
      rintro e w3 ⟨v, rfl, ⟨A5, k5, c5, rfl, hids, hk5⟩, hb3⟩
      replace hids := own_down (base' := w.heap.size) hids hs
      rw [hk5] at hids
      have hI := HI.out.below hb3
      replace HS := Lib.hid (HS.out.below (B := w.heap.size) ⟨hb3.os, hb3.tape, hb3.output, hb3.size, fun q hq => hb3.block q (by omega)⟩)
      replace hB := hB.trans (hb3.mono hs)
      replace hs := hB.size
      clear hb3 HI hX x0 x1 x2 x3 x4 x5 x6 x7 x8 x9 lt_x
      have hown := hI.own
      obtain ⟨A6, c6, rfl⟩ := slice_of_own hown
      have hlits := own_lit w3 w.heap.size 36 24 1 #[.int .i64 P.dk, .string (bs P.tx), .int .i64 P.D.op, .int .i64 P.D.kd, .int .i64 P.D.id, .int .i64 P.D.fr, .int .i64 P.D.tn, .int .i64 P.D.st, .int .i64 P.D.en, .int .i64 P.D.rt, .int .i64 P.D.rf, .int .i64 P.D.rn, .int .i64 P.D.rs, .int .i64 P.D.re, .int .i64 P.D.ro, .int .i64 P.n, .slice A5 k5 c5, .int .i64 P.cl, .int .i64 P.sz, .int .i64 P.bf, .int .i64 P.bt, .int .i64 P.bs_, .int .i64 P.bc, .int .i64 P.bd] hs rfl (by simp [maxLen])
      have hb4 : Below w3.heap.size w3 (w3.alloc (.cells #[.int .i64 P.dk, .string (bs P.tx), .int .i64 P.D.op, .int .i64 P.D.kd, .int .i64 P.D.id, .int .i64 P.D.fr, .int .i64 P.D.tn, .int .i64 P.D.st, .int .i64 P.D.en, .int .i64 P.D.rt, .int .i64 P.D.rf, .int .i64 P.D.rn, .int .i64 P.D.rs, .int .i64 P.D.re, .int .i64 P.D.ro, .int .i64 P.n, .slice A5 k5 c5, .int .i64 P.cl, .int .i64 P.sz, .int .i64 P.bf, .int .i64 P.bt, .int .i64 P.bs_, .int .i64 P.bc, .int .i64 P.bd] 36)) := by (repeat (first | exact Below.refl _ _ | refine Below.alloc ?_ (by first | omega | (simp; done) | (simp; omega)) _ | refine Below.setCell ?_ (by first | omega | (simp; done) | (simp; omega)) _ | refine Below.drew ?_))
      have hown4 := own_below hown hb4
      have hnew : (w3.alloc (.cells #[.int .i64 P.dk, .string (bs P.tx), .int .i64 P.D.op, .int .i64 P.D.kd, .int .i64 P.D.id, .int .i64 P.D.fr, .int .i64 P.D.tn, .int .i64 P.D.st, .int .i64 P.D.en, .int .i64 P.D.rt, .int .i64 P.D.rf, .int .i64 P.D.rn, .int .i64 P.D.rs, .int .i64 P.D.re, .int .i64 P.D.ro, .int .i64 P.n, .slice A5 k5 c5, .int .i64 P.cl, .int .i64 P.sz, .int .i64 P.bf, .int .i64 P.bt, .int .i64 P.bs_, .int .i64 P.bc, .int .i64 P.bd] 36)).ownsRow w.heap.size 36 24 (.slice (some ⟨w3.heap.size, 0, none⟩) 1 1) 1 [.int .i64 P.dk, .string (bs P.tx), .int .i64 P.D.op, .int .i64 P.D.kd, .int .i64 P.D.id, .int .i64 P.D.fr, .int .i64 P.D.tn, .int .i64 P.D.st, .int .i64 P.D.en, .int .i64 P.D.rt, .int .i64 P.D.rf, .int .i64 P.D.rn, .int .i64 P.D.rs, .int .i64 P.D.re, .int .i64 P.D.ro, .int .i64 P.n, .slice A5 k5 c5, .int .i64 P.cl, .int .i64 P.sz, .int .i64 P.bf, .int .i64 P.bt, .int .i64 P.bs_, .int .i64 P.bc, .int .i64 P.bd] := hlits
      have hsz4 : w.heap.size ≤ (w3.alloc (.cells #[.int .i64 P.dk, .string (bs P.tx), .int .i64 P.D.op, .int .i64 P.D.kd, .int .i64 P.D.id, .int .i64 P.D.fr, .int .i64 P.D.tn, .int .i64 P.D.st, .int .i64 P.D.en, .int .i64 P.D.rt, .int .i64 P.D.rf, .int .i64 P.D.rn, .int .i64 P.D.rs, .int .i64 P.D.re, .int .i64 P.D.ro, .int .i64 P.n, .slice A5 k5 c5, .int .i64 P.cl, .int .i64 P.sz, .int .i64 P.bf, .int .i64 P.bt, .int .i64 P.bs_, .int .i64 P.bc, .int .i64 P.bd] 36)).heap.size := by simp; omega
      have HIH := Lib.hid hI
      have HIDS := Lib.hid hids
      have HK5 := Lib.hid hk5
      clear hI hids hk5 hlits hown
      have hn9 := HN.out
      go_upto_region 6 with (first | (at_builtin; refine wpList_append_own _ rfl _ _ 24 rfl w.heap.size 36 i0 _ 24 216 Tryd.underlying24 hi0 hz0 hz1 hz2 rfl (by decide) _ _ _ rfl hown4 ⟨w3.heap.size, 0, none⟩ 1 1 [.int .i64 P.dk, .string (bs P.tx), .int .i64 P.D.op, .int .i64 P.D.kd, .int .i64 P.D.id, .int .i64 P.D.fr, .int .i64 P.D.tn, .int .i64 P.D.st, .int .i64 P.D.en, .int .i64 P.D.rt, .int .i64 P.D.rf, .int .i64 P.D.rn, .int .i64 P.D.rs, .int .i64 P.D.re, .int .i64 P.D.ro, .int .i64 P.n, .slice A5 k5 c5, .int .i64 P.cl, .int .i64 P.sz, .int .i64 P.bf, .int .i64 P.bt, .int .i64 P.bs_, .int .i64 P.bc, .int .i64 P.bd] rfl rfl (by exact lit_cells w3 #[.int .i64 P.dk, .string (bs P.tx), .int .i64 P.D.op, .int .i64 P.D.kd, .int .i64 P.D.id, .int .i64 P.D.fr, .int .i64 P.D.tn, .int .i64 P.D.st, .int .i64 P.D.en, .int .i64 P.D.rt, .int .i64 P.D.rf, .int .i64 P.D.rn, .int .i64 P.D.rs, .int .i64 P.D.re, .int .i64 P.D.ro, .int .i64 P.n, .slice A5 k5 c5, .int .i64 P.cl, .int .i64 P.sz, .int .i64 P.bf, .int .i64 P.bt, .int .i64 P.bs_, .int .i64 P.bc, .int .i64 P.bd] _ _ rfl) (by simp [Value.oneCell']) (by unfold maxLen; omega) (by omega) hsz4 ?_; intro v' w5 hown' hgrow5 hnil5) | (refine wpList_bs1 (by rfl) (.tmp 14) (by rfl) (.int .i64 P.dk) (.string (bs P.tx)) (.int .i64 P.D.op) (.int .i64 P.D.kd) (.int .i64 P.D.id) (.int .i64 P.D.fr) (.int .i64 P.D.tn) (.int .i64 P.D.st) (.int .i64 P.D.en) (.int .i64 P.D.rt) (.int .i64 P.D.rf) (.int .i64 P.D.rn) (.int .i64 P.D.rs) (.int .i64 P.D.re) (.int .i64 P.D.ro) (.int .i64 P.n) (.slice A5 k5 c5) (.int .i64 P.cl) (.int .i64 P.sz) (.int .i64 P.bf) (.int .i64 P.bt) (.int .i64 P.bs_) (.int .i64 P.bc) (.int .i64 P.bd) (by rfl) ?_))
      have hB5 : Below w.heap.size w w5 := (hB.alloc hs _).grown hgrow5 (by simp; omega) (fun q hq => (hown4.lt q hq).1)
      have hk5' : Kept (fun g => (Value.slice A6 k c6).ownBlock = some g) w3 w5 := (Kept.of_below hb4).grow_ hgrow5 (fun i _ e => e)
      have hI' : ActsI w w5 (actsF (l.take (10 * (k + 1)))) v' (k + 1) (L ++ [⟨P, A5, k5, c5⟩]) := by
        have hI := HIH.out
        refine ⟨by simp [hI.len], by rw [List.map_append, hI.rows, HNX.out]; rfl, by rw [flatAx_append]; exact hown', fun x hx => ?_⟩
        have hap : ∀ {k9 : Nat} {v9 : Value} {xs9 : List Value}, w3.ownsRow w.heap.size 3 1 v9 k9 xs9 → w5.ownsRow w.heap.size 3 1 v9 k9 xs9 := fun {k9 v9 xs9} h9 => own_kept h9 hk5' (fun g hg e => by
          rcases own_apart h9 hI.own (by decide) with h0 | h0
          · rw [h0] at hg; cases hg
          · rw [hg, e] at h0; exact h0 rfl)
        rcases List.mem_append.1 hx with hx | hx
        · exact ⟨(hI.ids x hx).1, (hI.ids x hx).2.1, hap (hI.ids x hx).2.2⟩
        · simp at hx
          subst hx
          have h2 := HPI.out
          have h3 := HK5.out
          exact ⟨h3, by show k5 ≤ 1000000; omega, hap HIDS.out⟩
      have hSl : Hid (Sl w5 w.heap.size 1 (some ad) m c' (cB (l.drop (10 * k)))) := HS.out.below ⟨hk5'.os, hk5'.tape, hk5'.output, hk5'.size, fun q hq => hk5'.block q (by omega) (fun e => by have := (hown4.lt q e).1; omega)⟩
      have HI2 := Lib.hid hI'
      clear hown4 hown' hgrow5 hnil5 hk5' hI' hnew hb4 hsz4 hB hs HIH HIDS HK5 HS
      have hs := hB5.size
      have hcm := hSl.out.cap
      have g2 : decide ((10 : Int) ≤ (c' : Int)) = true := decide_eq_true (by omega)
      have g3 : decide ((10 : Int) ≤ (m : Int)) = true := decide_eq_true (by omega)
      have g4 : (10 : Int) ≤ (c' : Int) := by omega
      have g5 : (10 : Int) ≤ (m : Int) := by omega
      have g6 : 10 ≤ c' := by omega
      have hfrom : Hid (Sl w5 w.heap.size 1 (if c' = 10 then some ad else some ⟨ad.block, ad.off + 10, none⟩) (m - 10) (c' - 10) (cB (l.drop (10 * (k + 1))))) := by
        have h := hSl.out.from_ (m := 10) hm
        rw [cB_drop, List.drop_drop, show 10 * k + 10 * 1 = 10 * (k + 1) by omega] at h
        exact h
      go_wp2_with fail
      go_roundw
      case rel => exact ⟨k + 1, m - 10, c' - 10, _, rfl, by omega, hfrom, ⟨_, HI2.out⟩, hB5⟩
      case measure => simp; omega
    · have g1 : decide ((m : Int) ≥ 10) = false := decide_eq_false (by omega)
      go_wp2_with fail
      go_ret2
      obtain ⟨L, hI⟩ := HI.out
      have e1 : n / 10 = k := by omega
      have e2 : n % 10 = m := by omega
      rw [e1, e2]
      rw [actsF_whole k l (by rw [HL.out]; omega) (by rw [HL.out]; omega)] at hI
      exact ⟨_, L, rfl, hI, hB⟩
end Go.Proofs.YtggdomeeienjbaaDoor

/- slices.Equal at ints. No condition but on sizes. -/
namespace Go.Proofs.YtggdomeeienjbaaDoor
open Go.ChangeShapes Go.WideShapes Go.ChangeAt Go.RowKit Go.Sort
set_option linter.unusedSimpArgs false
set_option linter.unusedVariables false
set_option maxHeartbeats 1000000 in
set_option maxRecDepth 100000 in
theorem equalI_any (A A' : Option Addr) (n c n' c' : Nat) (d d' : List Int) (w : World) (hd : d.length = n) (hd' : d'.length = n') (hn : n ≤ 1000000) (hn' : n' ≤ 1000000) (h : Sl w w.heap.size 1 A n c (d.map (Value.int .i64))) (h' : Sl w w.heap.size 1 A' n' c' (d'.map (Value.int .i64))) :
    Calls Tryd.prog 22 #[.slice A n c, .slice A' n' c'] w fun e w' => e = .returned (.bool (decide (d = d'))) ∧ Below w.heap.size w w' := by
  by_cases hne : n = n'
  · subst hne
    have hz : ((n : Int) != (n : Int)) = false := by simp
    go_enter Tryd.func22, Tryd.ntmps22
    go_wp2
    go_loopw [13] (fun i wr => ∃ k : Nat, k ≤ n ∧ i = .int .i64 k ∧ Hid (∀ j, j < k → d.getD j 0 = d'.getD j 0) ∧ Below w.heap.size w wr) (fun i _ => n - (intOf i).toNat)
    case atStart => exact ⟨0, by omega, rfl, (fun j hj => by omega), Below.refl _ _⟩
    case round =>
      obtain ⟨k, hk, rfl, HQ, hB⟩ := hrel
      by_cases hkn : k < n
      · obtain ⟨ad, rfl, hab, c0⟩ := (h.below hB).lst.atI hd hkn
        obtain ⟨ad', rfl, hab', e0⟩ := (h'.below hB).lst.atI hd' hkn
        generalize hx : d.getD k 0 = x at *
        generalize hy : d'.getD k 0 = y at *
        have HX := Lib.hid hx
        have HY := Lib.hid hy
        clear hx hy
        go_wp2_with fail
        have q_c0 := fun d os => cell_regrown c0 d os
        have q_e0 := fun d os => cell_regrown e0 d os
        by_cases hxy : x = y
        · have HE := Lib.hid hxy
          have hb : (x != y) = false := by simp [hxy]
          clear hxy
          try simp only [List.append]
          first | refine wp_region_text_below ?_ | refine wp_region_quiet_below (by kernel_rfl) (by kernel_rfl) ?_
          repeat (go_big_quiet_step ((fail)))
          refine wpQuiet_nil ?_
          intro _ hqw
          obtain ⟨pq, hqw⟩ := hqw
          subst hqw
          clear q_c0 q_e0
          have hbel := below_regrown wr pq.d pq.os
          have hB2 := hB.trans (hbel.mono hB.size)
          clear hbel c0 e0 hB
          generalize grow (redrawn wr pq.d) pq.os = wq at *
          go_wp2
          go_roundw
          case rel => exact ⟨k + 1, by omega, by go_num, (fun j hj => by
            by_cases e : j = k
            · rw [e, HX.out, HY.out]; exact HE.out
            · exact HQ.out j (by omega)), hB2⟩
          case measure => simp [intOf]; omega
        · have hb : (x != y) = true := by simpa using hxy
          have hfin : decide (d = d') = false := by
            rw [decide_eq_false_iff_not]
            intro e
            have e1 := HX.out
            rw [e, HY.out] at e1
            exact hxy e1.symm
          have HF := Lib.hid hfin
          clear hxy hfin
          try simp only [List.append]
          first | refine wp_region_text_below ?_ | refine wp_region_quiet_below (by kernel_rfl) (by kernel_rfl) ?_
          repeat (go_big_quiet_step ((fail)))
          refine wpQuiet_nil ?_
          intro _ hqw
          obtain ⟨pq, hqw⟩ := hqw
          subst hqw
          clear q_c0 q_e0
          have hbel := below_regrown wr pq.d pq.os
          have hB2 := hB.trans (hbel.mono hB.size)
          clear hbel c0 e0 hB
          generalize grow (redrawn wr pq.d) pq.os = wq at *
          go_wp2
          go_ret
          exact ⟨by rw [HF.out]; rfl, hB2⟩
      · obtain rfl : k = n := by omega
        have hfin : decide (d = d') = true := by
          rw [decide_eq_true_eq]
          exact extI (by omega) (fun j hj => HQ.out j (by omega))
        have HF := Lib.hid hfin
        clear hfin
        go_wp2
        go_ret
        exact ⟨by rw [HF.out]; rfl, hB⟩
  · have hz : ((n : Int) != (n' : Int)) = true := by
      rw [bne_iff_ne]; omega
    have hfin : decide (d = d') = false := by
      rw [decide_eq_false_iff_not]
      intro e
      apply hne
      rw [← hd, ← hd', e]
    have HF := Lib.hid hfin
    clear hfin
    go_enter Tryd.func22, Tryd.ntmps22
    go_wp2
    go_ret
    exact ⟨by rw [HF.out]; rfl, Below.refl _ _⟩

end Go.Proofs.YtggdomeeienjbaaDoor
