/- Several texts of mine in one: App, Mem2, HeapS, HeapP. No condition. -/
import Derived.Test.YtmbaklodgpcegaaGreatGQ1
import Derived.Maps.AppendAt
import Derived.Deep.RegionLaw

/- append onto a row of the call's own, as one step of a region that draws its order; what is kept but for some blocks. No condition. -/
namespace Go.Proofs.YtmbaklodgpcegaaGreat
open Go.ChangeShapes Go.WideShapes Go.ChangeAt Go.RowKit Go.Sort
set_option linter.unusedSimpArgs false
set_option linter.unusedVariables false

theorem step_append_own {P : Program} {ops : Array Oper} {o : Oper} {a : Act} {w : World} {K : Act → World → Prop} {Q : Exit → Act → World → Prop} {E : Prop} (hgd : o.guard = none) (s x : Operand) (t : TypeId)
    (ho : o.op = .call { callee := .builtin .append, args := #[s, x], argTypes := #[t, t] })
    (base : Nat) (e : TypeId) (i : TypeInfo) (z : Value) (size bytes : Nat) (ht : P.underlying t = some (.slice e)) (hi : P.info? e = some i) (hz : i.zero = some z)
    (hsize : i.size = size) (hby : i.bytes = bytes) (hzs : z.cells.size = size) (hsz : 0 < size)
    (v : Value) (n : Nat) (xs : List Value) (hs : a.eval s = v) (hown : w.ownsRow base e size v n xs)
    (ad : Addr) (m c : Nat) (news : List Value) (hx : a.eval x = .slice (some ad) m c) (hl : news.length = m * size) (hnews : ∀ j u, news[j]? = some u → w.cell? (ad.add j) = some u) (h1 : ∀ u ∈ news, u.oneCell' = true)
    (h63 : n + m ≤ maxLen) (hbytes : (n + m) * bytes ≤ 140737488355328) (hbase : base ≤ w.heap.size)
    (h : ∀ v' w', w'.ownsRow base e size v' (n + m) (xs ++ news) → w.grownBy w' v.ownBlock → (v' = .slice none 0 0 ↔ v = .slice none 0 0 ∧ m = 0) → (v'.ownBlock = v.ownBlock ∨ v'.ownBlock = some w.heap.size) → K (a.put o.dst v') w') :
    if Region.wanted o (yielded ops a.tmps) = true then Oper.wp P o a w K Q else E := by
  rw [if_pos (by simp [Region.wanted, hgd])]
  obtain ⟨v', w', hr, h2, h3, h4, h5⟩ := run_append_own_at (P := P) w base t o.type e i z size bytes ht hi hz hsize hby hzs hsz v n xs hown ad m c news hl hnews h1 h63 hbytes hbase
  unfold Oper.wp execOp
  simp only [ho, resolve, invoke, builtin, Sem.run_bind, Sem.run_pure, Result.andThen_ok, List.map_toArray, List.map_cons, List.map_nil, hs, hx, hr]
  exact h v' w' h2 h3 h4 h5

/-- Nothing that was there has turned, but for these blocks. -/
structure Kept (S : Nat → Prop) (w w' : World) : Prop where
  os : w'.os = w.os
  tape : w'.tape = w.tape
  output : w'.output = w.output
  size : w.heap.size ≤ w'.heap.size
  block : ∀ k, k < w.heap.size → ¬ S k → w'.heap[k]? = w.heap[k]?
section
variable {S : Nat → Prop} {w w' w'' : World}
theorem Kept.refl (S : Nat → Prop) (w : World) : Kept S w w := ⟨rfl, rfl, rfl, Nat.le_refl _, fun _ _ _ => rfl⟩
theorem Kept.of_grown {row : Option Nat} (h : w.grownBy w' row) (hS : ∀ k, row = some k → k < w.heap.size → S k) : Kept S w w' :=
  ⟨h.os, h.tape, h.output, h.size, fun k hk hn => h.block k hk (fun e => hn (hS k e.symm hk))⟩
theorem Kept.of_below (h : Below w.heap.size w w') : Kept S w w' := ⟨h.os, h.tape, h.output, h.size, fun k hk _ => h.block k hk⟩
theorem Kept.below (h : Kept (fun _ => False) w w') : Below w.heap.size w w' := ⟨h.os, h.tape, h.output, h.size, fun k hk => h.block k hk (fun x => x)⟩
theorem Kept.trans {S' : Nat → Prop} (h : Kept S w w') (k : Kept S' w' w'') (hS : ∀ i, i < w.heap.size → S' i → S i) : Kept S w w'' :=
  ⟨k.os.trans h.os, k.tape.trans h.tape, k.output.trans h.output, Nat.le_trans h.size k.size, fun i hi hn => (k.block i (Nat.lt_of_lt_of_le hi h.size) (fun x => hn (hS i hi x))).trans (h.block i hi hn)⟩
theorem Kept.drew (h : Kept S w w') : Kept S w w'.drew := ⟨h.os, h.tape, h.output, h.size, h.block⟩
theorem Kept.set {g : Nat} (h : Kept S w w') (hg : g < w.heap.size → S g) (i : Nat) (u : Value) : Kept S w (w'.setCell ⟨g, i, none⟩ u) :=
  ⟨h.os, h.tape, h.output, by simpa using h.size, fun k hk hn => (Below.heap_setCell w' ⟨g, i, none⟩ u k (fun e => hn (by simp at e; subst e; exact hg hk))).trans (h.block k hk hn)⟩
theorem Kept.alloc (h : Kept S w w') (o : Obj) : Kept S w (w'.alloc o) :=
  ⟨h.os, h.tape, h.output, by have := h.size; simp; omega, fun k hk hn => (Below.heap_alloc w' o k (by have := h.size; omega)).trans (h.block k hk hn)⟩
theorem Kept.grow_ {row : Option Nat} (h : Kept S w w') (k : w'.grownBy w'' row) (hS : ∀ i, i < w.heap.size → row = some i → S i) : Kept S w w'' :=
  h.trans (S' := fun i => row = some i) (Kept.of_grown k fun i hi _ => hi) hS
theorem Kept.blok {g : Nat} {t : TypeId} {cs : Array Value} (k : Kept S w w') (h : Blok w g t cs) (hn : ¬ S g) : Blok w' g t cs := (k.block g h.lt hn).trans h
theorem Kept.owns {base : Nat} {e : TypeId} {size n : Nat} {v : Value} {xs : List Value} (k : Kept S w w') (h : w.ownsRow base e size v n xs) (hn : ∀ g, v.ownBlock = some g → ¬ S g) : w'.ownsRow base e size v n xs := by
  refine ⟨h.1, ?_⟩
  rcases h.2 with hx | ⟨g, cap, cur, rfl, hb, hgg, rest⟩
  · exact .inl hx
  · refine .inr ⟨g, cap, cur, rfl, hb, ?_, rest⟩
    rw [k.block g (Array.getElem?_eq_some_iff.1 hgg).1 (hn g rfl)]
    exact hgg
end
end Go.Proofs.YtmbaklodgpcegaaGreat

/- New blocks, read behind what a callee made. No condition. -/
namespace Go.Proofs.YtmbaklodgpcegaaGreat
open Go.ChangeShapes Go.WideShapes Go.ChangeAt Go.RowKit Go.Sort
set_option linter.unusedSimpArgs false
set_option linter.unusedVariables false
theorem Blok.new (w : World) (t : TypeId) (cs : Array Value) : Blok (w.alloc (.cells cs t)) w.heap.size t cs := heap_alloc_new w _
theorem Blok.set_ {w : World} {g : Nat} {t : TypeId} {cs : Array Value} (h : Blok w g t cs) (i : Nat) (u : Value) : Blok (w.setCell ⟨g, i, none⟩ u) g t (cs.setIfInBounds i u) := by
  unfold Blok at h ⊢
  simp [World.setCell, Array.getElem?_modify, h]
theorem Blok.far {w : World} {g : Nat} {t : TypeId} {cs : Array Value} (h : Blok w g t cs) {p : Addr} (hp : g ≠ p.block) (u : Value) : Blok (w.setCell p u) g t cs := (Below.heap_setCell w p u g hp).trans h
theorem Blok.alloc {w : World} {g : Nat} {t : TypeId} {cs : Array Value} (h : Blok w g t cs) (o : Obj) : Blok (w.alloc o) g t cs := (Below.heap_alloc w o g h.lt).trans h
theorem Blok.kept {S : Nat → Prop} {w w' : World} {g : Nat} {t : TypeId} {cs : Array Value} (h : Blok w g t cs) (k : Kept S w w') (hn : ¬ S g) : Blok w' g t cs := k.blok h hn
theorem blok4 {w : World} {g : Nat} {t : TypeId} {a0 a1 a2 a3 : Value} (h : Blok w g t #[a0, a1, a2, a3]) : w.cell? ⟨g, 0, none⟩ = some a0 ∧ w.cell? ⟨g, 1, none⟩ = some a1 ∧ w.cell? ⟨g, 2, none⟩ = some a2 ∧ w.cell? ⟨g, 3, none⟩ = some a3 ∧ g < w.heap.size := ⟨h.cell 0, h.cell 1, h.cell 2, h.cell 3, h.lt⟩
theorem free4 {w : World} {g : Nat} {t : TypeId} {cs : Array Value} (h : Blok w g t cs) : w.frozen? ⟨g, 0, none⟩ = false ∧ w.frozen? ⟨g, 1, none⟩ = false ∧ w.frozen? ⟨g, 2, none⟩ = false ∧ w.frozen? ⟨g, 3, none⟩ = false := ⟨h.free 0, h.free 1, h.free 2, h.free 3⟩
theorem blok13 {w : World} {g : Nat} {t : TypeId} {a0 a1 a2 a3 a4 a5 a6 a7 a8 a9 a10 a11 a12 : Value} (h : Blok w g t #[a0, a1, a2, a3, a4, a5, a6, a7, a8, a9, a10, a11, a12]) : w.cell? ⟨g, 0, none⟩ = some a0 ∧ w.cell? ⟨g, 1, none⟩ = some a1 ∧ w.cell? ⟨g, 2, none⟩ = some a2 ∧ w.cell? ⟨g, 3, none⟩ = some a3 ∧ w.cell? ⟨g, 4, none⟩ = some a4 ∧ w.cell? ⟨g, 5, none⟩ = some a5 ∧ w.cell? ⟨g, 6, none⟩ = some a6 ∧ w.cell? ⟨g, 7, none⟩ = some a7 ∧ w.cell? ⟨g, 8, none⟩ = some a8 ∧ w.cell? ⟨g, 9, none⟩ = some a9 ∧ w.cell? ⟨g, 10, none⟩ = some a10 ∧ w.cell? ⟨g, 11, none⟩ = some a11 ∧ w.cell? ⟨g, 12, none⟩ = some a12 ∧ g < w.heap.size := ⟨h.cell 0, h.cell 1, h.cell 2, h.cell 3, h.cell 4, h.cell 5, h.cell 6, h.cell 7, h.cell 8, h.cell 9, h.cell 10, h.cell 11, h.cell 12, h.lt⟩
theorem ret4 {w W : World} {b : Nat} {T : TypeId} {z0 z1 z2 z3 : Value} (h : Blok W b T #[z0, z1, z2, z3]) (hB : Below w.heap.size w W) (hle : w.heap.size ≤ b) (v0 v1 v2 v3 : Value) : Blok ((((W.setCell ⟨b, 0, none⟩ v0).setCell ⟨b, 1, none⟩ v1).setCell ⟨b, 2, none⟩ v2).setCell ⟨b, 3, none⟩ v3) b T #[v0, v1, v2, v3] ∧ Below w.heap.size w ((((W.setCell ⟨b, 0, none⟩ v0).setCell ⟨b, 1, none⟩ v1).setCell ⟨b, 2, none⟩ v2).setCell ⟨b, 3, none⟩ v3) ∧ W.grownBy ((((W.setCell ⟨b, 0, none⟩ v0).setCell ⟨b, 1, none⟩ v1).setCell ⟨b, 2, none⟩ v2).setCell ⟨b, 3, none⟩ v3) (some b) := by
  refine ⟨?_, (((hB.setCell (p := ⟨b, 0, none⟩) hle v0).setCell (p := ⟨b, 1, none⟩) hle v1).setCell (p := ⟨b, 2, none⟩) hle v2).setCell (p := ⟨b, 3, none⟩) hle v3, grown_trans (grown_trans (grown_trans (grown_set _ _ _) (grown_set _ _ _)) (grown_set _ _ _)) (grown_set _ _ _)⟩
  have h2 := (((h.set_ 0 v0).set_ 1 v1).set_ 2 v2).set_ 3 v3
  simpa using h2
end Go.Proofs.YtmbaklodgpcegaaGreat

/- Package heap: sink. -/
namespace Go.Proofs.YtmbaklodgpcegaaGreat
open Go.ChangeShapes Go.WideShapes Go.ChangeAt Go.RowKit Go.Sort Hp
set_option linter.unusedSimpArgs false
set_option linter.unusedVariables false
namespace Hp
def pk1 (d : List Rd) (i : Nat) : Nat := if 2 * i + 1 < d.length ∧ ahd (gt d (2 * i + 1)) (gt d i) = true then 2 * i + 1 else i
theorem pick_eq (d : List Rd) (i : Nat) : pick d i = if 2 * i + 2 < d.length ∧ ahd (gt d (2 * i + 2)) (gt d (pk1 d i)) = true then 2 * i + 2 else pk1 d i := rfl
def pkB (d : List Rd) (i b : Nat) : Nat := if b = 0 then i else if b = 1 then pk1 d i else pick d i
theorem pkB_step {d : List Rd} {i b : Nat} (hb : b < 2) (hn : 2 * i + 1 + b < d.length) : pkB d i (b + 1) = if ahd (gt d (2 * i + 1 + b)) (gt d (pkB d i b)) = true then 2 * i + 1 + b else pkB d i b := by
  have h : b = 0 ∨ b = 1 := by omega
  rcases h with rfl | rfl
  · show pk1 d i = _
    unfold pk1
    simp only [show pkB d i 0 = i from rfl, Nat.add_zero] at *
    simp [hn]
  · show pick d i = _
    rw [pick_eq]
    simp only [show pkB d i 1 = pk1 d i from rfl, show 2 * i + 1 + 1 = 2 * i + 2 from rfl] at *
    simp [hn]
theorem pkB_end {d : List Rd} {i b : Nat} (hb : b ≤ 2) (h : ¬ b < 2 ∨ d.length ≤ 2 * i + 1 + b) : pick d i = pkB d i b := by
  have hc : b = 0 ∨ b = 1 ∨ b = 2 := by omega
  rw [pick_eq]
  rcases hc with rfl | rfl | rfl
  · simp only [show pkB d i 0 = i from rfl]
    unfold pk1
    rw [if_neg (fun h' => by omega), if_neg (fun h' => by omega)]
  · simp only [show pkB d i 1 = pk1 d i from rfl]
    rw [if_neg (fun h' => by omega)]
  · rfl
end Hp
set_option maxHeartbeats 4000000 in
set_option maxRecDepth 100000 in
theorem sink_any (hb g cap : Nat) (d0 : List (Int × Int)) (w : World) (hcap : d0.length ≤ cap) (hsz : d0.length ≤ 1000000) (h0 : HeapAt w hb g cap d0) (hu : downInv d0 0) :
    Calls Tryz.prog 81 #[.pointer (some ⟨hb, 0, none⟩), .int .i64 0] w fun e w' => e = .returned (.tuple #[]) ∧ ∃ d', d'.length = d0.length ∧ d'.Perm d0 ∧ isHeap d' ∧ HeapAt w' hb g cap d' ∧ w.grownBy w' (some g) := by
    go_enter Tryz.func81, Tryz.ntmps81
    go_wp2
    refine wp_scope_label (fun a' w' => ∃ (k : Nat) (d : List (Int × Int)), d.length = d0.length ∧ d.Perm d0 ∧ downInv d k ∧ k ≤ d.length ∧ HeapAt w' hb g cap d ∧ w.grownBy w' (some g) ∧ ∃ u2 u3 u4 u5 u6 u7 u8 u9 u10 u11 u12 u13 u14 u15 u16 u17 u18 u19 u20 u21 u22 u23 u24 u25 u26 u27 u28 u29 u30 u31 u32 u33 u34 u35 u36 u37 u38 u39 u40 u41 u42 u43 u44 u45 u46 u47 u48 u49 u50 u51 u52 u53 u54 u55 u56 u57 u58 u59 u60 u61 u62 u63 u64 u65 u66 u67 u68 u69 u70 u71 : Value, a' = { tmps := #[.pointer (some ⟨hb, 0, none⟩), .int .i64 k, u2, u3, u4, u5, u6, u7, u8, u9, u10, u11, u12, u13, u14, u15, u16, u17, u18, u19, u20, u21, u22, u23, u24, u25, u26, u27, u28, u29, u30, u31, u32, u33, u34, u35, u36, u37, u38, u39, u40, u41, u42, u43, u44, u45, u46, u47, u48, u49, u50, u51, u52, u53, u54, u55, u56, u57, u58, u59, u60, u61, u62, u63, u64, u65, u66, u67, u68, u69, u70, u71], defers := [] })
      (fun a' _ => d0.length - (intOf (a'.tmps.getD 1 undef)).toNat) ?_ ?_
    · exact ⟨0, d0, rfl, List.Perm.refl _, hu, by omega, h0, grown_refl _ _, _, _, _, _, _, _, _, _, _, _, _, _, _, _, _, _, _, _, _, _, _, _, _, _, _, _, _, _, _, _, _, _, _, _, _, _, _, _, _, _, _, _, _, _, _, _, _, _, _, _, _, _, _, _, _, _, _, _, _, _, _, _, _, _, _, _, _, _, _, _, rfl⟩
    · rintro a' wo ⟨k, d, hd, hp, hi, hk, hA0, hg0, ⟨u2, u3, u4, u5, u6, u7, u8, u9, u10, u11, u12, u13, u14, u15, u16, u17, u18, u19, u20, u21, u22, u23, u24, u25, u26, u27, u28, u29, u30, u31, u32, u33, u34, u35, u36, u37, u38, u39, u40, u41, u42, u43, u44, u45, u46, u47, u48, u49, u50, u51, u52, u53, u54, u55, u56, u57, u58, u59, u60, u61, u62, u63, u64, u65, u66, u67, u68, u69, u70, u71, rfl⟩⟩
      have hdc : d.length ≤ cap := by omega
      have hdm : d.length ≤ 1000000 := by omega
      have hdh := Lib.hid hd
      clear hd
      go_wp2
      go_loopw [4, 5] (fun f b wr => ∃ (c q : Nat), q ≤ 2 ∧ c ≤ 2 * k + q ∧ b = .int .i64 (2 * (k : Int) + 1 + (q : Int)) ∧ f = .int .i64 c ∧ Hid (c = pkB d k q) ∧ HeapAt wr hb g cap d ∧ w.grownBy wr (some g)) (fun _ b _ => (2 * (k : Int) + 4 - intOf b).toNat)
      case atStart => exact ⟨k, 0, by omega, by omega, by go_num, rfl, rfl, hA0, hg0⟩
      case round =>
        obtain ⟨c, q, hq, hcq, rfl, rfl, HC, hA, hg⟩ := hrel
        clear hA0 hg0
        have cb : wr.cell? ⟨hb, 0, none⟩ = some (.slice (some ⟨g, 0, none⟩) d.length cap) := hA.head.cell 0
        have fb := hA.head.free 0
        have hne := hA.ne_
        by_cases hrun : q < 2 ∧ 2 * k + 1 + q < d.length
        · obtain ⟨hq2, hbl⟩ := hrun
          have hcl : c < d.length := by omega
          have cb0 := hA.fst hbl
          have cb1 := hA.snd hbl
          have cc0 := hA.fst hcl
          have cc1 := hA.snd hcl
          obtain ⟨m, hm⟩ : ∃ m : Nat, 2 * k + 1 + q = m := ⟨_, rfl⟩
          have hmi : 2 * (k : Int) + 1 + (q : Int) = (m : Int) := by omega
          rw [hm] at cb0 cb1 hbl
          rw [hmi]
          have HM := Lib.hid hm
          have hm2 : (m : Int) ≤ 2 * (k : Int) + 2 := by omega
          have hml : (m : Int) < (d.length : Int) := by omega
          clear hm hmi
          go_wp2
          have q_cb := fun d os => cell_regrown cb d os
          have q_cb0 := fun d os => cell_regrown cb0 d os
          have q_cb1 := fun d os => cell_regrown cb1 d os
          have q_cc0 := fun d os => cell_regrown cc0 d os
          have q_cc1 := fun d os => cell_regrown cc1 d os
          cases ha : ahd (gt d m) (gt d c)
          · have HA := Lib.hid ha
            clear ha
            try simp only [List.append]
            first | refine wp_region_text_below ?_ | refine wp_region_quiet_below (by kernel_rfl) (by kernel_rfl) ?_
            repeat (go_big_quiet_step ((go_at_call 89; with_reducible exact Calls.regrown_of (HA.out ▸ ahead_any (gt d m) (gt d c) _))))
            refine wpQuiet_nil ?_
            intro _ hqw
            obtain ⟨pq, hqw⟩ := hqw
            subst hqw
            clear q_cb q_cb0 q_cb1 q_cc0 q_cc1
            have hbel := below_regrown wr pq.d pq.os
            generalize hwq : grow (redrawn wr pq.d) pq.os = wq at *
            have hA2 := hA.grown (grown_of_below (row := none) hbel) (by simp) (by simp)
            have hg2 := grown_trans hg (grown_of_below (row := some g) hbel)
            clear hwq hbel hA hg cb cb0 cb1 cc0 cc1 fb
            go_wp2
            go_roundw
            case rel => exact ⟨c, q + 1, by omega, by omega, by have := HM.out; go_num, rfl, by have h := pkB_step hq2 (d := d) (i := k) (by have := HM.out; omega); rw [← HC.out, HM.out, HA.out] at h; exact h.symm, hA2, hg2⟩
            case measure => simp [intOf]; omega
          · have HA := Lib.hid ha
            clear ha
            try simp only [List.append]
            first | refine wp_region_text_below ?_ | refine wp_region_quiet_below (by kernel_rfl) (by kernel_rfl) ?_
            repeat (go_big_quiet_step ((go_at_call 89; with_reducible exact Calls.regrown_of (HA.out ▸ ahead_any (gt d m) (gt d c) _))))
            refine wpQuiet_nil ?_
            intro _ hqw
            obtain ⟨pq, hqw⟩ := hqw
            subst hqw
            clear q_cb q_cb0 q_cb1 q_cc0 q_cc1
            have hbel := below_regrown wr pq.d pq.os
            generalize hwq : grow (redrawn wr pq.d) pq.os = wq at *
            have hA2 := hA.grown (grown_of_below (row := none) hbel) (by simp) (by simp)
            have hg2 := grown_trans hg (grown_of_below (row := some g) hbel)
            clear hwq hbel hA hg cb cb0 cb1 cc0 cc1 fb
            go_wp2
            go_roundw
            case rel => exact ⟨m, q + 1, by omega, by have := HM.out; omega, by have := HM.out; go_num, rfl, by have h := pkB_step hq2 (d := d) (i := k) (by have := HM.out; omega); rw [← HC.out, HM.out, HA.out] at h; exact h.symm, hA2, hg2⟩
            case measure => simp [intOf]; omega
        · have hend : pick d k = c := by rw [HC.out]; exact pkB_end hq (by omega)
          have HE := Lib.hid hend
          clear hend
          have hcase : (q < 2 ∧ d.length ≤ 2 * k + 1 + q) ∨ q = 2 := by omega
          clear hrun
          rcases hcase with ⟨hq2, hlen⟩ | rfl
          all_goals
            by_cases hkc : c = k
            · subst hkc
              have hkk : ((c : Int) != (c : Int)) = false := by simp
              go_wp2
              simp only [Exit.jump]
              go_end0
              exact ⟨rfl, d, hdh.out, hp, down_end hi HE.out, hA, hg⟩
            · have hkk : ((c : Int) != (k : Int)) = true := by rw [bne_iff_ne]; omega
              have hkl : k < d.length := by
                have := pick_cases d k; rw [HE.out] at this; omega
              obtain ⟨n1, n2, n3, n4⟩ := down_step hi hkl (by rw [HE.out]; exact hkc)
              rw [HE.out] at n1 n2 n3 n4
              have N1 := Lib.hid n1
              clear n1 n4
              go_wp2
              have cb : wr.cell? ⟨hb, 0, none⟩ = some (.slice (some ⟨g, 0, none⟩) d.length cap) := hA.head.cell 0
              have ck0 := hA.fst hkl
              have ck1 := hA.snd hkl
              have cp0 := hA.fst n3
              have cp1 := hA.snd n3
              have fk0 := hA.row.frozenAt (k * 2)
              have fk1 := hA.row.frozenAt (k * 2 + 1)
              have fp0 := hA.row.frozenAt (c * 2)
              have fp1 := hA.row.frozenAt (c * 2 + 1)
              go_region
              go_wp2
              have hS := hA.swap hkl n3
              go_step3
              refine ⟨rfl, ⟨c, swp d k c, by rw [swp_length]; exact hdh.out, (swp_perm d k c hkl n3).trans hp, N1.out, by rw [swp_length]; omega, hS.1.drew, grown_trans hg (grown_drew hS.2), _, _, _, _, _, _, _, _, _, _, _, _, _, _, _, _, _, _, _, _, _, _, _, _, _, _, _, _, _, _, _, _, _, _, _, _, _, _, _, _, _, _, _, _, _, _, _, _, _, _, _, _, _, _, _, _, _, _, _, _, _, _, _, _, _, _, _, _, _, _, rfl⟩, ?_⟩
              have := hdh.out
              simp [intOf]
              omega
end Go.Proofs.YtmbaklodgpcegaaGreat

/- Package heap: Push. -/
namespace Go.Proofs.YtmbaklodgpcegaaGreat
open Go.ChangeShapes Go.WideShapes Go.ChangeAt Go.RowKit Go.Sort Hp
set_option linter.unusedSimpArgs false
set_option linter.unusedVariables false
theorem ready_info : (Tryz.prog.info? 86).map (fun i => (i.zero, i.size, i.bytes)) = some (some (.agg #[.int .i64 0, .int .i64 0]), 2, 16) := by kernel_rfl
/-- The heap at hb, whose slice is v. -/
structure HeapV (w : World) (hb : Nat) (v : Value) (d : List (Int × Int)) : Prop where
  head : Blok w hb 119 #[v]
  row : w.ownsRow 0 86 2 v d.length (flat2 d)
theorem own_pos {w : World} {base : Nat} {e : TypeId} {size n : Nat} {v : Value} {xs : List Value} (h : w.ownsRow base e size v n xs) (hn : 0 < n) : ∃ g c, v = .slice (some ⟨g, 0, none⟩) n c ∧ n ≤ c := by
  rcases h.2 with ⟨rfl, rfl⟩ | ⟨g', cap, cur, rfl, _, _, hc, _⟩
  · omega
  · exact ⟨_, _, rfl, hc⟩
theorem HeapV.at_ {w : World} {hb g cap : Nat} {d : List (Int × Int)} (h : HeapV w hb (.slice (some ⟨g, 0, none⟩) d.length cap) d) : HeapAt w hb g cap d := ⟨h.head, h.row⟩
theorem HeapAt.v {w : World} {hb g cap : Nat} {d : List (Int × Int)} (h : HeapAt w hb g cap d) : HeapV w hb (.slice (some ⟨g, 0, none⟩) d.length cap) d := ⟨h.head, h.row⟩
set_option maxHeartbeats 2000000 in
set_option maxRecDepth 100000 in
theorem push_any (hb : Nat) (v : Value) (d : List (Int × Int)) (r : Int × Int) (w : World) (hsz : d.length < 1000000) (h0 : HeapV w hb v d) (hh : isHeap d) :
    Calls Tryz.prog 71 #[.pointer (some ⟨hb, 0, none⟩), .agg #[.int .i64 r.1, .int .i64 r.2]] w fun e w' => e = .returned (.tuple #[]) ∧ ∃ v' d', d'.Perm (d ++ [r]) ∧ isHeap d' ∧ HeapV w' hb v' d' ∧ Kept (fun k => k = hb ∨ v.ownBlock = some k) w w' ∧ (v'.ownBlock = v.ownBlock ∨ ∃ k, w.heap.size ≤ k ∧ v'.ownBlock = some k) := by
  obtain ⟨i0, hi0, hz0, hz1, hz2⟩ := info_parts ready_info
  have cb : w.cell? ⟨hb, 0, none⟩ = some v := h0.head.cell 0
  have fb := h0.head.free 0
  have hbl := h0.head.lt
  go_enter Tryz.func71, Tryz.ntmps71
  go_wp2
  go_region_law (refine step_append_own rfl (.tmp 8) (.tmp 10) 59 rfl 0 86 i0 _ 2 16 Tryz.underlying59 hi0 hz0 hz1 hz2 rfl (by decide) v d.length (flat2 d) rfl ((h0.row.alloc _).alloc _) ⟨w.heap.size + 1, 0, none⟩ 1 1 [.int .i64 r.1, .int .i64 r.2] rfl rfl (by exact lit_cells _ #[.int .i64 r.1, .int .i64 r.2] _ _ (by simp)) (by simp [Value.oneCell']) (by unfold maxLen; omega) (by omega) (by omega) ?_; intro v1 w1 hown1 hg1 hx hwh1; clear hx; obtain ⟨g1, c1, rfl, hc1⟩ := own_pos hown1 (by omega); have hb1 := Blok.over h0.head hg1 (Blok.ne_own h0.row h0.head (by decide)) (by (repeat (first | exact Below.refl _ _ | refine Below.alloc ?_ (by first | omega | (simp; done) | (simp; omega)) _ | refine Below.setCell ?_ (by first | omega | (simp; done) | (simp; omega)) _ | refine Below.drew ?_))); have cb1 : w1.cell? ⟨hb, 0, none⟩ = some v := hb1.cell 0; have fb1 := hb1.free 0; have HW := Lib.hid hwh1; clear hwh1)
  all_goals
    have hne := Blok.ne_own hown1 hb1 (by decide)
    have hnb : hb ≠ g1 := by
      simp only [Value.ownBlock] at hne
      exact fun e => hne (by rw [e])
    have hA : HeapAt ((w1.setCell ⟨hb, 0, none⟩ (.slice (some ⟨g1, 0, none⟩) (d.length + 1) c1))) hb g1 c1 (d ++ [r]) := by
      refine ⟨?_, ?_⟩
      · rw [List.length_append]
        exact one_setCell hb1
      · rw [List.length_append, flat2_append]
        exact ownsRow_setCell_other hown1 (by simpa using hne) _
    have hu := up_start hh r
    have hK : Kept (fun k => k = hb ∨ v.ownBlock = some k) w ((w1.setCell ⟨hb, 0, none⟩ (.slice (some ⟨g1, 0, none⟩) (d.length + 1) c1))) := by
      exact Kept.set (Kept.grow_ (Kept.of_below (by (repeat (first | exact Below.refl _ _ | refine Below.alloc ?_ (by first | omega | (simp; done) | (simp; omega)) _ | refine Below.setCell ?_ (by first | omega | (simp; done) | (simp; omega)) _ | refine Below.drew ?_)))) hg1 (fun i _ h => .inr h)) (fun _ => .inl rfl) _ _
    clear cb fb cb1 fb1 hb1 hg1 hown1 hne
    generalize hwq : ((w1.setCell ⟨hb, 0, none⟩ (.slice (some ⟨g1, 0, none⟩) (d.length + 1) c1))) = wq at *
    have cb : wq.cell? ⟨hb, 0, none⟩ = some (.slice (some ⟨g1, 0, none⟩) (d.length + 1) c1) := by
      have := hA.head.cell 0
      rw [List.length_append] at this
      exact this
    clear hwq
    go_wp2_with fail
    refine (rise_any hb g1 c1 d.length (d ++ [r]) wq (by simpa using hc1) (by simp; omega) hA hu).mono ?_
    rintro e w2 ⟨rfl, d', k1, k2, k3, k4, k5⟩
    have K1 := Lib.hid k1
    clear k1
    go_wp2
    go_end0
    refine ⟨rfl, _, d', k2, k3, k4.v, Kept.grow_ hK k5 (fun i hi h => ?_), ?_⟩
    · rcases HW.out with e | e
      · exact .inr (e ▸ h)
      · have e2 : some g1 = _ := e
        rw [h] at e2; simp at e2; omega
    · rcases HW.out with e | e
      · exact .inl e
      · refine .inr ⟨_, ?_, e⟩
        simp
        omega
end Go.Proofs.YtmbaklodgpcegaaGreat
