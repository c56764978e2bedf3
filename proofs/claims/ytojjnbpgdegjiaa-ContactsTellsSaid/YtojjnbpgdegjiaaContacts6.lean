/- Package contacts: Expire. No condition. -/
import Derived.Test.YtojjnbpgdegjiaaContacts5
import Derived.Test.YtojjnbpgdegjiaaSortI
namespace Go.Proofs.Ytojjnbpgdegjiaa
open Go.ChangeShapes Go.WideShapes Go.ChangeAt Go.RowKit Go.Sort
set_option linter.unusedSimpArgs false
set_option linter.unusedVariables false
def leftC (d : List Co) (now : Int) : List Co := d.filter (fun x => !overE now x)
/-- What Expire's inner call leaves. -/
def DelPost (base0 gg : Nat) (now : Int) (d : List Co) (w : World) (e : Ending) (w' : World) : Prop :=
  ∃ v u, e = .returned v ∧ w'.ownsRow base0 28 6 v (leftC d now).length (flatCo (leftC d now)) ∧ Blok w' gg 37 #[u] ∧ w'.ownsRow (gg + 1) 3 1 u (goneL d now).length ((goneL d now).map (Value.int .i64)) ∧ Below base0 w w'
theorem del_step (v : Value) (n : Nat) (d : List Co) (now : Int) (gN gg base0 base : Nat) (w : World) (hd : d.length = n) (hn : n ≤ 1000000) (hown : w.ownsRow base 28 6 v n (flatCo d)) (hN : Blok w gN 3 #[.int .i64 now]) (hG : Blok w gg 37 #[.slice none 0 0]) (hNg : gN < gg) (hb0 : base0 ≤ gN) (hgb : gg < base) (hbs : base ≤ w.heap.size) :
    Calls Try.prog 38 #[v, .func (.func 42) #[] #[.pointer (some ⟨gN, 0, none⟩), .pointer (some ⟨gg, 0, none⟩)]] w (DelPost base0 gg now d w) := by
  by_cases h0 : n = 0
  · subst h0
    have hd0 : d = [] := List.eq_nil_of_length_eq_zero hd
    subst hd0
    obtain ⟨A, c, rfl⟩ := slice_of_own hown
    refine (delete0 A c _ _ w (enter_run Try.func42 rfl rfl)).mono ?_
    rintro e w' ⟨rfl, rfl⟩
    exact ⟨_, _, rfl, own_down hown (by omega), hG, World.ownsRow_nil _ _ _ _, Below.refl _ _⟩
  · obtain ⟨g0, c0, rfl, hnc, hcm, hgb2, hgl⟩ := own_at hown (by omega)
    have hP := pred_expire now gN gg g0 base0 d (by omega) (by omega) (by omega) (by omega) (by omega) (by omega)
    refine (deleteS g0 n c0 d _ _ base0 _ _ w hd hn (own_down hown (by omega)) (by omega) hP ⟨hN, _, hG, by exact World.ownsRow_nil _ _ _ _, by simp [Value.ownBlock]⟩ (by omega)).mono ?_
    rintro e w' ⟨v', rfl, hv, ⟨_, u, hG', hu, _⟩, hb⟩
    rw [← hd, List.take_length] at hu
    exact ⟨v', u, rfl, hv, hG', hu, hb⟩
def ExpPost (d : List Co) (now : Int) (w : World) (e : Ending) (w' : World) : Prop :=
  ∃ v u, e = .returned (.tuple #[v, u]) ∧ w'.ownsRow w.heap.size 28 6 v (leftC d now).length (flatCo (leftC d now)) ∧ w'.ownsRow w.heap.size 3 1 u (goneL d now).length ((sortI (goneL d now)).map (Value.int .i64)) ∧ Below w.heap.size w w'
set_option maxHeartbeats 2000000 in
set_option maxRecDepth 100000 in
theorem expire_any (A : Option Addr) (n c : Nat) (d : List Co) (now : Int) (w : World) (hd : d.length = n) (hn : n ≤ 1000000) (h : Sl w w.heap.size 6 A n c (flatCo d)) :
    Calls Try.prog 21 #[.slice A n c, .int .i64 now] w (ExpPost d now w) := by
  have hB1 : Below w.heap.size w (w.alloc (.cells #[.int .i64 now] 3)) := by (repeat (first | exact Below.refl _ _ | refine Below.alloc ?_ (by first | omega | (simp; done) | (simp; omega)) _ | refine Below.setCell ?_ (by first | omega | (simp; done) | (simp; omega)) _ | refine Below.drew ?_))
  have hN1 := Blok.new w 3 #[.int .i64 now]
  have hG2 := Blok.new (w.alloc (.cells #[.int .i64 now] 3)) 37 #[.slice none 0 0]
  have hN2 := hN1.alloc (.cells #[.slice none 0 0] 37)
  have hB2 := hB1.alloc hB1.size (.cells #[.slice none 0 0] 37)
  have hs2 := h.up hB2
  have hlen : (goneL d now).length ≤ n := by
    have := goneL_len d now d.length
    rw [List.take_length] at this
    omega
  simp only [World.size_alloc] at hG2
  have HD := Lib.hid hd
  clear hd h hB1 hN1
  go_enter Try.func21, Try.ntmps21
  go_wp2_with fail
  generalize (w.alloc (.cells #[.int .i64 now] 3)).alloc (.cells #[.slice none 0 0] 37) = w2 at *
  have hgl := hG2.lt
  refine (cloneCo A n c d w2 HD.out hn hs2).mono ?_
  rintro e w3 ⟨v, rfl, hown, hb3⟩
  have hN3 := hN2.below hb3 hN2.lt
  have hG3 := hG2.below hb3 hG2.lt
  have hB3 := hB2.trans (hb3.mono hB2.size)
  have hsz3 := hb3.size
  clear hN2 hG2 hB2 hs2 hb3
  go_wp2_with fail
  refine (del_step v n d now w.heap.size (w.heap.size + 1) w.heap.size w2.heap.size w3 HD.out hn hown hN3 hG3 (by omega) (Nat.le_refl _) hgl hsz3).mono ?_
  rintro e w4 ⟨v4, u, rfl, hv4, hG4, hu4, hb4⟩
  have hB4 := hB3.trans hb4
  have hne := own_ne hv4 hu4 (by decide)
  have hgu : u.ownBlock ≠ some (w.heap.size + 1) := fun e => by have := (hu4.lt _ e).1; omega
  have c4 : w4.cell? ⟨w.heap.size + 1, 0, none⟩ = some u := hG4.cell 0
  have hsz4 := hB4.size
  have hglt := hG4.lt
  clear hN3 hG3 hown hb4 hB3
  obtain ⟨Au, cu, rfl⟩ := slice_of_own hu4
  obtain ⟨Av, cv, rfl⟩ := slice_of_own hv4
  obtain ⟨l, hl⟩ : ∃ l, goneL d now = l := ⟨_, rfl⟩
  obtain ⟨le, hle⟩ : ∃ le, leftC d now = le := ⟨_, rfl⟩
  have hP : ExpPost d now w = fun e w' => ∃ v u, e = .returned (.tuple #[v, u]) ∧ w'.ownsRow w.heap.size 28 6 v le.length (flatCo le) ∧ w'.ownsRow w.heap.size 3 1 u l.length ((sortI l).map (Value.int .i64)) ∧ Below w.heap.size w w' := by
    funext e w'
    unfold ExpPost
    rw [hl, hle]
  have HP := Lib.hid hP
  rw [hl] at hu4 hne hgu hlen c4 hG4
  rw [hle] at hv4 hne
  rw [hle]
  clear hl hle hP
  obtain ⟨ln, hln⟩ : ∃ ln, l.length = ln := ⟨_, rfl⟩
  rw [hln] at hu4 hne hgu hlen c4 hG4
  have HLN := Lib.hid hln
  obtain ⟨lm, hlm⟩ : ∃ lm, le.length = lm := ⟨_, rfl⟩
  rw [hlm] at hv4 hne ⊢
  have HLM := Lib.hid hlm
  clear hln hlm
  go_wp2_with fail
  refine (sortI_any (.slice Au ln cu) l _ w4 (by have := HLN.out; omega) (by have := HLN.out; rw [this]; exact hu4)).mono ?_
  rintro e w5 ⟨rfl, hu5, hg5⟩
  rw [HLN.out] at hu5
  have hv5 := hv4.kept hg5 hne
  have hG5 := hG4.grown hg5 (fun e => hgu e.symm)
  have hB5 : Below w.heap.size w w5 := hB4.grown hg5 hsz4 (fun k hk => by have := (hu4.lt k hk).1; omega)
  have c5 : w5.cell? ⟨w.heap.size + 1, 0, none⟩ = some (.slice Au ln cu) := hG5.cell 0
  clear hu4 hv4 hG4 hG5 hB4 c4 hg5 hne hgu
  have hs5 := hB5.size
  go_wp2_with fail
  have q_c5 := fun d os => cell_regrown c5 d os
  try simp only [List.append]
  first | refine wp_region_text_below ?_ | refine wp_region_quiet_below (by kernel_rfl) (by kernel_rfl) ?_
  repeat (go_big_quiet_step ((fail)))
  refine wpQuiet_nil ?_
  intro _ hqw
  obtain ⟨pq, hqw⟩ := hqw
  subst hqw
  clear q_c5
  have hbel := below_regrown w5 pq.d pq.os
  have hu6 := hu5.kept (grown_of_below (row := some w5.heap.size) hbel) (.inr (fun e => by have := (hu5.lt _ e).2; omega))
  have hv6 := hv5.kept (grown_of_below (row := some w5.heap.size) hbel) (.inr (fun e => by have := (hv5.lt _ e).2; omega))
  have hB6 := hB5.trans (hbel.mono hs5)
  clear hbel hu5 hv5 hB5 c5
  generalize grow (redrawn w5 pq.d) pq.os = wq at *
  go_wp2
  go_ret2
  rw [HP.out]
  refine ⟨_, _, rfl, ?_, ?_, hB6⟩
  · rw [HLM.out]; exact hv6
  · rw [HLN.out]; exact own_down hu6 (by omega)
end Go.Proofs.Ytojjnbpgdegjiaa
