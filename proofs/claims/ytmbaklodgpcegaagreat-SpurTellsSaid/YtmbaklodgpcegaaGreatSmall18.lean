/- Layer 18's small case comes out right. No condition. -/
import Derived.Test.YtmbaklodgpcegaaGreatGQ24
import Derived.Test.YtmbaklodgpcegaaGreatGQ23
import Derived.Test.YtmbaklodgpcegaaGreatGQ4
namespace Go.Proofs.YtmbaklodgpcegaaGreat
open Go.ChangeShapes Go.WideShapes Go.ChangeAt Go.RowKit Go.Sort Hp
set_option linter.unusedSimpArgs false
set_option linter.unusedVariables false
def net18 : List Ed := [⟨1, 1, 2, 10, 20, 3, 4, 30⟩, ⟨2, 2, 3, 30, 50, 9, 1, 30⟩, ⟨3, 1, 3, 30, 50, 9, 1, 90⟩, ⟨4, 2, 3, 0, 50, 1, 7, 90⟩]
theorem net18_any (w : World) :
    Calls Tryz.prog 8 #[] w fun e w' => e = .returned (.slice (some ⟨w.heap.size, 0, none⟩) 4 4) ∧ w' = w.alloc (.cells #[.int .i64 1, .int .i64 1, .int .i64 2, .int .i64 10, .int .i64 20, .int .i64 3, .int .i64 4, .int .i64 30, .int .i64 2, .int .i64 2, .int .i64 3, .int .i64 30, .int .i64 50, .int .i64 9, .int .i64 1, .int .i64 30, .int .i64 3, .int .i64 1, .int .i64 3, .int .i64 30, .int .i64 50, .int .i64 9, .int .i64 1, .int .i64 90, .int .i64 4, .int .i64 2, .int .i64 3, .int .i64 0, .int .i64 50, .int .i64 1, .int .i64 7, .int .i64 90] 47) := by
  go_enter Tryz.func8, Tryz.ntmps8
  go_wp2
  go_ret
  exact ⟨rfl, rfl⟩
theorem wf_lits {l : List Int} {n : Nat} (h : l.all (fun x => (Lit.int .i64 x).wf) = true) (hn : l.length = n) : ∀ k, k < n → (Lit.int .i64 (l.getD k 0)).wf = true := wf_getD hn (fun m hm => List.all_eq_true.1 h m hm)
theorem ints_yes (A A' : Option Addr) (n c n' c' : Nat) (d d' : List Int) (w : World) (hd : d.length = n) (hd' : d'.length = n') (hn : n ≤ 1000000) (hn' : n' ≤ 1000000) (h : Sl w w.heap.size 1 A n c (d.map (Value.int .i64))) (h' : Sl w w.heap.size 1 A' n' c' (d'.map (Value.int .i64))) (e : d = d') :
    Calls Tryz.prog 9 #[.slice A n c, .slice A' n' c'] w fun e w' => e = .returned (.bool true) ∧ Below w.heap.size w w' := by
  have h1 := ints_any A A' n c n' c' d d' w hd hd' hn hn' h h'
  rw [decide_eq_true e] at h1
  exact h1
theorem infoI17 : (Tryz.prog.info? 3).map (fun i => (i.zero, i.size, i.bytes)) = some (some (.int .i64 0), 1, 8) := by kernel_rfl
theorem ints_one17 (l : List Int) : ∀ u ∈ l.map (Value.int .i64), u.oneCell' = true := by
  intro u hu
  obtain ⟨x, _, rfl⟩ := List.mem_map.1 hu
  rfl
set_option maxHeartbeats 8000000 in
set_option maxRecDepth 100000 in
theorem small18_any (w : World) : Calls Tryz.prog 4 #[] w fun e w' => e = .returned (.bool true) ∧ Below w.heap.size w w' := by
  have hB : Below w.heap.size w (w.alloc (.cells #[.int .i64 1, .int .i64 1, .int .i64 2, .int .i64 10, .int .i64 20, .int .i64 3, .int .i64 4, .int .i64 30, .int .i64 2, .int .i64 2, .int .i64 3, .int .i64 30, .int .i64 50, .int .i64 9, .int .i64 1, .int .i64 30, .int .i64 3, .int .i64 1, .int .i64 3, .int .i64 30, .int .i64 50, .int .i64 9, .int .i64 1, .int .i64 90, .int .i64 4, .int .i64 2, .int .i64 3, .int .i64 0, .int .i64 50, .int .i64 1, .int .i64 7, .int .i64 90] 47)) := (Below.refl _ _).alloc (Nat.le_refl _) _
  have hN := Sl.of_own (own_lit w w.heap.size 47 8 4 #[.int .i64 1, .int .i64 1, .int .i64 2, .int .i64 10, .int .i64 20, .int .i64 3, .int .i64 4, .int .i64 30, .int .i64 2, .int .i64 2, .int .i64 3, .int .i64 30, .int .i64 50, .int .i64 9, .int .i64 1, .int .i64 30, .int .i64 3, .int .i64 1, .int .i64 3, .int .i64 30, .int .i64 50, .int .i64 9, .int .i64 1, .int .i64 90, .int .i64 4, .int .i64 2, .int .i64 3, .int .i64 0, .int .i64 50, .int .i64 1, .int .i64 7, .int .i64 90] (Nat.le_refl _) rfl (by simp [maxLen]))
  change Sl _ _ 8 _ 4 4 (flatEd net18) at hN
  go_enter Tryz.func4, Tryz.ntmps4
  go_wp2_with fail
  refine (net18_any w).mono ?_
  rintro e w0 ⟨rfl, rfl⟩
  generalize w.alloc (.cells #[.int .i64 1, .int .i64 1, .int .i64 2, .int .i64 10, .int .i64 20, .int .i64 3, .int .i64 4, .int .i64 30, .int .i64 2, .int .i64 2, .int .i64 3, .int .i64 30, .int .i64 50, .int .i64 9, .int .i64 1, .int .i64 30, .int .i64 3, .int .i64 1, .int .i64 3, .int .i64 30, .int .i64 50, .int .i64 9, .int .i64 1, .int .i64 90, .int .i64 4, .int .i64 2, .int .i64 3, .int .i64 0, .int .i64 50, .int .i64 1, .int .i64 7, .int .i64 90] 47) = w0 at *
  go_wp2_with fail
  refine (sproute_v (some ⟨w.heap.size, 0, none⟩) 4 4 net18 none 0 0 [] none 0 0 [] 1 3 0 7 100 w0 rfl (by omega) rfl (by omega) (wf_lits (by decide) rfl) rfl (by omega) (wf_lits (by decide) rfl) hN (Sl.nil0 _ _ _) (Sl.nil0 _ _ _) (some ([⟨1, 10, 17⟩, ⟨4, 17, 31⟩], 31)) (by decide +kernel) 31 rfl [⟨1, 10, 17⟩, ⟨4, 17, 31⟩] rfl true rfl).mono ?_
  rintro e wk1 ⟨Aa, na, ca, rfl, hna, hma, sa, hb⟩
  obtain rfl : na = 2 := hna.symm
  clear hma hna
  replace hN := hN.up hb
  replace hB := hB.trans (hb.mono hB.size)
  clear hb
  go_wp2_with fail
  have hb : Below wk1.heap.size wk1 (wk1.alloc (.cells #[.slice Aa 2 ca, .int .i64 31] 27)) := (Below.refl _ _).alloc (Nat.le_refl _) _
  have xa := Blok.new wk1 27 #[.slice Aa 2 ca, .int .i64 31]
  obtain ⟨bxa, hbxa⟩ : ∃ q, wk1.heap.size = q := ⟨_, rfl⟩
  have hsxa : (wk1.alloc (.cells #[.slice Aa 2 ca, .int .i64 31] 27)).heap.size = bxa + 1 := by rw [← hbxa]; simp
  replace hN := hN.up hb
  replace sa := sa.up hb
  replace hB := hB.trans (hb.mono hB.size)
  clear hb
  generalize wk1.alloc (.cells #[.slice Aa 2 ca, .int .i64 31] 27) = wk2 at *
  rw [hbxa] at xa
  try rw [hbxa]
  clear hbxa
  have hb : Below wk2.heap.size wk2 (wk2.alloc (.cells #[.int .i64 1] 3)) := (Below.refl _ _).alloc (Nat.le_refl _) _
  have hO := Sl.of_own (own_lit wk2 wk2.heap.size 3 1 1 #[.int .i64 1] (Nat.le_refl _) rfl (by simp [maxLen]))
  change Sl _ _ 1 _ 1 1 (([1] : List Int).map (Value.int .i64)) at hO
  obtain ⟨bhO, hbhO⟩ : ∃ q, wk2.heap.size = q := ⟨_, rfl⟩
  have hshO : (wk2.alloc (.cells #[.int .i64 1] 3)).heap.size = bhO + 1 := by rw [← hbhO]; simp
  replace hN := hN.up hb
  replace sa := sa.up hb
  replace xa := xa.below hb xa.lt
  replace hB := hB.trans (hb.mono hB.size)
  clear hb
  have he_hO : bxa + 1 = bhO := by rw [← hbhO, hsxa]
  try rw [he_hO]
  clear he_hO hsxa
  generalize wk2.alloc (.cells #[.int .i64 1] 3) = wk3 at *
  rw [hbhO] at hO
  try rw [hbhO]
  clear hbhO
  refine (sproute_v (some ⟨w.heap.size, 0, none⟩) 4 4 net18 none 0 0 [] (some ⟨bhO, 0, none⟩) 1 1 [1] 1 3 0 7 100 wk3 rfl (by omega) rfl (by omega) (wf_lits (by decide) rfl) rfl (by omega) (wf_lits (by decide) rfl) hN (Sl.nil0 _ _ _) hO (some ([⟨3, 30, 32⟩], 32)) (by decide +kernel) 32 rfl [⟨3, 30, 32⟩] rfl true rfl).mono ?_
  rintro e wk4 ⟨Ac, nc, cc, rfl, hnc, hmc, sc, hb⟩
  obtain rfl : nc = 1 := hnc.symm
  clear hmc hnc
  replace hN := hN.up hb
  replace sa := sa.up hb
  replace hO := hO.up hb
  replace xa := xa.below hb xa.lt
  replace hB := hB.trans (hb.mono hB.size)
  clear hb
  clear hO
  go_wp2_with fail
  have hb : Below wk4.heap.size wk4 (wk4.alloc (.cells #[.slice Ac 1 cc, .int .i64 32] 27)) := (Below.refl _ _).alloc (Nat.le_refl _) _
  have xc := Blok.new wk4 27 #[.slice Ac 1 cc, .int .i64 32]
  obtain ⟨bxc, hbxc⟩ : ∃ q, wk4.heap.size = q := ⟨_, rfl⟩
  have hsxc : (wk4.alloc (.cells #[.slice Ac 1 cc, .int .i64 32] 27)).heap.size = bxc + 1 := by rw [← hbxc]; simp
  replace hN := hN.up hb
  replace sa := sa.up hb
  replace sc := sc.up hb
  replace xa := xa.below hb xa.lt
  replace hB := hB.trans (hb.mono hB.size)
  clear hb
  generalize wk4.alloc (.cells #[.slice Ac 1 cc, .int .i64 32] 27) = wk5 at *
  rw [hbxc] at xc
  try rw [hbxc]
  clear hbxc
  have hb : Below wk5.heap.size wk5 (wk5.alloc (.cells #[.int .i64 1] 3)) := (Below.refl _ _).alloc (Nat.le_refl _) _
  have hR := Sl.of_own (own_lit wk5 wk5.heap.size 3 1 1 #[.int .i64 1] (Nat.le_refl _) rfl (by simp [maxLen]))
  change Sl _ _ 1 _ 1 1 (([1] : List Int).map (Value.int .i64)) at hR
  obtain ⟨bhR, hbhR⟩ : ∃ q, wk5.heap.size = q := ⟨_, rfl⟩
  have hshR : (wk5.alloc (.cells #[.int .i64 1] 3)).heap.size = bhR + 1 := by rw [← hbhR]; simp
  replace hN := hN.up hb
  replace sa := sa.up hb
  replace sc := sc.up hb
  replace xa := xa.below hb xa.lt
  replace xc := xc.below hb xc.lt
  replace hB := hB.trans (hb.mono hB.size)
  clear hb
  have he_hR : bxc + 1 = bhR := by rw [← hbhR, hsxc]
  try rw [he_hR]
  clear he_hR hsxc
  generalize wk5.alloc (.cells #[.int .i64 1] 3) = wk6 at *
  rw [hbhR] at hR
  try rw [hbhR]
  clear hbhR
  have hb : Below wk6.heap.size wk6 (wk6.alloc (.cells #[.int .i64 4] 3)) := (Below.refl _ _).alloc (Nat.le_refl _) _
  have hO := Sl.of_own (own_lit wk6 wk6.heap.size 3 1 1 #[.int .i64 4] (Nat.le_refl _) rfl (by simp [maxLen]))
  change Sl _ _ 1 _ 1 1 (([4] : List Int).map (Value.int .i64)) at hO
  obtain ⟨bhO, hbhO⟩ : ∃ q, wk6.heap.size = q := ⟨_, rfl⟩
  have hshO : (wk6.alloc (.cells #[.int .i64 4] 3)).heap.size = bhO + 1 := by rw [← hbhO]; simp
  replace hN := hN.up hb
  replace sa := sa.up hb
  replace sc := sc.up hb
  replace hR := hR.up hb
  replace xa := xa.below hb xa.lt
  replace xc := xc.below hb xc.lt
  replace hB := hB.trans (hb.mono hB.size)
  clear hb
  have he_hO : bhR + 1 = bhO := by rw [← hbhO, hshR]
  try rw [he_hO]
  clear he_hO hshR
  generalize wk6.alloc (.cells #[.int .i64 4] 3) = wk7 at *
  rw [hbhO] at hO
  try rw [hbhO]
  clear hbhO
  refine (sproute_v (some ⟨w.heap.size, 0, none⟩) 4 4 net18 (some ⟨bhR, 0, none⟩) 1 1 [1] (some ⟨bhO, 0, none⟩) 1 1 [4] 1 3 0 7 100 wk7 rfl (by omega) rfl (by omega) (wf_lits (by decide) rfl) rfl (by omega) (wf_lits (by decide) rfl) hN hR hO (some ([⟨1, 10, 17⟩, ⟨2, 30, 32⟩], 32)) (by decide +kernel) 32 rfl [⟨1, 10, 17⟩, ⟨2, 30, 32⟩] rfl true rfl).mono ?_
  rintro e wk8 ⟨Ae, ne, ce, rfl, hne, hme, se, hb⟩
  obtain rfl : ne = 2 := hne.symm
  clear hme hne
  replace hN := hN.up hb
  replace sa := sa.up hb
  replace sc := sc.up hb
  replace hR := hR.up hb
  replace hO := hO.up hb
  replace xa := xa.below hb xa.lt
  replace xc := xc.below hb xc.lt
  replace hB := hB.trans (hb.mono hB.size)
  clear hb
  clear hR
  clear hO
  go_wp2_with fail
  have hb : Below wk8.heap.size wk8 (wk8.alloc (.cells #[.slice Ae 2 ce, .int .i64 32] 27)) := (Below.refl _ _).alloc (Nat.le_refl _) _
  have xe := Blok.new wk8 27 #[.slice Ae 2 ce, .int .i64 32]
  obtain ⟨bxe, hbxe⟩ : ∃ q, wk8.heap.size = q := ⟨_, rfl⟩
  have hsxe : (wk8.alloc (.cells #[.slice Ae 2 ce, .int .i64 32] 27)).heap.size = bxe + 1 := by rw [← hbxe]; simp
  replace hN := hN.up hb
  replace sa := sa.up hb
  replace sc := sc.up hb
  replace se := se.up hb
  replace xa := xa.below hb xa.lt
  replace xc := xc.below hb xc.lt
  replace hB := hB.trans (hb.mono hB.size)
  clear hb
  generalize wk8.alloc (.cells #[.slice Ae 2 ce, .int .i64 32] 27) = wk9 at *
  rw [hbxe] at xe
  try rw [hbxe]
  clear hbxe
  have hb : Below wk9.heap.size wk9 (wk9.alloc (.cells #[.int .i64 1] 3)) := (Below.refl _ _).alloc (Nat.le_refl _) _
  have hR := Sl.of_own (own_lit wk9 wk9.heap.size 3 1 1 #[.int .i64 1] (Nat.le_refl _) rfl (by simp [maxLen]))
  change Sl _ _ 1 _ 1 1 (([1] : List Int).map (Value.int .i64)) at hR
  obtain ⟨bhR, hbhR⟩ : ∃ q, wk9.heap.size = q := ⟨_, rfl⟩
  have hshR : (wk9.alloc (.cells #[.int .i64 1] 3)).heap.size = bhR + 1 := by rw [← hbhR]; simp
  replace hN := hN.up hb
  replace sa := sa.up hb
  replace sc := sc.up hb
  replace se := se.up hb
  replace xa := xa.below hb xa.lt
  replace xc := xc.below hb xc.lt
  replace xe := xe.below hb xe.lt
  replace hB := hB.trans (hb.mono hB.size)
  clear hb
  have he_hR : bxe + 1 = bhR := by rw [← hbhR, hsxe]
  try rw [he_hR]
  clear he_hR hsxe
  generalize wk9.alloc (.cells #[.int .i64 1] 3) = wk10 at *
  rw [hbhR] at hR
  try rw [hbhR]
  clear hbhR
  have hb : Below wk10.heap.size wk10 (wk10.alloc (.cells #[.int .i64 4, .int .i64 2] 3)) := (Below.refl _ _).alloc (Nat.le_refl _) _
  have hO := Sl.of_own (own_lit wk10 wk10.heap.size 3 1 2 #[.int .i64 4, .int .i64 2] (Nat.le_refl _) rfl (by simp [maxLen]))
  change Sl _ _ 1 _ 2 2 (([4, 2] : List Int).map (Value.int .i64)) at hO
  obtain ⟨bhO, hbhO⟩ : ∃ q, wk10.heap.size = q := ⟨_, rfl⟩
  have hshO : (wk10.alloc (.cells #[.int .i64 4, .int .i64 2] 3)).heap.size = bhO + 1 := by rw [← hbhO]; simp
  replace hN := hN.up hb
  replace sa := sa.up hb
  replace sc := sc.up hb
  replace se := se.up hb
  replace hR := hR.up hb
  replace xa := xa.below hb xa.lt
  replace xc := xc.below hb xc.lt
  replace xe := xe.below hb xe.lt
  replace hB := hB.trans (hb.mono hB.size)
  clear hb
  have he_hO : bhR + 1 = bhO := by rw [← hbhO, hshR]
  try rw [he_hO]
  clear he_hO hshR
  generalize wk10.alloc (.cells #[.int .i64 4, .int .i64 2] 3) = wk11 at *
  rw [hbhO] at hO
  try rw [hbhO]
  clear hbhO
  refine (sproute_v (some ⟨w.heap.size, 0, none⟩) 4 4 net18 (some ⟨bhR, 0, none⟩) 1 1 [1] (some ⟨bhO, 0, none⟩) 2 2 [4, 2] 1 3 0 7 100 wk11 rfl (by omega) rfl (by omega) (wf_lits (by decide) rfl) rfl (by omega) (wf_lits (by decide) rfl) hN hR hO (none) (by decide +kernel) 0 rfl [] rfl false rfl).mono ?_
  rintro e wk12 ⟨Ag, ng, cg, rfl, hng, hmg, sg, hb⟩
  obtain rfl : ng = 0 := hng.symm
  clear hmg hng
  replace hN := hN.up hb
  replace sa := sa.up hb
  replace sc := sc.up hb
  replace se := se.up hb
  replace hR := hR.up hb
  replace hO := hO.up hb
  replace xa := xa.below hb xa.lt
  replace xc := xc.below hb xc.lt
  replace xe := xe.below hb xe.lt
  replace hB := hB.trans (hb.mono hB.size)
  clear hb
  clear hR
  clear hO
  go_wp2_with fail
  have hb : Below wk12.heap.size wk12 (wk12.alloc (.cells #[.slice Ag 0 cg, .int .i64 0] 27)) := (Below.refl _ _).alloc (Nat.le_refl _) _
  have xg := Blok.new wk12 27 #[.slice Ag 0 cg, .int .i64 0]
  obtain ⟨bxg, hbxg⟩ : ∃ q, wk12.heap.size = q := ⟨_, rfl⟩
  have hsxg : (wk12.alloc (.cells #[.slice Ag 0 cg, .int .i64 0] 27)).heap.size = bxg + 1 := by rw [← hbxg]; simp
  replace hN := hN.up hb
  replace sa := sa.up hb
  replace sc := sc.up hb
  replace se := se.up hb
  replace sg := sg.up hb
  replace xa := xa.below hb xa.lt
  replace xc := xc.below hb xc.lt
  replace xe := xe.below hb xe.lt
  replace hB := hB.trans (hb.mono hB.size)
  clear hb
  generalize wk12.alloc (.cells #[.slice Ag 0 cg, .int .i64 0] 27) = wk13 at *
  rw [hbxg] at xg
  try rw [hbxg]
  clear hbxg
  have hb : Below wk13.heap.size wk13 (wk13.alloc (.cells #[.int .i64 3] 3)) := (Below.refl _ _).alloc (Nat.le_refl _) _
  have hR := Sl.of_own (own_lit wk13 wk13.heap.size 3 1 1 #[.int .i64 3] (Nat.le_refl _) rfl (by simp [maxLen]))
  change Sl _ _ 1 _ 1 1 (([3] : List Int).map (Value.int .i64)) at hR
  obtain ⟨bhR, hbhR⟩ : ∃ q, wk13.heap.size = q := ⟨_, rfl⟩
  have hshR : (wk13.alloc (.cells #[.int .i64 3] 3)).heap.size = bhR + 1 := by rw [← hbhR]; simp
  replace hN := hN.up hb
  replace sa := sa.up hb
  replace sc := sc.up hb
  replace se := se.up hb
  replace sg := sg.up hb
  replace xa := xa.below hb xa.lt
  replace xc := xc.below hb xc.lt
  replace xe := xe.below hb xe.lt
  replace xg := xg.below hb xg.lt
  replace hB := hB.trans (hb.mono hB.size)
  clear hb
  have he_hR : bxg + 1 = bhR := by rw [← hbhR, hsxg]
  try rw [he_hR]
  clear he_hR hsxg
  generalize wk13.alloc (.cells #[.int .i64 3] 3) = wk14 at *
  rw [hbhR] at hR
  try rw [hbhR]
  clear hbhR
  have hb : Below wk14.heap.size wk14 (wk14.alloc (.cells #[.int .i64 3, .int .i64 1, .int .i64 4] 3)) := (Below.refl _ _).alloc (Nat.le_refl _) _
  have hO := Sl.of_own (own_lit wk14 wk14.heap.size 3 1 3 #[.int .i64 3, .int .i64 1, .int .i64 4] (Nat.le_refl _) rfl (by simp [maxLen]))
  change Sl _ _ 1 _ 3 3 (([3, 1, 4] : List Int).map (Value.int .i64)) at hO
  obtain ⟨bhO, hbhO⟩ : ∃ q, wk14.heap.size = q := ⟨_, rfl⟩
  have hshO : (wk14.alloc (.cells #[.int .i64 3, .int .i64 1, .int .i64 4] 3)).heap.size = bhO + 1 := by rw [← hbhO]; simp
  replace hN := hN.up hb
  replace sa := sa.up hb
  replace sc := sc.up hb
  replace se := se.up hb
  replace sg := sg.up hb
  replace hR := hR.up hb
  replace xa := xa.below hb xa.lt
  replace xc := xc.below hb xc.lt
  replace xe := xe.below hb xe.lt
  replace xg := xg.below hb xg.lt
  replace hB := hB.trans (hb.mono hB.size)
  clear hb
  have he_hO : bhR + 1 = bhO := by rw [← hbhO, hshR]
  try rw [he_hO]
  clear he_hO hshR
  generalize wk14.alloc (.cells #[.int .i64 3, .int .i64 1, .int .i64 4] 3) = wk15 at *
  rw [hbhO] at hO
  try rw [hbhO]
  clear hbhO
  refine (sproute_v (some ⟨w.heap.size, 0, none⟩) 4 4 net18 (some ⟨bhR, 0, none⟩) 1 1 [3] (some ⟨bhO, 0, none⟩) 3 3 [3, 1, 4] 1 3 0 7 100 wk15 rfl (by omega) rfl (by omega) (wf_lits (by decide) rfl) rfl (by omega) (wf_lits (by decide) rfl) hN hR hO (some ([⟨3, 30, 32⟩], 32)) (by decide +kernel) 32 rfl [⟨3, 30, 32⟩] rfl true rfl).mono ?_
  rintro e wk16 ⟨Ah, nh, ch, rfl, hnh, hmh, sh, hb⟩
  obtain rfl : nh = 1 := hnh.symm
  clear hmh hnh
  replace hN := hN.up hb
  replace sa := sa.up hb
  replace sc := sc.up hb
  replace se := se.up hb
  replace sg := sg.up hb
  replace hR := hR.up hb
  replace hO := hO.up hb
  replace xa := xa.below hb xa.lt
  replace xc := xc.below hb xc.lt
  replace xe := xe.below hb xe.lt
  replace xg := xg.below hb xg.lt
  replace hB := hB.trans (hb.mono hB.size)
  clear hb
  clear hR
  clear hO
  go_wp2_with fail
  have hb : Below wk16.heap.size wk16 (wk16.alloc (.cells #[.slice Ah 1 ch, .int .i64 32] 27)) := (Below.refl _ _).alloc (Nat.le_refl _) _
  have xh := Blok.new wk16 27 #[.slice Ah 1 ch, .int .i64 32]
  obtain ⟨bxh, hbxh⟩ : ∃ q, wk16.heap.size = q := ⟨_, rfl⟩
  have hsxh : (wk16.alloc (.cells #[.slice Ah 1 ch, .int .i64 32] 27)).heap.size = bxh + 1 := by rw [← hbxh]; simp
  replace hN := hN.up hb
  replace sa := sa.up hb
  replace sc := sc.up hb
  replace se := se.up hb
  replace sg := sg.up hb
  replace sh := sh.up hb
  replace xa := xa.below hb xa.lt
  replace xc := xc.below hb xc.lt
  replace xe := xe.below hb xe.lt
  replace xg := xg.below hb xg.lt
  replace hB := hB.trans (hb.mono hB.size)
  clear hb
  generalize wk16.alloc (.cells #[.slice Ah 1 ch, .int .i64 32] 27) = wk17 at *
  rw [hbxh] at xh
  try rw [hbxh]
  clear hbxh
  have hb : Below wk17.heap.size wk17 (wk17.alloc (.cells #[.int .i64 2] 3)) := (Below.refl _ _).alloc (Nat.le_refl _) _
  have hR := Sl.of_own (own_lit wk17 wk17.heap.size 3 1 1 #[.int .i64 2] (Nat.le_refl _) rfl (by simp [maxLen]))
  change Sl _ _ 1 _ 1 1 (([2] : List Int).map (Value.int .i64)) at hR
  obtain ⟨bhR, hbhR⟩ : ∃ q, wk17.heap.size = q := ⟨_, rfl⟩
  have hshR : (wk17.alloc (.cells #[.int .i64 2] 3)).heap.size = bhR + 1 := by rw [← hbhR]; simp
  replace hN := hN.up hb
  replace sa := sa.up hb
  replace sc := sc.up hb
  replace se := se.up hb
  replace sg := sg.up hb
  replace sh := sh.up hb
  replace xa := xa.below hb xa.lt
  replace xc := xc.below hb xc.lt
  replace xe := xe.below hb xe.lt
  replace xg := xg.below hb xg.lt
  replace xh := xh.below hb xh.lt
  replace hB := hB.trans (hb.mono hB.size)
  clear hb
  have he_hR : bxh + 1 = bhR := by rw [← hbhR, hsxh]
  try rw [he_hR]
  clear he_hR hsxh
  generalize wk17.alloc (.cells #[.int .i64 2] 3) = wk18 at *
  rw [hbhR] at hR
  try rw [hbhR]
  clear hbhR
  refine (sproute_v (some ⟨w.heap.size, 0, none⟩) 4 4 net18 (some ⟨bhR, 0, none⟩) 1 1 [2] none 0 0 [] 1 3 0 7 100 wk18 rfl (by omega) rfl (by omega) (wf_lits (by decide) rfl) rfl (by omega) (wf_lits (by decide) rfl) hN hR (Sl.nil0 _ _ _) (none) (by decide +kernel) 0 rfl [] rfl false rfl).mono ?_
  rintro e wk19 ⟨Ak, nk, ck, rfl, hnk, hmk, sk, hb⟩
  obtain rfl : nk = 0 := hnk.symm
  clear hmk hnk
  replace hN := hN.up hb
  replace sa := sa.up hb
  replace sc := sc.up hb
  replace se := se.up hb
  replace sg := sg.up hb
  replace sh := sh.up hb
  replace hR := hR.up hb
  replace xa := xa.below hb xa.lt
  replace xc := xc.below hb xc.lt
  replace xe := xe.below hb xe.lt
  replace xg := xg.below hb xg.lt
  replace xh := xh.below hb xh.lt
  replace hB := hB.trans (hb.mono hB.size)
  clear hb
  clear hR
  have xa_c0 := (xa.cell 0 : wk19.cell? ⟨bxa, 0, none⟩ = some (.slice Aa 2 ca))
  have xa_c1 := (xa.cell 1 : wk19.cell? ⟨bxa, 1, none⟩ = some (.int .i64 31))
  have xa_lt := xa.lt
  go_wp2_with fail
  try clear xa_c0 xa_c1 xa_lt
  have hb : Below wk19.heap.size wk19 (wk19.alloc (.cells #[.slice Ak 0 ck, .int .i64 0] 27)) := (Below.refl _ _).alloc (Nat.le_refl _) _
  have xk := Blok.new wk19 27 #[.slice Ak 0 ck, .int .i64 0]
  obtain ⟨bxk, hbxk⟩ : ∃ q, wk19.heap.size = q := ⟨_, rfl⟩
  have hsxk : (wk19.alloc (.cells #[.slice Ak 0 ck, .int .i64 0] 27)).heap.size = bxk + 1 := by rw [← hbxk]; simp
  replace hN := hN.up hb
  replace sa := sa.up hb
  replace sc := sc.up hb
  replace se := se.up hb
  replace sg := sg.up hb
  replace sh := sh.up hb
  replace sk := sk.up hb
  replace xa := xa.below hb xa.lt
  replace xc := xc.below hb xc.lt
  replace xe := xe.below hb xe.lt
  replace xg := xg.below hb xg.lt
  replace xh := xh.below hb xh.lt
  replace hB := hB.trans (hb.mono hB.size)
  clear hb
  generalize wk19.alloc (.cells #[.slice Ak 0 ck, .int .i64 0] 27) = wk20 at *
  rw [hbxk] at xk
  try rw [hbxk]
  clear hbxk
  refine (pids_v Aa 2 ca [⟨1, 10, 17⟩, ⟨4, 17, 31⟩] 31 wk20 rfl (by omega) sa [1, 4] rfl).mono ?_
  rintro e wk21 ⟨Ai, ci, rfl, hil, si, hb⟩
  clear hil
  replace hN := hN.up hb
  replace sa := sa.up hb
  replace sc := sc.up hb
  replace se := se.up hb
  replace sg := sg.up hb
  replace sh := sh.up hb
  replace sk := sk.up hb
  replace xa := xa.below hb xa.lt
  replace xc := xc.below hb xc.lt
  replace xe := xe.below hb xe.lt
  replace xg := xg.below hb xg.lt
  replace xh := xh.below hb xh.lt
  replace xk := xk.below hb xk.lt
  replace hB := hB.trans (hb.mono hB.size)
  clear hb
  go_wp2_with fail
  have hb : Below wk21.heap.size wk21 (wk21.alloc (.cells #[.int .i64 1, .int .i64 4] 3)) := (Below.refl _ _).alloc (Nat.le_refl _) _
  have hP := Sl.of_own (own_lit wk21 wk21.heap.size 3 1 2 #[.int .i64 1, .int .i64 4] (Nat.le_refl _) rfl (by simp [maxLen]))
  change Sl _ _ 1 _ 2 2 (([1, 4] : List Int).map (Value.int .i64)) at hP
  obtain ⟨bhP, hbhP⟩ : ∃ q, wk21.heap.size = q := ⟨_, rfl⟩
  have hshP : (wk21.alloc (.cells #[.int .i64 1, .int .i64 4] 3)).heap.size = bhP + 1 := by rw [← hbhP]; simp
  replace hN := hN.up hb
  replace sa := sa.up hb
  replace sc := sc.up hb
  replace se := se.up hb
  replace sg := sg.up hb
  replace sh := sh.up hb
  replace sk := sk.up hb
  replace si := si.up hb
  replace xa := xa.below hb xa.lt
  replace xc := xc.below hb xc.lt
  replace xe := xe.below hb xe.lt
  replace xg := xg.below hb xg.lt
  replace xh := xh.below hb xh.lt
  replace xk := xk.below hb xk.lt
  replace hB := hB.trans (hb.mono hB.size)
  clear hb
  generalize wk21.alloc (.cells #[.int .i64 1, .int .i64 4] 3) = wk22 at *
  rw [hbhP] at hP
  try rw [hbhP]
  clear hbhP
  refine (ints_yes Ai (some ⟨bhP, 0, none⟩) 2 ci 2 2 [1, 4] [1, 4] wk22 rfl rfl (by omega) (by omega) si hP rfl).mono ?_
  rintro e wk23 ⟨rfl, hb⟩
  replace hN := hN.up hb
  replace sa := sa.up hb
  replace sc := sc.up hb
  replace se := se.up hb
  replace sg := sg.up hb
  replace sh := sh.up hb
  replace sk := sk.up hb
  replace si := si.up hb
  replace hP := hP.up hb
  replace xa := xa.below hb xa.lt
  replace xc := xc.below hb xc.lt
  replace xe := xe.below hb xe.lt
  replace xg := xg.below hb xg.lt
  replace xh := xh.below hb xh.lt
  replace xk := xk.below hb xk.lt
  replace hB := hB.trans (hb.mono hB.size)
  clear hb
  clear hP
  clear si
  have xc_c0 := (xc.cell 0 : wk23.cell? ⟨bxc, 0, none⟩ = some (.slice Ac 1 cc))
  have xc_c1 := (xc.cell 1 : wk23.cell? ⟨bxc, 1, none⟩ = some (.int .i64 32))
  have xc_lt := xc.lt
  go_wp2_with fail
  try clear xc_c0 xc_c1 xc_lt
  refine (pids_v Ac 1 cc [⟨3, 30, 32⟩] 32 wk23 rfl (by omega) sc [3] rfl).mono ?_
  rintro e wk24 ⟨Ai, ci, rfl, hil, si, hb⟩
  clear hil
  replace hN := hN.up hb
  replace sa := sa.up hb
  replace sc := sc.up hb
  replace se := se.up hb
  replace sg := sg.up hb
  replace sh := sh.up hb
  replace sk := sk.up hb
  replace xa := xa.below hb xa.lt
  replace xc := xc.below hb xc.lt
  replace xe := xe.below hb xe.lt
  replace xg := xg.below hb xg.lt
  replace xh := xh.below hb xh.lt
  replace xk := xk.below hb xk.lt
  replace hB := hB.trans (hb.mono hB.size)
  clear hb
  go_wp2_with fail
  have hb : Below wk24.heap.size wk24 (wk24.alloc (.cells #[.int .i64 3] 3)) := (Below.refl _ _).alloc (Nat.le_refl _) _
  have hP := Sl.of_own (own_lit wk24 wk24.heap.size 3 1 1 #[.int .i64 3] (Nat.le_refl _) rfl (by simp [maxLen]))
  change Sl _ _ 1 _ 1 1 (([3] : List Int).map (Value.int .i64)) at hP
  obtain ⟨bhP, hbhP⟩ : ∃ q, wk24.heap.size = q := ⟨_, rfl⟩
  have hshP : (wk24.alloc (.cells #[.int .i64 3] 3)).heap.size = bhP + 1 := by rw [← hbhP]; simp
  replace hN := hN.up hb
  replace sa := sa.up hb
  replace sc := sc.up hb
  replace se := se.up hb
  replace sg := sg.up hb
  replace sh := sh.up hb
  replace sk := sk.up hb
  replace si := si.up hb
  replace xa := xa.below hb xa.lt
  replace xc := xc.below hb xc.lt
  replace xe := xe.below hb xe.lt
  replace xg := xg.below hb xg.lt
  replace xh := xh.below hb xh.lt
  replace xk := xk.below hb xk.lt
  replace hB := hB.trans (hb.mono hB.size)
  clear hb
  generalize wk24.alloc (.cells #[.int .i64 3] 3) = wk25 at *
  rw [hbhP] at hP
  try rw [hbhP]
  clear hbhP
  refine (ints_yes Ai (some ⟨bhP, 0, none⟩) 1 ci 1 1 [3] [3] wk25 rfl rfl (by omega) (by omega) si hP rfl).mono ?_
  rintro e wk26 ⟨rfl, hb⟩
  replace hN := hN.up hb
  replace sa := sa.up hb
  replace sc := sc.up hb
  replace se := se.up hb
  replace sg := sg.up hb
  replace sh := sh.up hb
  replace sk := sk.up hb
  replace si := si.up hb
  replace hP := hP.up hb
  replace xa := xa.below hb xa.lt
  replace xc := xc.below hb xc.lt
  replace xe := xe.below hb xe.lt
  replace xg := xg.below hb xg.lt
  replace xh := xh.below hb xh.lt
  replace xk := xk.below hb xk.lt
  replace hB := hB.trans (hb.mono hB.size)
  clear hb
  clear hP
  clear si
  have xe_c0 := (xe.cell 0 : wk26.cell? ⟨bxe, 0, none⟩ = some (.slice Ae 2 ce))
  have xe_c1 := (xe.cell 1 : wk26.cell? ⟨bxe, 1, none⟩ = some (.int .i64 32))
  have xe_lt := xe.lt
  go_wp2_with fail
  try clear xe_c0 xe_c1 xe_lt
  refine (pids_v Ae 2 ce [⟨1, 10, 17⟩, ⟨2, 30, 32⟩] 32 wk26 rfl (by omega) se [1, 2] rfl).mono ?_
  rintro e wk27 ⟨Ai, ci, rfl, hil, si, hb⟩
  clear hil
  replace hN := hN.up hb
  replace sa := sa.up hb
  replace sc := sc.up hb
  replace se := se.up hb
  replace sg := sg.up hb
  replace sh := sh.up hb
  replace sk := sk.up hb
  replace xa := xa.below hb xa.lt
  replace xc := xc.below hb xc.lt
  replace xe := xe.below hb xe.lt
  replace xg := xg.below hb xg.lt
  replace xh := xh.below hb xh.lt
  replace xk := xk.below hb xk.lt
  replace hB := hB.trans (hb.mono hB.size)
  clear hb
  go_wp2_with fail
  have hb : Below wk27.heap.size wk27 (wk27.alloc (.cells #[.int .i64 1, .int .i64 2] 3)) := (Below.refl _ _).alloc (Nat.le_refl _) _
  have hP := Sl.of_own (own_lit wk27 wk27.heap.size 3 1 2 #[.int .i64 1, .int .i64 2] (Nat.le_refl _) rfl (by simp [maxLen]))
  change Sl _ _ 1 _ 2 2 (([1, 2] : List Int).map (Value.int .i64)) at hP
  obtain ⟨bhP, hbhP⟩ : ∃ q, wk27.heap.size = q := ⟨_, rfl⟩
  have hshP : (wk27.alloc (.cells #[.int .i64 1, .int .i64 2] 3)).heap.size = bhP + 1 := by rw [← hbhP]; simp
  replace hN := hN.up hb
  replace sa := sa.up hb
  replace sc := sc.up hb
  replace se := se.up hb
  replace sg := sg.up hb
  replace sh := sh.up hb
  replace sk := sk.up hb
  replace si := si.up hb
  replace xa := xa.below hb xa.lt
  replace xc := xc.below hb xc.lt
  replace xe := xe.below hb xe.lt
  replace xg := xg.below hb xg.lt
  replace xh := xh.below hb xh.lt
  replace xk := xk.below hb xk.lt
  replace hB := hB.trans (hb.mono hB.size)
  clear hb
  generalize wk27.alloc (.cells #[.int .i64 1, .int .i64 2] 3) = wk28 at *
  rw [hbhP] at hP
  try rw [hbhP]
  clear hbhP
  refine (ints_yes Ai (some ⟨bhP, 0, none⟩) 2 ci 2 2 [1, 2] [1, 2] wk28 rfl rfl (by omega) (by omega) si hP rfl).mono ?_
  rintro e wk29 ⟨rfl, hb⟩
  replace hN := hN.up hb
  replace sa := sa.up hb
  replace sc := sc.up hb
  replace se := se.up hb
  replace sg := sg.up hb
  replace sh := sh.up hb
  replace sk := sk.up hb
  replace si := si.up hb
  replace hP := hP.up hb
  replace xa := xa.below hb xa.lt
  replace xc := xc.below hb xc.lt
  replace xe := xe.below hb xe.lt
  replace xg := xg.below hb xg.lt
  replace xh := xh.below hb xh.lt
  replace xk := xk.below hb xk.lt
  replace hB := hB.trans (hb.mono hB.size)
  clear hb
  clear hP
  clear si
  have xe_c0 := (xe.cell 0 : wk29.cell? ⟨bxe, 0, none⟩ = some (.slice Ae 2 ce))
  have xe_c1 := (xe.cell 1 : wk29.cell? ⟨bxe, 1, none⟩ = some (.int .i64 32))
  have xe_lt := xe.lt
  have xh_c0 := (xh.cell 0 : wk29.cell? ⟨bxh, 0, none⟩ = some (.slice Ah 1 ch))
  have xh_c1 := (xh.cell 1 : wk29.cell? ⟨bxh, 1, none⟩ = some (.int .i64 32))
  have xh_lt := xh.lt
  go_wp2_with fail
  try clear xe_c0 xe_c1 xe_lt xh_c0 xh_c1 xh_lt
  refine (pids_v Ah 1 ch [⟨3, 30, 32⟩] 32 wk29 rfl (by omega) sh [3] rfl).mono ?_
  rintro e wk30 ⟨Ai, ci, rfl, hil, si, hb⟩
  clear hil
  replace hN := hN.up hb
  replace sa := sa.up hb
  replace sc := sc.up hb
  replace se := se.up hb
  replace sg := sg.up hb
  replace sh := sh.up hb
  replace sk := sk.up hb
  replace xa := xa.below hb xa.lt
  replace xc := xc.below hb xc.lt
  replace xe := xe.below hb xe.lt
  replace xg := xg.below hb xg.lt
  replace xh := xh.below hb xh.lt
  replace xk := xk.below hb xk.lt
  replace hB := hB.trans (hb.mono hB.size)
  clear hb
  go_wp2_with fail
  have hb : Below wk30.heap.size wk30 (wk30.alloc (.cells #[.int .i64 3] 3)) := (Below.refl _ _).alloc (Nat.le_refl _) _
  have hP := Sl.of_own (own_lit wk30 wk30.heap.size 3 1 1 #[.int .i64 3] (Nat.le_refl _) rfl (by simp [maxLen]))
  change Sl _ _ 1 _ 1 1 (([3] : List Int).map (Value.int .i64)) at hP
  obtain ⟨bhP, hbhP⟩ : ∃ q, wk30.heap.size = q := ⟨_, rfl⟩
  have hshP : (wk30.alloc (.cells #[.int .i64 3] 3)).heap.size = bhP + 1 := by rw [← hbhP]; simp
  replace hN := hN.up hb
  replace sa := sa.up hb
  replace sc := sc.up hb
  replace se := se.up hb
  replace sg := sg.up hb
  replace sh := sh.up hb
  replace sk := sk.up hb
  replace si := si.up hb
  replace xa := xa.below hb xa.lt
  replace xc := xc.below hb xc.lt
  replace xe := xe.below hb xe.lt
  replace xg := xg.below hb xg.lt
  replace xh := xh.below hb xh.lt
  replace xk := xk.below hb xk.lt
  replace hB := hB.trans (hb.mono hB.size)
  clear hb
  generalize wk30.alloc (.cells #[.int .i64 3] 3) = wk31 at *
  rw [hbhP] at hP
  try rw [hbhP]
  clear hbhP
  refine (ints_yes Ai (some ⟨bhP, 0, none⟩) 1 ci 1 1 [3] [3] wk31 rfl rfl (by omega) (by omega) si hP rfl).mono ?_
  rintro e wk32 ⟨rfl, hb⟩
  replace hN := hN.up hb
  replace sa := sa.up hb
  replace sc := sc.up hb
  replace se := se.up hb
  replace sg := sg.up hb
  replace sh := sh.up hb
  replace sk := sk.up hb
  replace si := si.up hb
  replace hP := hP.up hb
  replace xa := xa.below hb xa.lt
  replace xc := xc.below hb xc.lt
  replace xe := xe.below hb xe.lt
  replace xg := xg.below hb xg.lt
  replace xh := xh.below hb xh.lt
  replace xk := xk.below hb xk.lt
  replace hB := hB.trans (hb.mono hB.size)
  clear hb
  clear hP
  clear si
  go_wp2_with fail
  go_ret
  exact ⟨rfl, hB⟩
end Go.Proofs.YtmbaklodgpcegaaGreat
