/- Layer 17's small case comes out right. No condition. -/
import Derived.Test.YtmibgfenobekjaaGQ18
import Derived.Test.YtmibgfenobekjaaGQ23
namespace Go.Proofs.Ytmibgfenobekjaa
open Go.ChangeShapes Go.WideShapes Go.ChangeAt Go.RowKit Go.Sort Hp
set_option linter.unusedSimpArgs false
set_option linter.unusedVariables false
def net17 : List Ed := [⟨1, 1, 2, 10, 20, 3, 4, 30⟩, ⟨2, 2, 3, 30, 50, 9, 1, 30⟩, ⟨3, 1, 3, 30, 50, 9, 1, 90⟩, ⟨4, 2, 3, 0, 50, 1, 7, 90⟩]
theorem net17_any (w : World) :
    Calls Try.prog 20 #[] w fun e w' => e = .returned (.slice (some ⟨w.heap.size, 0, none⟩) 4 4) ∧ w' = w.alloc (.cells #[.int .i64 1, .int .i64 1, .int .i64 2, .int .i64 10, .int .i64 20, .int .i64 3, .int .i64 4, .int .i64 30, .int .i64 2, .int .i64 2, .int .i64 3, .int .i64 30, .int .i64 50, .int .i64 9, .int .i64 1, .int .i64 30, .int .i64 3, .int .i64 1, .int .i64 3, .int .i64 30, .int .i64 50, .int .i64 9, .int .i64 1, .int .i64 90, .int .i64 4, .int .i64 2, .int .i64 3, .int .i64 0, .int .i64 50, .int .i64 1, .int .i64 7, .int .i64 90] 82) := by
  go_enter Try.func20, Try.ntmps20
  go_wp2
  go_ret
  exact ⟨rfl, rfl⟩
theorem wf_oneI {x : Int} (h : (Lit.int .i64 x).wf = true) : ∀ k, k < 1 → (Lit.int .i64 (([x] : List Int).getD k 0)).wf = true := fun k hk => by
  obtain rfl : k = 0 := by omega
  exact h
set_option maxHeartbeats 8000000 in
set_option maxRecDepth 100000 in
theorem small17_any (w : World) : Calls Try.prog 8 #[] w fun e w' => e = .returned (.bool true) ∧ Below w.heap.size w w' := by
  have hB : Below w.heap.size w (w.alloc (.cells #[.int .i64 1, .int .i64 1, .int .i64 2, .int .i64 10, .int .i64 20, .int .i64 3, .int .i64 4, .int .i64 30, .int .i64 2, .int .i64 2, .int .i64 3, .int .i64 30, .int .i64 50, .int .i64 9, .int .i64 1, .int .i64 30, .int .i64 3, .int .i64 1, .int .i64 3, .int .i64 30, .int .i64 50, .int .i64 9, .int .i64 1, .int .i64 90, .int .i64 4, .int .i64 2, .int .i64 3, .int .i64 0, .int .i64 50, .int .i64 1, .int .i64 7, .int .i64 90] 82)) := (Below.refl _ _).alloc (Nat.le_refl _) _
  have hN := Sl.of_own (own_lit w w.heap.size 82 8 4 #[.int .i64 1, .int .i64 1, .int .i64 2, .int .i64 10, .int .i64 20, .int .i64 3, .int .i64 4, .int .i64 30, .int .i64 2, .int .i64 2, .int .i64 3, .int .i64 30, .int .i64 50, .int .i64 9, .int .i64 1, .int .i64 30, .int .i64 3, .int .i64 1, .int .i64 3, .int .i64 30, .int .i64 50, .int .i64 9, .int .i64 1, .int .i64 90, .int .i64 4, .int .i64 2, .int .i64 3, .int .i64 0, .int .i64 50, .int .i64 1, .int .i64 7, .int .i64 90] (Nat.le_refl _) rfl (by simp [maxLen]))
  change Sl _ _ 8 _ 4 4 (flatEd net17) at hN
  go_enter Try.func8, Try.ntmps8
  go_wp2_with fail
  refine (net17_any w).mono ?_
  rintro e w0 ⟨rfl, rfl⟩
  generalize w.alloc (.cells #[.int .i64 1, .int .i64 1, .int .i64 2, .int .i64 10, .int .i64 20, .int .i64 3, .int .i64 4, .int .i64 30, .int .i64 2, .int .i64 2, .int .i64 3, .int .i64 30, .int .i64 50, .int .i64 9, .int .i64 1, .int .i64 30, .int .i64 3, .int .i64 1, .int .i64 3, .int .i64 30, .int .i64 50, .int .i64 9, .int .i64 1, .int .i64 90, .int .i64 4, .int .i64 2, .int .i64 3, .int .i64 0, .int .i64 50, .int .i64 1, .int .i64 7, .int .i64 90] 82) = w0 at *
  go_wp2_with fail
  refine (lroute_v (some ⟨w.heap.size, 0, none⟩) 4 4 net17 1 3 0 9 100 none 0 0 [] w0 rfl (by omega) rfl (by omega) (fun k hk => by omega) hN (Sl.nil0 _ _ _) (some ([⟨3, 30, 32⟩], 32)) (by decide +kernel) 32 rfl [⟨3, 30, 32⟩] rfl true rfl).mono ?_
  rintro e wk1 ⟨Aa, na, ca, rfl, hna, hma, sa, hb⟩
  obtain rfl : na = 1 := hna.symm
  clear hma hna
  replace hN := hN.up hb
  replace hB := hB.trans (hb.mono hB.size)
  clear hb
  go_wp2_with fail
  have hb : Below wk1.heap.size wk1 (wk1.alloc (.cells #[.slice Aa 1 ca, .int .i64 32] 27)) := (Below.refl _ _).alloc (Nat.le_refl _) _
  have xa := Blok.new wk1 27 #[.slice Aa 1 ca, .int .i64 32]
  obtain ⟨bxa, hbxa⟩ : ∃ q, wk1.heap.size = q := ⟨_, rfl⟩
  have hsxa : (wk1.alloc (.cells #[.slice Aa 1 ca, .int .i64 32] 27)).heap.size = bxa + 1 := by rw [← hbxa]; simp
  replace hN := hN.up hb
  replace sa := sa.up hb
  replace hB := hB.trans (hb.mono hB.size)
  clear hb
  generalize wk1.alloc (.cells #[.slice Aa 1 ca, .int .i64 32] 27) = wk2 at *
  rw [hbxa] at xa
  try rw [hbxa]
  clear hbxa
  refine (lroute_v (some ⟨w.heap.size, 0, none⟩) 4 4 net17 1 3 0 7 100 none 0 0 [] wk2 rfl (by omega) rfl (by omega) (fun k hk => by omega) hN (Sl.nil0 _ _ _) (some ([⟨1, 10, 17⟩, ⟨4, 17, 31⟩], 31)) (by decide +kernel) 31 rfl [⟨1, 10, 17⟩, ⟨4, 17, 31⟩] rfl true rfl).mono ?_
  rintro e wk3 ⟨Ac, nc, cc, rfl, hnc, hmc, sc, hb⟩
  obtain rfl : nc = 2 := hnc.symm
  clear hmc hnc
  replace hN := hN.up hb
  replace sa := sa.up hb
  replace xa := xa.below hb xa.lt
  replace hB := hB.trans (hb.mono hB.size)
  clear hb
  go_wp2_with fail
  have hb : Below wk3.heap.size wk3 (wk3.alloc (.cells #[.slice Ac 2 cc, .int .i64 31] 27)) := (Below.refl _ _).alloc (Nat.le_refl _) _
  have xc := Blok.new wk3 27 #[.slice Ac 2 cc, .int .i64 31]
  obtain ⟨bxc, hbxc⟩ : ∃ q, wk3.heap.size = q := ⟨_, rfl⟩
  have hsxc : (wk3.alloc (.cells #[.slice Ac 2 cc, .int .i64 31] 27)).heap.size = bxc + 1 := by rw [← hbxc]; simp
  replace hN := hN.up hb
  replace sa := sa.up hb
  replace sc := sc.up hb
  replace xa := xa.below hb xa.lt
  replace hB := hB.trans (hb.mono hB.size)
  clear hb
  generalize wk3.alloc (.cells #[.slice Ac 2 cc, .int .i64 31] 27) = wk4 at *
  rw [hbxc] at xc
  try rw [hbxc]
  clear hbxc
  have hb : Below wk4.heap.size wk4 (wk4.alloc (.cells #[.int .i64 2] 3)) := (Below.refl _ _).alloc (Nat.le_refl _) _
  have hO := Sl.of_own (own_lit wk4 wk4.heap.size 3 1 1 #[.int .i64 2] (Nat.le_refl _) rfl (by simp [maxLen]))
  change Sl _ _ 1 _ 1 1 (([2] : List Int).map (Value.int .i64)) at hO
  obtain ⟨bhO, hbhO⟩ : ∃ q, wk4.heap.size = q := ⟨_, rfl⟩
  have hshO : (wk4.alloc (.cells #[.int .i64 2] 3)).heap.size = bhO + 1 := by rw [← hbhO]; simp
  replace hN := hN.up hb
  replace sa := sa.up hb
  replace sc := sc.up hb
  replace xa := xa.below hb xa.lt
  replace xc := xc.below hb xc.lt
  replace hB := hB.trans (hb.mono hB.size)
  clear hb
  have he_hO : bxc + 1 = bhO := by rw [← hbhO, hsxc]
  try rw [he_hO]
  clear he_hO hsxc
  generalize wk4.alloc (.cells #[.int .i64 2] 3) = wk5 at *
  rw [hbhO] at hO
  try rw [hbhO]
  clear hbhO
  refine (lroute_v (some ⟨w.heap.size, 0, none⟩) 4 4 net17 1 3 0 7 100 (some ⟨bhO, 0, none⟩) 1 1 [2] wk5 rfl (by omega) rfl (by omega) (wf_oneI (by decide +kernel)) hN hO (some ([⟨3, 30, 32⟩], 32)) (by decide +kernel) 32 rfl [⟨3, 30, 32⟩] rfl true rfl).mono ?_
  rintro e wk6 ⟨Ae, ne, ce, rfl, hne, hme, se, hb⟩
  obtain rfl : ne = 1 := hne.symm
  clear hme hne
  replace hN := hN.up hb
  replace sa := sa.up hb
  replace sc := sc.up hb
  replace hO := hO.up hb
  replace xa := xa.below hb xa.lt
  replace xc := xc.below hb xc.lt
  replace hB := hB.trans (hb.mono hB.size)
  clear hb
  clear hO
  go_wp2_with fail
  have hb : Below wk6.heap.size wk6 (wk6.alloc (.cells #[.slice Ae 1 ce, .int .i64 32] 27)) := (Below.refl _ _).alloc (Nat.le_refl _) _
  have xe := Blok.new wk6 27 #[.slice Ae 1 ce, .int .i64 32]
  obtain ⟨bxe, hbxe⟩ : ∃ q, wk6.heap.size = q := ⟨_, rfl⟩
  have hsxe : (wk6.alloc (.cells #[.slice Ae 1 ce, .int .i64 32] 27)).heap.size = bxe + 1 := by rw [← hbxe]; simp
  replace hN := hN.up hb
  replace sa := sa.up hb
  replace sc := sc.up hb
  replace se := se.up hb
  replace xa := xa.below hb xa.lt
  replace xc := xc.below hb xc.lt
  replace hB := hB.trans (hb.mono hB.size)
  clear hb
  generalize wk6.alloc (.cells #[.slice Ae 1 ce, .int .i64 32] 27) = wk7 at *
  rw [hbxe] at xe
  try rw [hbxe]
  clear hbxe
  refine (lroute_v (some ⟨w.heap.size, 0, none⟩) 4 4 net17 1 3 0 9 31 none 0 0 [] wk7 rfl (by omega) rfl (by omega) (fun k hk => by omega) hN (Sl.nil0 _ _ _) (none) (by decide +kernel) 0 rfl [] rfl false rfl).mono ?_
  rintro e wk8 ⟨Ag, ng, cg, rfl, hng, hmg, sg, hb⟩
  obtain rfl : ng = 0 := hng.symm
  clear hmg hng
  replace hN := hN.up hb
  replace sa := sa.up hb
  replace sc := sc.up hb
  replace se := se.up hb
  replace xa := xa.below hb xa.lt
  replace xc := xc.below hb xc.lt
  replace xe := xe.below hb xe.lt
  replace hB := hB.trans (hb.mono hB.size)
  clear hb
  go_wp2_with fail
  have hb : Below wk8.heap.size wk8 (wk8.alloc (.cells #[.slice Ag 0 cg, .int .i64 0] 27)) := (Below.refl _ _).alloc (Nat.le_refl _) _
  have xg := Blok.new wk8 27 #[.slice Ag 0 cg, .int .i64 0]
  obtain ⟨bxg, hbxg⟩ : ∃ q, wk8.heap.size = q := ⟨_, rfl⟩
  have hsxg : (wk8.alloc (.cells #[.slice Ag 0 cg, .int .i64 0] 27)).heap.size = bxg + 1 := by rw [← hbxg]; simp
  replace hN := hN.up hb
  replace sa := sa.up hb
  replace sc := sc.up hb
  replace se := se.up hb
  replace sg := sg.up hb
  replace xa := xa.below hb xa.lt
  replace xc := xc.below hb xc.lt
  replace xe := xe.below hb xe.lt
  replace hB := hB.trans (hb.mono hB.size)
  clear hb
  generalize wk8.alloc (.cells #[.slice Ag 0 cg, .int .i64 0] 27) = wk9 at *
  rw [hbxg] at xg
  try rw [hbxg]
  clear hbxg
  refine (lroute_v (some ⟨w.heap.size, 0, none⟩) 4 4 net17 2 2 5 9 5 none 0 0 [] wk9 rfl (by omega) rfl (by omega) (fun k hk => by omega) hN (Sl.nil0 _ _ _) (some ([], 5)) (by decide +kernel) 5 rfl [] rfl true rfl).mono ?_
  rintro e wk10 ⟨Ah, nh, ch, rfl, hnh, hmh, sh, hb⟩
  obtain rfl : nh = 0 := hnh.symm
  clear hmh hnh
  replace hN := hN.up hb
  replace sa := sa.up hb
  replace sc := sc.up hb
  replace se := se.up hb
  replace sg := sg.up hb
  replace xa := xa.below hb xa.lt
  replace xc := xc.below hb xc.lt
  replace xe := xe.below hb xe.lt
  replace xg := xg.below hb xg.lt
  replace hB := hB.trans (hb.mono hB.size)
  clear hb
  go_wp2_with fail
  have hb : Below wk10.heap.size wk10 (wk10.alloc (.cells #[.slice Ah 0 ch, .int .i64 5] 27)) := (Below.refl _ _).alloc (Nat.le_refl _) _
  have xh := Blok.new wk10 27 #[.slice Ah 0 ch, .int .i64 5]
  obtain ⟨bxh, hbxh⟩ : ∃ q, wk10.heap.size = q := ⟨_, rfl⟩
  have hsxh : (wk10.alloc (.cells #[.slice Ah 0 ch, .int .i64 5] 27)).heap.size = bxh + 1 := by rw [← hbxh]; simp
  replace hN := hN.up hb
  replace sa := sa.up hb
  replace sc := sc.up hb
  replace se := se.up hb
  replace sg := sg.up hb
  replace sh := sh.up hb
  replace xa := xa.below hb xa.lt
  replace xc := xc.below hb xc.lt
  replace xe := xe.below hb xe.lt
  replace xg := xg.below hb xg.lt
  replace hB := hB.trans (hb.mono hB.size)
  clear hb
  generalize wk10.alloc (.cells #[.slice Ah 0 ch, .int .i64 5] 27) = wk11 at *
  rw [hbxh] at xh
  try rw [hbxh]
  clear hbxh
  refine (lroute_v (some ⟨w.heap.size, 0, none⟩) 4 4 net17 2 2 6 9 5 none 0 0 [] wk11 rfl (by omega) rfl (by omega) (fun k hk => by omega) hN (Sl.nil0 _ _ _) (none) (by decide +kernel) 0 rfl [] rfl false rfl).mono ?_
  rintro e wk12 ⟨Ak, nk, ck, rfl, hnk, hmk, sk, hb⟩
  obtain rfl : nk = 0 := hnk.symm
  clear hmk hnk
  replace hN := hN.up hb
  replace sa := sa.up hb
  replace sc := sc.up hb
  replace se := se.up hb
  replace sg := sg.up hb
  replace sh := sh.up hb
  replace xa := xa.below hb xa.lt
  replace xc := xc.below hb xc.lt
  replace xe := xe.below hb xe.lt
  replace xg := xg.below hb xg.lt
  replace xh := xh.below hb xh.lt
  replace hB := hB.trans (hb.mono hB.size)
  clear hb
  go_wp2_with fail
  have hb : Below wk12.heap.size wk12 (wk12.alloc (.cells #[.slice Ak 0 ck, .int .i64 0] 27)) := (Below.refl _ _).alloc (Nat.le_refl _) _
  have xk := Blok.new wk12 27 #[.slice Ak 0 ck, .int .i64 0]
  obtain ⟨bxk, hbxk⟩ : ∃ q, wk12.heap.size = q := ⟨_, rfl⟩
  have hsxk : (wk12.alloc (.cells #[.slice Ak 0 ck, .int .i64 0] 27)).heap.size = bxk + 1 := by rw [← hbxk]; simp
  replace hN := hN.up hb
  replace sa := sa.up hb
  replace sc := sc.up hb
  replace se := se.up hb
  replace sg := sg.up hb
  replace sh := sh.up hb
  replace sk := sk.up hb
  replace xa := xa.below hb xa.lt
  replace xc := xc.below hb xc.lt
  replace xe := xe.below hb xe.lt
  replace xg := xg.below hb xg.lt
  replace xh := xh.below hb xh.lt
  replace hB := hB.trans (hb.mono hB.size)
  clear hb
  generalize wk12.alloc (.cells #[.slice Ak 0 ck, .int .i64 0] 27) = wk13 at *
  rw [hbxk] at xk
  try rw [hbxk]
  clear hbxk
  have hb : Below wk13.heap.size wk13 (wk13.alloc (.cells #[.int .i64 3] 3)) := (Below.refl _ _).alloc (Nat.le_refl _) _
  have hO := Sl.of_own (own_lit wk13 wk13.heap.size 3 1 1 #[.int .i64 3] (Nat.le_refl _) rfl (by simp [maxLen]))
  change Sl _ _ 1 _ 1 1 (([3] : List Int).map (Value.int .i64)) at hO
  obtain ⟨bhO, hbhO⟩ : ∃ q, wk13.heap.size = q := ⟨_, rfl⟩
  have hshO : (wk13.alloc (.cells #[.int .i64 3] 3)).heap.size = bhO + 1 := by rw [← hbhO]; simp
  replace hN := hN.up hb
  replace sa := sa.up hb
  replace sc := sc.up hb
  replace se := se.up hb
  replace sg := sg.up hb
  replace sh := sh.up hb
  replace sk := sk.up hb
  replace xa := xa.below hb xa.lt
  replace xc := xc.below hb xc.lt
  replace xe := xe.below hb xe.lt
  replace xg := xg.below hb xg.lt
  replace xh := xh.below hb xh.lt
  replace xk := xk.below hb xk.lt
  replace hB := hB.trans (hb.mono hB.size)
  clear hb
  have he_hO : bxk + 1 = bhO := by rw [← hbhO, hsxk]
  try rw [he_hO]
  clear he_hO hsxk
  generalize wk13.alloc (.cells #[.int .i64 3] 3) = wk14 at *
  rw [hbhO] at hO
  try rw [hbhO]
  clear hbhO
  refine (lroute_v (some ⟨w.heap.size, 0, none⟩) 4 4 net17 1 3 0 9 100 (some ⟨bhO, 0, none⟩) 1 1 [3] wk14 rfl (by omega) rfl (by omega) (wf_oneI (by decide +kernel)) hN hO (none) (by decide +kernel) 0 rfl [] rfl false rfl).mono ?_
  rintro e wk15 ⟨Am, nm, cm, rfl, hnm, hmm, sm, hb⟩
  obtain rfl : nm = 0 := hnm.symm
  clear hmm hnm
  replace hN := hN.up hb
  replace sa := sa.up hb
  replace sc := sc.up hb
  replace se := se.up hb
  replace sg := sg.up hb
  replace sh := sh.up hb
  replace sk := sk.up hb
  replace hO := hO.up hb
  replace xa := xa.below hb xa.lt
  replace xc := xc.below hb xc.lt
  replace xe := xe.below hb xe.lt
  replace xg := xg.below hb xg.lt
  replace xh := xh.below hb xh.lt
  replace xk := xk.below hb xk.lt
  replace hB := hB.trans (hb.mono hB.size)
  clear hb
  clear hO
  have xa_c0 := (xa.cell 0 : wk15.cell? ⟨bxa, 0, none⟩ = some (.slice Aa 1 ca))
  have xa_c1 := (xa.cell 1 : wk15.cell? ⟨bxa, 1, none⟩ = some (.int .i64 32))
  have xa_lt := xa.lt
  go_wp2_with fail
  try clear xa_c0 xa_c1 xa_lt
  have hb : Below wk15.heap.size wk15 (wk15.alloc (.cells #[.slice Am 0 cm, .int .i64 0] 27)) := (Below.refl _ _).alloc (Nat.le_refl _) _
  have xm := Blok.new wk15 27 #[.slice Am 0 cm, .int .i64 0]
  obtain ⟨bxm, hbxm⟩ : ∃ q, wk15.heap.size = q := ⟨_, rfl⟩
  have hsxm : (wk15.alloc (.cells #[.slice Am 0 cm, .int .i64 0] 27)).heap.size = bxm + 1 := by rw [← hbxm]; simp
  replace hN := hN.up hb
  replace sa := sa.up hb
  replace sc := sc.up hb
  replace se := se.up hb
  replace sg := sg.up hb
  replace sh := sh.up hb
  replace sk := sk.up hb
  replace sm := sm.up hb
  replace xa := xa.below hb xa.lt
  replace xc := xc.below hb xc.lt
  replace xe := xe.below hb xe.lt
  replace xg := xg.below hb xg.lt
  replace xh := xh.below hb xh.lt
  replace xk := xk.below hb xk.lt
  replace hB := hB.trans (hb.mono hB.size)
  clear hb
  generalize wk15.alloc (.cells #[.slice Am 0 cm, .int .i64 0] 27) = wk16 at *
  rw [hbxm] at xm
  try rw [hbxm]
  clear hbxm
  have hb : Below wk16.heap.size wk16 (wk16.alloc (.cells #[.int .i64 3, .int .i64 30, .int .i64 32] 48)) := (Below.refl _ _).alloc (Nat.le_refl _) _
  have hP := Sl.of_own (own_lit wk16 wk16.heap.size 48 3 1 #[.int .i64 3, .int .i64 30, .int .i64 32] (Nat.le_refl _) rfl (by simp [maxLen]))
  change Sl _ _ 3 _ 1 1 (flatHp [⟨3, 30, 32⟩]) at hP
  obtain ⟨bhP, hbhP⟩ : ∃ q, wk16.heap.size = q := ⟨_, rfl⟩
  have hshP : (wk16.alloc (.cells #[.int .i64 3, .int .i64 30, .int .i64 32] 48)).heap.size = bhP + 1 := by rw [← hbhP]; simp
  replace hN := hN.up hb
  replace sa := sa.up hb
  replace sc := sc.up hb
  replace se := se.up hb
  replace sg := sg.up hb
  replace sh := sh.up hb
  replace sk := sk.up hb
  replace sm := sm.up hb
  replace xa := xa.below hb xa.lt
  replace xc := xc.below hb xc.lt
  replace xe := xe.below hb xe.lt
  replace xg := xg.below hb xg.lt
  replace xh := xh.below hb xh.lt
  replace xk := xk.below hb xk.lt
  replace xm := xm.below hb xm.lt
  replace hB := hB.trans (hb.mono hB.size)
  clear hb
  have he_hP : bxm + 1 = bhP := by rw [← hbhP, hsxm]
  try rw [he_hP]
  clear he_hP hsxm
  generalize wk16.alloc (.cells #[.int .i64 3, .int .i64 30, .int .i64 32] 48) = wk17 at *
  rw [hbhP] at hP
  try rw [hbhP]
  clear hbhP
  refine (rsame12_any Aa (some ⟨bhP, 0, none⟩) 1 ca 1 1 [⟨3, 30, 32⟩] [⟨3, 30, 32⟩] 32 32 wk17 rfl rfl (by omega) (by omega) sa hP true (by decide +kernel)).mono ?_
  rintro e wk18 ⟨rfl, hb⟩
  replace hN := hN.up hb
  replace sa := sa.up hb
  replace sc := sc.up hb
  replace se := se.up hb
  replace sg := sg.up hb
  replace sh := sh.up hb
  replace sk := sk.up hb
  replace sm := sm.up hb
  replace hP := hP.up hb
  replace xa := xa.below hb xa.lt
  replace xc := xc.below hb xc.lt
  replace xe := xe.below hb xe.lt
  replace xg := xg.below hb xg.lt
  replace xh := xh.below hb xh.lt
  replace xk := xk.below hb xk.lt
  replace xm := xm.below hb xm.lt
  replace hB := hB.trans (hb.mono hB.size)
  clear hb
  clear hP
  have xc_c0 := (xc.cell 0 : wk18.cell? ⟨bxc, 0, none⟩ = some (.slice Ac 2 cc))
  have xc_c1 := (xc.cell 1 : wk18.cell? ⟨bxc, 1, none⟩ = some (.int .i64 31))
  have xc_lt := xc.lt
  go_wp2_with fail
  try clear xc_c0 xc_c1 xc_lt
  have hb : Below wk18.heap.size wk18 (wk18.alloc (.cells #[.int .i64 1, .int .i64 10, .int .i64 17, .int .i64 4, .int .i64 17, .int .i64 31] 48)) := (Below.refl _ _).alloc (Nat.le_refl _) _
  have hP := Sl.of_own (own_lit wk18 wk18.heap.size 48 3 2 #[.int .i64 1, .int .i64 10, .int .i64 17, .int .i64 4, .int .i64 17, .int .i64 31] (Nat.le_refl _) rfl (by simp [maxLen]))
  change Sl _ _ 3 _ 2 2 (flatHp [⟨1, 10, 17⟩, ⟨4, 17, 31⟩]) at hP
  obtain ⟨bhP, hbhP⟩ : ∃ q, wk18.heap.size = q := ⟨_, rfl⟩
  have hshP : (wk18.alloc (.cells #[.int .i64 1, .int .i64 10, .int .i64 17, .int .i64 4, .int .i64 17, .int .i64 31] 48)).heap.size = bhP + 1 := by rw [← hbhP]; simp
  replace hN := hN.up hb
  replace sa := sa.up hb
  replace sc := sc.up hb
  replace se := se.up hb
  replace sg := sg.up hb
  replace sh := sh.up hb
  replace sk := sk.up hb
  replace sm := sm.up hb
  replace xa := xa.below hb xa.lt
  replace xc := xc.below hb xc.lt
  replace xe := xe.below hb xe.lt
  replace xg := xg.below hb xg.lt
  replace xh := xh.below hb xh.lt
  replace xk := xk.below hb xk.lt
  replace xm := xm.below hb xm.lt
  replace hB := hB.trans (hb.mono hB.size)
  clear hb
  generalize wk18.alloc (.cells #[.int .i64 1, .int .i64 10, .int .i64 17, .int .i64 4, .int .i64 17, .int .i64 31] 48) = wk19 at *
  rw [hbhP] at hP
  try rw [hbhP]
  clear hbhP
  refine (rsame12_any Ac (some ⟨bhP, 0, none⟩) 2 cc 2 2 [⟨1, 10, 17⟩, ⟨4, 17, 31⟩] [⟨1, 10, 17⟩, ⟨4, 17, 31⟩] 31 31 wk19 rfl rfl (by omega) (by omega) sc hP true (by decide +kernel)).mono ?_
  rintro e wk20 ⟨rfl, hb⟩
  replace hN := hN.up hb
  replace sa := sa.up hb
  replace sc := sc.up hb
  replace se := se.up hb
  replace sg := sg.up hb
  replace sh := sh.up hb
  replace sk := sk.up hb
  replace sm := sm.up hb
  replace hP := hP.up hb
  replace xa := xa.below hb xa.lt
  replace xc := xc.below hb xc.lt
  replace xe := xe.below hb xe.lt
  replace xg := xg.below hb xg.lt
  replace xh := xh.below hb xh.lt
  replace xk := xk.below hb xk.lt
  replace xm := xm.below hb xm.lt
  replace hB := hB.trans (hb.mono hB.size)
  clear hb
  clear hP
  have xe_c0 := (xe.cell 0 : wk20.cell? ⟨bxe, 0, none⟩ = some (.slice Ae 1 ce))
  have xe_c1 := (xe.cell 1 : wk20.cell? ⟨bxe, 1, none⟩ = some (.int .i64 32))
  have xe_lt := xe.lt
  go_wp2_with fail
  try clear xe_c0 xe_c1 xe_lt
  have hb : Below wk20.heap.size wk20 (wk20.alloc (.cells #[.int .i64 3, .int .i64 30, .int .i64 32] 48)) := (Below.refl _ _).alloc (Nat.le_refl _) _
  have hP := Sl.of_own (own_lit wk20 wk20.heap.size 48 3 1 #[.int .i64 3, .int .i64 30, .int .i64 32] (Nat.le_refl _) rfl (by simp [maxLen]))
  change Sl _ _ 3 _ 1 1 (flatHp [⟨3, 30, 32⟩]) at hP
  obtain ⟨bhP, hbhP⟩ : ∃ q, wk20.heap.size = q := ⟨_, rfl⟩
  have hshP : (wk20.alloc (.cells #[.int .i64 3, .int .i64 30, .int .i64 32] 48)).heap.size = bhP + 1 := by rw [← hbhP]; simp
  replace hN := hN.up hb
  replace sa := sa.up hb
  replace sc := sc.up hb
  replace se := se.up hb
  replace sg := sg.up hb
  replace sh := sh.up hb
  replace sk := sk.up hb
  replace sm := sm.up hb
  replace xa := xa.below hb xa.lt
  replace xc := xc.below hb xc.lt
  replace xe := xe.below hb xe.lt
  replace xg := xg.below hb xg.lt
  replace xh := xh.below hb xh.lt
  replace xk := xk.below hb xk.lt
  replace xm := xm.below hb xm.lt
  replace hB := hB.trans (hb.mono hB.size)
  clear hb
  generalize wk20.alloc (.cells #[.int .i64 3, .int .i64 30, .int .i64 32] 48) = wk21 at *
  rw [hbhP] at hP
  try rw [hbhP]
  clear hbhP
  refine (rsame12_any Ae (some ⟨bhP, 0, none⟩) 1 ce 1 1 [⟨3, 30, 32⟩] [⟨3, 30, 32⟩] 32 32 wk21 rfl rfl (by omega) (by omega) se hP true (by decide +kernel)).mono ?_
  rintro e wk22 ⟨rfl, hb⟩
  replace hN := hN.up hb
  replace sa := sa.up hb
  replace sc := sc.up hb
  replace se := se.up hb
  replace sg := sg.up hb
  replace sh := sh.up hb
  replace sk := sk.up hb
  replace sm := sm.up hb
  replace hP := hP.up hb
  replace xa := xa.below hb xa.lt
  replace xc := xc.below hb xc.lt
  replace xe := xe.below hb xe.lt
  replace xg := xg.below hb xg.lt
  replace xh := xh.below hb xh.lt
  replace xk := xk.below hb xk.lt
  replace xm := xm.below hb xm.lt
  replace hB := hB.trans (hb.mono hB.size)
  clear hb
  clear hP
  have xh_c0 := (xh.cell 0 : wk22.cell? ⟨bxh, 0, none⟩ = some (.slice Ah 0 ch))
  have xh_c1 := (xh.cell 1 : wk22.cell? ⟨bxh, 1, none⟩ = some (.int .i64 5))
  have xh_lt := xh.lt
  go_wp2_with fail
  try clear xh_c0 xh_c1 xh_lt
  refine (rsame12_any Ah none 0 ch 0 0 [] [] 5 5 wk22 rfl rfl (by omega) (by omega) sh (Sl.nil0 _ _ _) true (by decide +kernel)).mono ?_
  rintro e wk23 ⟨rfl, hb⟩
  replace hN := hN.up hb
  replace sa := sa.up hb
  replace sc := sc.up hb
  replace se := se.up hb
  replace sg := sg.up hb
  replace sh := sh.up hb
  replace sk := sk.up hb
  replace sm := sm.up hb
  replace xa := xa.below hb xa.lt
  replace xc := xc.below hb xc.lt
  replace xe := xe.below hb xe.lt
  replace xg := xg.below hb xg.lt
  replace xh := xh.below hb xh.lt
  replace xk := xk.below hb xk.lt
  replace xm := xm.below hb xm.lt
  replace hB := hB.trans (hb.mono hB.size)
  clear hb
  go_wp2_with fail
  go_ret
  exact ⟨rfl, hB⟩
end Go.Proofs.Ytmibgfenobekjaa
