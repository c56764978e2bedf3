/- Layer 20's small case comes out right. No condition. -/
import Derived.Test.YtodcoockhkghdaaGreatGQ37
import Derived.Test.YtodcoockhkghdaaGreatBundle2
import Derived.Test.YtodcoockhkghdaaGreatGQ32
import Derived.Test.YtodcoockhkghdaaGreatGQ5
import Derived.Test.YtodcoockhkghdaaGreatGQ31
import Derived.Test.YtodcoockhkghdaaGreatGQ3
import Derived.Test.YtodcoockhkghdaaGreatGQ30
import Derived.Test.YtodcoockhkghdaaGreatGQ7
namespace Go.Proofs.YtodcoockhkghdaaGreat
open Go.ChangeShapes Go.WideShapes Go.ChangeAt Go.RowKit Go.Sort Go.Maps Hp Kv
set_option linter.unusedSimpArgs false
set_option linter.unusedVariables false
theorem ints_yes20 (A A':Option Addr) (n c n' c':Nat) (d d':List Int) (w:World) (hd:d.length = n) (hd':d'.length = n') (hn:n ≤ 1000000) (hn':n' ≤ 1000000) (h:Sl w w.heap.size 1 A n c (d.map (Value.int .i64))) (h':Sl w w.heap.size 1 A' n' c' (d'.map (Value.int .i64))) (e:d = d') :
  Calls Tryz.prog 29 #[.slice A n c,.slice A' n' c'] w fun e w' => e = .returned (.bool true) ∧ Below w.heap.size w w':=by
 have h1:=ints_any A A' n c n' c' d d' w hd hd' hn hn' h h'
 rw [decide_eq_true e] at h1
 exact h1
theorem two_of20 {α:Type} {L:List α} (h:L.length = 2):∃ a b,L = [a,b]:=by
 cases L with
 | nil => cases h
 | cons a r =>
  cases r with
  | nil => cases h
  | cons b q =>
   cases q with
   | nil => exact ⟨a,b,rfl⟩
   | cons c t => simp at h
theorem wf_lits20 {l:List Int} {n:Nat} (h:l.all (fun x => (Lit.int .i64 x).wf) = true) (hn:l.length = n):∀ k,k < n → (Lit.int .i64 (l.getD k 0)).wf = true:=wf_getD hn (fun m hm => List.all_eq_true.1 h m hm)
/-- Cells that do not stand in a block in this order: the row does not lie there. -/
theorem off_pair {w:World} {g:Nat} {T:TypeId} {v0 v1 v2 v3 v4 s a:Int} (hX:Blok w g T #[.int .i64 v0,.int .i64 v1,.int .i64 v2,.int .i64 v3,.int .i64 v4]) (hne:¬ (v1 = s ∧ v2 = a) ∧ ¬ (v2 = s ∧ v3 = a) ∧ ¬ (v3 = s ∧ v4 = a)) {A:Option Addr} {n c:Nat} {d:List Hp} (hs:Sl w w.heap.size 3 A n c (flatHp d)) (hl:d.length = n) {i:Int} (h0:gHp d 0 = ⟨i,s,a⟩):0 < n → ∀ ad,A = some ad → ad.block ≠ g:=fun hp ad e hbk => by
 obtain ⟨ae,e2,_,c0,c1,c2⟩:=hs.lst.atHp hl hp
 rw [e] at e2
 injection e2 with e2
 subst e2
 simp only [Nat.zero_mul,Addr.add_zero',hbk,h0] at c1 c2
 have k1:w.cell? ⟨g,ad.off + 1,none⟩ = _:=hX.cell (ad.off + 1)
 have k2:w.cell? ⟨g,ad.off + 2,none⟩ = _:=hX.cell (ad.off + 2)
 rw [c1] at k1
 rw [c2] at k2
 obtain ⟨h1,h2,h3⟩:=hne
 generalize ad.off = o at k1 k2
 match o with
 | 0 => simp at k1 k2; exact h1 ⟨k1.symm,k2.symm⟩
 | 1 => simp at k1 k2; exact h2 ⟨k1.symm,k2.symm⟩
 | 2 => simp at k1 k2; exact h3 ⟨k1.symm,k2.symm⟩
 | 3 => simp at k2
 | (o + 4) => simp at k1
set_option maxHeartbeats 16000000 in
set_option maxRecDepth 100000 in
theorem small20_any (w:World):Calls Tryz.prog 9 #[] w fun e w' => e = .returned (.bool true) ∧ Below w.heap.size w w':=by
 go_enter Tryz.func9,Tryz.ntmps9
 go_wp2_with fail
 refine (base20_any w).mono ?_
 rintro e w1 ⟨A1,A,rfl,hC,hR,hB⟩
 replace hC:=Sl.of_own hC
 replace hR:=Sl.of_own hR
 go_upto_region 2 with fail
 have hb:Below w1.heap.size w1 (w1.alloc (.cells #[.slice (some A1) 3 3,.slice (some A) 3 3,.int .i64 2,.int .i64 6] 25)):=(Below.refl _ _).alloc (Nat.le_refl _) _
 have xp:=Blok.new w1 25 #[.slice (some A1) 3 3,.slice (some A) 3 3,.int .i64 2,.int .i64 6]
 obtain ⟨bxp,hbxp⟩:∃ q,w1.heap.size = q:=⟨_,rfl⟩
 have hsxp:(w1.alloc (.cells #[.slice (some A1) 3 3,.slice (some A) 3 3,.int .i64 2,.int .i64 6] 25)).heap.size = bxp + 1:=by rw [← hbxp]; simp
 replace hC:=hC.up hb
 replace hR:=hR.up hb
 replace hB:=hB.trans (hb.mono hB.size)
 clear hb
 generalize w1.alloc (.cells #[.slice (some A1) 3 3,.slice (some A) 3 3,.int .i64 2,.int .i64 6] 25) = wk1 at *
 rw [hbxp] at xp
 try rw [hbxp]
 clear hbxp
 go_upto_region 3 with fail
 have O_xb_hC:0 < 3 → ∀ ad:Addr,(some A1:Option Addr) = some ad → ad.block ≠ wk1.heap.size:=fun hp ad e he => by
  obtain ⟨a2,e2,hlt,_⟩:=hC.lst.at_ hp
  rw [e] at e2
  injection e2 with e2
  subst e2
  rw [he] at hlt
  exact Nat.lt_irrefl _ hlt
 have O_xb_hR:0 < 3 → ∀ ad:Addr,(some A:Option Addr) = some ad → ad.block ≠ wk1.heap.size:=fun hp ad e he => by
  obtain ⟨a2,e2,hlt,_⟩:=hR.lst.at_ hp
  rw [e] at e2
  injection e2 with e2
  subst e2
  rw [he] at hlt
  exact Nat.lt_irrefl _ hlt
 have N_xb_xp:bxp ≠ wk1.heap.size:=Nat.ne_of_lt xp.lt
 have L_xb:w.heap.size ≤ wk1.heap.size:=hB.size
 have hb:Below wk1.heap.size wk1 (wk1.alloc (.cells #[.int .i64 1,.int .i64 3,.int .i64 7,.int .i64 1,.int .i64 90] 28)):=(Below.refl _ _).alloc (Nat.le_refl _) _
 have xb:=Blok.new wk1 28 #[.int .i64 1,.int .i64 3,.int .i64 7,.int .i64 1,.int .i64 90]
 obtain ⟨bxb,hbxb⟩:∃ q,wk1.heap.size = q:=⟨_,rfl⟩
 have hsxb:(wk1.alloc (.cells #[.int .i64 1,.int .i64 3,.int .i64 7,.int .i64 1,.int .i64 90] 28)).heap.size = bxb + 1:=by rw [← hbxb]; simp
 replace hC:=hC.up hb
 replace hR:=hR.up hb
 replace xp:=xp.below hb xp.lt
 replace hB:=hB.trans (hb.mono hB.size)
 clear hb
 have he_xb:bxp + 1 = bxb:=by rw [← hbxb,hsxp]
 try rw [he_xb]
 clear he_xb hsxp
 generalize wk1.alloc (.cells #[.int .i64 1,.int .i64 3,.int .i64 7,.int .i64 1,.int .i64 90] 28) = wk2 at *
 rw [hbxb] at xb O_xb_hC O_xb_hR N_xb_xp L_xb
 try rw [hbxb]
 clear hbxb
 replace O_xb_hC:=Lib.hid O_xb_hC
 replace O_xb_hR:=Lib.hid O_xb_hR
 replace N_xb_xp:=Lib.hid N_xb_xp
 replace L_xb:=Lib.hid L_xb
 go_upto_region 4 with fail
 have O_xb_hK:0 < 1 → ∀ ad,some (⟨wk2.heap.size,0,none⟩:Addr) = some ad → ad.block ≠ bxb:=fun _ ad e he => by
  injection e with e
  subst e
  have h9:=xb.lt
  have he':wk2.heap.size = bxb:=he
  omega
 have hb:Below wk2.heap.size wk2 (wk2.alloc (.cells #[.int .i64 1,.int .i64 0,.int .i64 0,.int .i64 24] 65)):=(Below.refl _ _).alloc (Nat.le_refl _) _
 have hK:=Sl.of_own (own_lit wk2 wk2.heap.size 65 4 1 #[.int .i64 1,.int .i64 0,.int .i64 0,.int .i64 24] (Nat.le_refl _) rfl (by simp [maxLen]))
 change Sl _ _ 4 _ 1 1 (flatBk bk20) at hK
 obtain ⟨bhK,hbhK⟩:∃ q,wk2.heap.size = q:=⟨_,rfl⟩
 have hshK:(wk2.alloc (.cells #[.int .i64 1,.int .i64 0,.int .i64 0,.int .i64 24] 65)).heap.size = bhK + 1:=by rw [← hbhK]; simp
 replace hC:=hC.up hb
 replace hR:=hR.up hb
 replace xp:=xp.below hb xp.lt
 replace xb:=xb.below hb xb.lt
 replace hB:=hB.trans (hb.mono hB.size)
 clear hb
 have he_hK:bxb + 1 = bhK:=by rw [← hbhK,hsxb]
 try rw [he_hK]
 clear he_hK hsxb
 generalize wk2.alloc (.cells #[.int .i64 1,.int .i64 0,.int .i64 0,.int .i64 24] 65) = wk3 at *
 rw [hbhK] at hK O_xb_hK
 try rw [hbhK]
 clear hbhK
 replace O_xb_hK:=Lib.hid O_xb_hK
 try clear hshK
 obtain ⟨xp_c0,xp_c1,xp_c2,xp_c3,xp_lt⟩:=xp.cells4
 obtain ⟨xb_c0,xb_c1,xb_c2,xb_c3,xb_c4,xb_lt⟩:=xb.cells5
 go_wp2_with fail
 try clear xp_c0 xp_c1 xp_c2 xp_c3 xp_lt xb_c0 xb_c1 xb_c2 xb_c3 xb_c4 xb_lt
 have LT_xb:bxb < wk3.heap.size:=xb.lt
 refine (buroute_of sortEd_any (some A1) 3 3 baseC20 (some A) 3 3 baseR20 2 6 none 0 0 [] 1 3 7 1 90 wk3 rfl (by omega) rfl (by omega) rfl (by omega) hC hR (Sl.nil0 _ _ _) c20_right r20_right (by decide +kernel) true (by decide +kernel) (some ([⟨1,10,17⟩,⟨2,17,22⟩],22)) x20_a [⟨1,10,17⟩,⟨2,17,22⟩] rfl 22 rfl 2 rfl 0 rfl).mono ?_
 rintro e wk4 ⟨Aa,ca,rfl,wa,hb⟩
 have sa:=Sl.of_own wa
 have O_xb_sa:Hid (0 < 2 → ∀ ad,Aa = some ad → ad.block ≠ bxb):=fun hp ad e he => by
  obtain ⟨g',c',e2,_⟩:=own_posJ wa hp
  simp only [Value.slice.injEq] at e2
  have e3:=e2.1
  rw [e] at e3
  injection e3 with e3
  subst e3
  have h8:=(wa.lt g' (by rw [e]; rfl)).1
  have h9:=LT_xb
  have he':g' = bxb:=he
  omega
 clear wa LT_xb
 replace hC:=hC.up hb
 replace hR:=hR.up hb
 replace hK:=hK.up hb
 replace xp:=xp.below hb xp.lt
 replace xb:=xb.below hb xb.lt
 replace hB:=hB.trans (hb.mono hB.size)
 clear hb
 go_upto_region 5 with fail
 have N_xa_xb:bxb ≠ wk4.heap.size:=Nat.ne_of_lt xb.lt
 have hb:Below wk4.heap.size wk4 (wk4.alloc (.cells #[.slice Aa 2 ca,.int .i64 22] 31)):=(Below.refl _ _).alloc (Nat.le_refl _) _
 have xa:=Blok.new wk4 31 #[.slice Aa 2 ca,.int .i64 22]
 obtain ⟨bxa,hbxa⟩:∃ q,wk4.heap.size = q:=⟨_,rfl⟩
 have hsxa:(wk4.alloc (.cells #[.slice Aa 2 ca,.int .i64 22] 31)).heap.size = bxa + 1:=by rw [← hbxa]; simp
 replace hC:=hC.up hb
 replace hR:=hR.up hb
 replace hK:=hK.up hb
 replace sa:=sa.up hb
 replace xp:=xp.below hb xp.lt
 replace xb:=xb.below hb xb.lt
 replace hB:=hB.trans (hb.mono hB.size)
 clear hb
 generalize wk4.alloc (.cells #[.slice Aa 2 ca,.int .i64 22] 31) = wk5 at *
 rw [hbxa] at xa N_xa_xb
 try rw [hbxa]
 clear hbxa
 replace N_xa_xb:=Lib.hid N_xa_xb
 try clear hsxa
 obtain ⟨xp_c0,xp_c1,xp_c2,xp_c3,xp_lt⟩:=xp.cells4
 obtain ⟨xb_c0,xb_c1,xb_c2,xb_c3,xb_c4,xb_lt⟩:=xb.cells5
 go_wp2_with fail
 try clear xp_c0 xp_c1 xp_c2 xp_c3 xp_lt xb_c0 xb_c1 xb_c2 xb_c3 xb_c4 xb_lt
 have LT_xb:bxb < wk5.heap.size:=xb.lt
 refine (buroute_of sortEd_any (some A1) 3 3 baseC20 (some A) 3 3 baseR20 2 6 (some ⟨bhK,0,none⟩) 1 1 bk20 1 3 7 1 90 wk5 rfl (by omega) rfl (by omega) rfl (by omega) hC hR hK c20_right r20_right b20_right true (by decide +kernel) (some ([⟨3,40,41⟩],41)) x20_c [⟨3,40,41⟩] rfl 41 rfl 1 rfl 0 rfl).mono ?_
 rintro e wk6 ⟨Ac,cc,rfl,wc,hb⟩
 have sc:=Sl.of_own wc
 have O_xb_sc:Hid (0 < 1 → ∀ ad,Ac = some ad → ad.block ≠ bxb):=fun hp ad e he => by
  obtain ⟨g',c',e2,_⟩:=own_posJ wc hp
  simp only [Value.slice.injEq] at e2
  have e3:=e2.1
  rw [e] at e3
  injection e3 with e3
  subst e3
  have h8:=(wc.lt g' (by rw [e]; rfl)).1
  have h9:=LT_xb
  have he':g' = bxb:=he
  omega
 clear wc LT_xb
 replace hC:=hC.up hb
 replace hR:=hR.up hb
 replace hK:=hK.up hb
 replace sa:=sa.up hb
 replace xp:=xp.below hb xp.lt
 replace xb:=xb.below hb xb.lt
 replace xa:=xa.below hb xa.lt
 replace hB:=hB.trans (hb.mono hB.size)
 clear hb
 go_upto_region 6 with fail
 have N_xc_xb:bxb ≠ wk6.heap.size:=Nat.ne_of_lt xb.lt
 have hb:Below wk6.heap.size wk6 (wk6.alloc (.cells #[.slice Ac 1 cc,.int .i64 41] 31)):=(Below.refl _ _).alloc (Nat.le_refl _) _
 have xc:=Blok.new wk6 31 #[.slice Ac 1 cc,.int .i64 41]
 obtain ⟨bxc,hbxc⟩:∃ q,wk6.heap.size = q:=⟨_,rfl⟩
 have hsxc:(wk6.alloc (.cells #[.slice Ac 1 cc,.int .i64 41] 31)).heap.size = bxc + 1:=by rw [← hbxc]; simp
 replace hC:=hC.up hb
 replace hR:=hR.up hb
 replace hK:=hK.up hb
 replace sa:=sa.up hb
 replace sc:=sc.up hb
 replace xp:=xp.below hb xp.lt
 replace xb:=xb.below hb xb.lt
 replace xa:=xa.below hb xa.lt
 replace hB:=hB.trans (hb.mono hB.size)
 clear hb
 generalize wk6.alloc (.cells #[.slice Ac 1 cc,.int .i64 41] 31) = wk7 at *
 rw [hbxc] at xc N_xc_xb
 try rw [hbxc]
 clear hbxc
 replace N_xc_xb:=Lib.hid N_xc_xb
 try clear hsxc
 obtain ⟨xp_c0,xp_c1,xp_c2,xp_c3,xp_lt⟩:=xp.cells4
 go_wp2_with fail
 try clear xp_c0 xp_c1 xp_c2 xp_c3 xp_lt
 have LT_xb:bxb < wk7.heap.size:=xb.lt
 refine (bulist_of sortEd_any (some A1) 3 3 baseC20 (some A) 3 3 baseR20 2 6 1 3 8 wk7 rfl (by omega) rfl (by omega) hC hR c20_right r20_right true (by decide +kernel) [([⟨1,10,14⟩,⟨2,14,15⟩],15),([⟨3,40,40⟩],40)] m20 2 rfl).mono ?_
 rintro e wk8 ⟨Am,cm,rfl,rm,hb⟩
 replace hC:=hC.up hb
 replace hR:=hR.up hb
 replace hK:=hK.up hb
 replace sa:=sa.up hb
 replace sc:=sc.up hb
 replace xp:=xp.below hb xp.lt
 replace xb:=xb.below hb xb.lt
 replace xa:=xa.below hb xa.lt
 replace xc:=xc.below hb xc.lt
 replace hB:=hB.trans (hb.mono hB.size)
 clear hb
 obtain ⟨L,hrow,hLL,hok⟩:=rm
 obtain ⟨x1,x2,rfl⟩:=two_of20 (show L.length = 2 by have h:=congrArg List.length hLL; simpa using h)
 obtain ⟨⟨A1_,n1_,c1_,t1_⟩,d1_⟩:=x1
 obtain ⟨⟨A2_,n2_,c2_,t2_⟩,d2_⟩:=x2
 have ok1:=hok _ (List.mem_cons_self ..)
 have ok2:=hok _ (List.mem_cons_of_mem _ (List.mem_cons_self ..))
 have hq1:(d1_,t1_) = (([⟨1,10,14⟩,⟨2,14,15⟩]:List Hp),(15:Int)):=(List.cons.inj hLL).1
 have hq2:(d2_,t2_) = (([⟨3,40,40⟩]:List Hp),(40:Int)):=(List.cons.inj (List.cons.inj hLL).2).1
 injection hq1 with hq1 hq1'
 injection hq2 with hq2 hq2'
 subst hq1 hq1' hq2 hq2'
 obtain rfl:2 = n1_:=ok1.1
 obtain rfl:1 = n2_:=ok2.1
 have sm1:Sl wk8 wk8.heap.size 3 A1_ 2 c1_ (flatHp [⟨1,10,14⟩,⟨2,14,15⟩]):=ok1.2.2
 have sm2:Sl wk8 wk8.heap.size 3 A2_ 1 c2_ (flatHp [⟨3,40,40⟩]):=ok2.2.2
 obtain ⟨gm,cm',hgm,hcm⟩:=own_posJ hrow (Nat.succ_pos _)
 simp only [Value.slice.injEq] at hgm
 obtain ⟨rfl,hz,rfl⟩:=hgm
 clear hz hcm
 have wm:wk8.ownsRow _ 31 2 (.slice (some ⟨gm,0,none⟩) 2 cm) 2 [.slice A1_ 2 c1_,.int .i64 15,.slice A2_ 1 c2_,.int .i64 40]:=hrow
 have O_xb_wm:Hid (∀ g,(Value.slice (some ⟨gm,0,none⟩) 2 cm).ownBlock = some g → g ≠ bxb):=fun g hg he => by
  have h8:=(hrow.lt g hg).1
  omega
 have O_xb_sm1:=Lib.hid (off_pair xb (s:=10) (a:=14) (by decide) sm1 rfl (i:=1) rfl)
 have O_xb_sm2:=Lib.hid (off_pair xb (s:=40) (a:=40) (by decide) sm2 rfl (i:=3) rfl)
 clear hrow hLL hok ok1 ok2 LT_xb
 obtain ⟨xb_c0,xb_c1,xb_c2,xb_c3,xb_c4,xb_lt⟩:=xb.cells5
 have xb_f:=xb.free 4
 go_upto_region 8 with fail
 try clear xb_c0 xb_c1 xb_c2 xb_c3 xb_c4 xb_lt xb_f
 have K_:Kept (fun g => g = bxb) wk8 (wk8.setCell ⟨bxb,4,none⟩ (.int .i64 21)):=Kept.of_grown (grown_set _ _ _) (fun k e _ => (Option.some.inj e).symm)
 replace hB:=below_keptJ hB (Nat.le_refl _) K_ (fun k hk => by rw [hk]; exact L_xb.out)
 replace hC:=hC.keptJ K_ O_xb_hC.out
 replace hR:=hR.keptJ K_ O_xb_hR.out
 replace hK:=hK.keptJ K_ O_xb_hK.out
 replace sa:=sa.keptJ K_ O_xb_sa.out
 replace sc:=sc.keptJ K_ O_xb_sc.out
 replace sm1:=sm1.keptJ K_ O_xb_sm1.out
 replace sm2:=sm2.keptJ K_ O_xb_sm2.out
 replace wm:=own_keptJ wm K_ O_xb_wm.out
 replace xp:=K_.blok xp (by first | exact N_xb_xp.out | exact (fun e => N_xp_xb.out e.symm))
 replace xa:=K_.blok xa (by first | exact N_xb_xa.out | exact (fun e => N_xa_xb.out e.symm))
 replace xc:=K_.blok xc (by first | exact N_xb_xc.out | exact (fun e => N_xc_xb.out e.symm))
 replace xb:Blok (wk8.setCell ⟨bxb,4,none⟩ (.int .i64 21)) bxb 28 #[.int .i64 1,.int .i64 3,.int .i64 7,.int .i64 1,.int .i64 21]:=xb.set_ 4 (.int .i64 21)
 clear K_
 generalize wk8.setCell ⟨bxb,4,none⟩ (.int .i64 21) = wk9 at *
 obtain ⟨xp_c0,xp_c1,xp_c2,xp_c3,xp_lt⟩:=xp.cells4
 obtain ⟨xb_c0,xb_c1,xb_c2,xb_c3,xb_c4,xb_lt⟩:=xb.cells5
 go_wp2_with fail
 try clear xp_c0 xp_c1 xp_c2 xp_c3 xp_lt xb_c0 xb_c1 xb_c2 xb_c3 xb_c4 xb_lt
 have LT_xb:bxb < wk9.heap.size:=xb.lt
 refine (buroute_of sortEd_any (some A1) 3 3 baseC20 (some A) 3 3 baseR20 2 6 none 0 0 [] 1 3 7 1 21 wk9 rfl (by omega) rfl (by omega) rfl (by omega) hC hR (Sl.nil0 _ _ _) c20_right r20_right (by decide +kernel) true (by decide +kernel) none x20_h [] rfl 0 rfl 0 rfl 6 rfl).mono ?_
 rintro e wk10 ⟨Ah,ch,rfl,wh,hb⟩
 have sh:=Sl.of_own wh
 have O_xb_sh:Hid (0 < 0 → ∀ ad,Ah = some ad → ad.block ≠ bxb):=fun hp ad e he => by
  obtain ⟨g',c',e2,_⟩:=own_posJ wh hp
  simp only [Value.slice.injEq] at e2
  have e3:=e2.1
  rw [e] at e3
  injection e3 with e3
  subst e3
  have h8:=(wh.lt g' (by rw [e]; rfl)).1
  have h9:=LT_xb
  have he':g' = bxb:=he
  omega
 clear wh LT_xb
 replace wm:=own_belowK wm hb
 replace hC:=hC.up hb
 replace hR:=hR.up hb
 replace hK:=hK.up hb
 replace sa:=sa.up hb
 replace sc:=sc.up hb
 replace sm1:=sm1.up hb
 replace sm2:=sm2.up hb
 replace xp:=xp.below hb xp.lt
 replace xb:=xb.below hb xb.lt
 replace xa:=xa.below hb xa.lt
 replace xc:=xc.below hb xc.lt
 replace hB:=hB.trans (hb.mono hB.size)
 clear hb
 go_upto_region 9 with fail
 have N_xh_xb:bxb ≠ wk10.heap.size:=Nat.ne_of_lt xb.lt
 have hb:Below wk10.heap.size wk10 (wk10.alloc (.cells #[.slice Ah 0 ch,.int .i64 0] 31)):=(Below.refl _ _).alloc (Nat.le_refl _) _
 have xh:=Blok.new wk10 31 #[.slice Ah 0 ch,.int .i64 0]
 obtain ⟨bxh,hbxh⟩:∃ q,wk10.heap.size = q:=⟨_,rfl⟩
 have hsxh:(wk10.alloc (.cells #[.slice Ah 0 ch,.int .i64 0] 31)).heap.size = bxh + 1:=by rw [← hbxh]; simp
 replace wm:=own_belowK wm hb
 replace hC:=hC.up hb
 replace hR:=hR.up hb
 replace hK:=hK.up hb
 replace sa:=sa.up hb
 replace sc:=sc.up hb
 replace sm1:=sm1.up hb
 replace sm2:=sm2.up hb
 replace sh:=sh.up hb
 replace xp:=xp.below hb xp.lt
 replace xb:=xb.below hb xb.lt
 replace xa:=xa.below hb xa.lt
 replace xc:=xc.below hb xc.lt
 replace hB:=hB.trans (hb.mono hB.size)
 clear hb
 generalize wk10.alloc (.cells #[.slice Ah 0 ch,.int .i64 0] 31) = wk11 at *
 rw [hbxh] at xh N_xh_xb
 try rw [hbxh]
 clear hbxh
 replace N_xh_xb:=Lib.hid N_xh_xb
 clear sh
 try clear hsxh
 obtain ⟨xb_c0,xb_c1,xb_c2,xb_c3,xb_c4,xb_lt⟩:=xb.cells5
 have xb_f:=xb.free 2
 go_upto_region 10 with fail
 try clear xb_c0 xb_c1 xb_c2 xb_c3 xb_c4 xb_lt xb_f
 have K_:Kept (fun g => g = bxb) wk11 (wk11.setCell ⟨bxb,2,none⟩ (.int .i64 (-1))):=Kept.of_grown (grown_set _ _ _) (fun k e _ => (Option.some.inj e).symm)
 replace hB:=below_keptJ hB (Nat.le_refl _) K_ (fun k hk => by rw [hk]; exact L_xb.out)
 replace hC:=hC.keptJ K_ O_xb_hC.out
 replace hR:=hR.keptJ K_ O_xb_hR.out
 replace hK:=hK.keptJ K_ O_xb_hK.out
 replace sa:=sa.keptJ K_ O_xb_sa.out
 replace sc:=sc.keptJ K_ O_xb_sc.out
 replace sm1:=sm1.keptJ K_ O_xb_sm1.out
 replace sm2:=sm2.keptJ K_ O_xb_sm2.out
 replace wm:=own_keptJ wm K_ O_xb_wm.out
 replace xp:=K_.blok xp (by first | exact N_xb_xp.out | exact (fun e => N_xp_xb.out e.symm))
 replace xa:=K_.blok xa (by first | exact N_xb_xa.out | exact (fun e => N_xa_xb.out e.symm))
 replace xc:=K_.blok xc (by first | exact N_xb_xc.out | exact (fun e => N_xc_xb.out e.symm))
 replace xh:=K_.blok xh (by first | exact N_xb_xh.out | exact (fun e => N_xh_xb.out e.symm))
 replace xb:Blok (wk11.setCell ⟨bxb,2,none⟩ (.int .i64 (-1))) bxb 28 #[.int .i64 1,.int .i64 3,.int .i64 (-1),.int .i64 1,.int .i64 21]:=xb.set_ 2 (.int .i64 (-1))
 clear K_
 generalize wk11.setCell ⟨bxb,2,none⟩ (.int .i64 (-1)) = wk12 at *
 obtain ⟨xp_c0,xp_c1,xp_c2,xp_c3,xp_lt⟩:=xp.cells4
 obtain ⟨xb_c0,xb_c1,xb_c2,xb_c3,xb_c4,xb_lt⟩:=xb.cells5
 go_wp2_with fail
 try clear xp_c0 xp_c1 xp_c2 xp_c3 xp_lt xb_c0 xb_c1 xb_c2 xb_c3 xb_c4 xb_lt
 have LT_xb:bxb < wk12.heap.size:=xb.lt
 refine (buroute_of sortEd_any (some A1) 3 3 baseC20 (some A) 3 3 baseR20 2 6 none 0 0 [] 1 3 (-1) 1 21 wk12 rfl (by omega) rfl (by omega) rfl (by omega) hC hR (Sl.nil0 _ _ _) c20_right r20_right (by decide +kernel) false (by decide +kernel) _ rfl [] rfl 0 rfl 0 rfl 1 rfl).mono ?_
 rintro e wk13 ⟨Ai,ci,rfl,wi,hb⟩
 have si:=Sl.of_own wi
 have O_xb_si:Hid (0 < 0 → ∀ ad,Ai = some ad → ad.block ≠ bxb):=fun hp ad e he => by
  obtain ⟨g',c',e2,_⟩:=own_posJ wi hp
  simp only [Value.slice.injEq] at e2
  have e3:=e2.1
  rw [e] at e3
  injection e3 with e3
  subst e3
  have h8:=(wi.lt g' (by rw [e]; rfl)).1
  have h9:=LT_xb
  have he':g' = bxb:=he
  omega
 clear wi LT_xb
 replace wm:=own_belowK wm hb
 replace hC:=hC.up hb
 replace hR:=hR.up hb
 replace hK:=hK.up hb
 replace sa:=sa.up hb
 replace sc:=sc.up hb
 replace sm1:=sm1.up hb
 replace sm2:=sm2.up hb
 replace xp:=xp.below hb xp.lt
 replace xb:=xb.below hb xb.lt
 replace xa:=xa.below hb xa.lt
 replace xc:=xc.below hb xc.lt
 replace xh:=xh.below hb xh.lt
 replace hB:=hB.trans (hb.mono hB.size)
 clear hb
 go_upto_region 11 with fail
 have N_xi_xb:bxb ≠ wk13.heap.size:=Nat.ne_of_lt xb.lt
 have hb:Below wk13.heap.size wk13 (wk13.alloc (.cells #[.slice Ai 0 ci,.int .i64 0] 31)):=(Below.refl _ _).alloc (Nat.le_refl _) _
 have xi:=Blok.new wk13 31 #[.slice Ai 0 ci,.int .i64 0]
 obtain ⟨bxi,hbxi⟩:∃ q,wk13.heap.size = q:=⟨_,rfl⟩
 have hsxi:(wk13.alloc (.cells #[.slice Ai 0 ci,.int .i64 0] 31)).heap.size = bxi + 1:=by rw [← hbxi]; simp
 replace wm:=own_belowK wm hb
 replace hC:=hC.up hb
 replace hR:=hR.up hb
 replace hK:=hK.up hb
 replace sa:=sa.up hb
 replace sc:=sc.up hb
 replace sm1:=sm1.up hb
 replace sm2:=sm2.up hb
 replace si:=si.up hb
 replace xp:=xp.below hb xp.lt
 replace xb:=xb.below hb xb.lt
 replace xa:=xa.below hb xa.lt
 replace xc:=xc.below hb xc.lt
 replace xh:=xh.below hb xh.lt
 replace hB:=hB.trans (hb.mono hB.size)
 clear hb
 generalize wk13.alloc (.cells #[.slice Ai 0 ci,.int .i64 0] 31) = wk14 at *
 rw [hbxi] at xi N_xi_xb
 try rw [hbxi]
 clear hbxi
 replace N_xi_xb:=Lib.hid N_xi_xb
 clear si
 try clear hsxi
 obtain ⟨xp_c0,xp_c1,xp_c2,xp_c3,xp_lt⟩:=xp.cells4
 go_wp2_with fail
 try clear xp_c0 xp_c1 xp_c2 xp_c3 xp_lt
 refine (bulist_of sortEd_any (some A1) 3 3 baseC20 (some A) 3 3 baseR20 2 6 1 3 9 wk14 rfl (by omega) rfl (by omega) hC hR c20_right r20_right false (by decide +kernel) [] rfl 0 rfl).mono ?_
 rintro e wk15 ⟨Ak,ck,rfl,rk,hb⟩
 clear rk
 replace wm:=own_belowK wm hb
 replace hC:=hC.up hb
 replace hR:=hR.up hb
 replace hK:=hK.up hb
 replace sa:=sa.up hb
 replace sc:=sc.up hb
 replace sm1:=sm1.up hb
 replace sm2:=sm2.up hb
 replace xp:=xp.below hb xp.lt
 replace xb:=xb.below hb xb.lt
 replace xa:=xa.below hb xa.lt
 replace xc:=xc.below hb xc.lt
 replace xh:=xh.below hb xh.lt
 replace xi:=xi.below hb xi.lt
 replace hB:=hB.trans (hb.mono hB.size)
 clear hb
 go_upto_region 12 with fail
 obtain ⟨xb_c0,xb_c1,xb_c2,xb_c3,xb_c4,xb_lt⟩:=xb.cells5
 have xb_f:=xb.free 2
 go_upto_region 13 with fail
 try clear xb_c0 xb_c1 xb_c2 xb_c3 xb_c4 xb_lt xb_f
 have K_:Kept (fun g => g = bxb) wk15 (wk15.setCell ⟨bxb,2,none⟩ (.int .i64 7)):=Kept.of_grown (grown_set _ _ _) (fun k e _ => (Option.some.inj e).symm)
 replace hB:=below_keptJ hB (Nat.le_refl _) K_ (fun k hk => by rw [hk]; exact L_xb.out)
 replace hC:=hC.keptJ K_ O_xb_hC.out
 replace hR:=hR.keptJ K_ O_xb_hR.out
 replace hK:=hK.keptJ K_ O_xb_hK.out
 replace sa:=sa.keptJ K_ O_xb_sa.out
 replace sc:=sc.keptJ K_ O_xb_sc.out
 replace sm1:=sm1.keptJ K_ O_xb_sm1.out
 replace sm2:=sm2.keptJ K_ O_xb_sm2.out
 replace wm:=own_keptJ wm K_ O_xb_wm.out
 replace xp:=K_.blok xp (by first | exact N_xb_xp.out | exact (fun e => N_xp_xb.out e.symm))
 replace xa:=K_.blok xa (by first | exact N_xb_xa.out | exact (fun e => N_xa_xb.out e.symm))
 replace xc:=K_.blok xc (by first | exact N_xb_xc.out | exact (fun e => N_xc_xb.out e.symm))
 replace xh:=K_.blok xh (by first | exact N_xb_xh.out | exact (fun e => N_xh_xb.out e.symm))
 replace xi:=K_.blok xi (by first | exact N_xb_xi.out | exact (fun e => N_xi_xb.out e.symm))
 replace xb:Blok (wk15.setCell ⟨bxb,2,none⟩ (.int .i64 7)) bxb 28 #[.int .i64 1,.int .i64 3,.int .i64 7,.int .i64 1,.int .i64 21]:=xb.set_ 2 (.int .i64 7)
 clear K_
 generalize wk15.setCell ⟨bxb,2,none⟩ (.int .i64 7) = wk16 at *
 obtain ⟨xb_c0,xb_c1,xb_c2,xb_c3,xb_c4,xb_lt⟩:=xb.cells5
 have xb_f:=xb.free 4
 go_upto_region 14 with fail
 try clear xb_c0 xb_c1 xb_c2 xb_c3 xb_c4 xb_lt xb_f
 have K_:Kept (fun g => g = bxb) wk16 (wk16.setCell ⟨bxb,4,none⟩ (.int .i64 90)):=Kept.of_grown (grown_set _ _ _) (fun k e _ => (Option.some.inj e).symm)
 replace hB:=below_keptJ hB (Nat.le_refl _) K_ (fun k hk => by rw [hk]; exact L_xb.out)
 replace hC:=hC.keptJ K_ O_xb_hC.out
 replace hR:=hR.keptJ K_ O_xb_hR.out
 replace hK:=hK.keptJ K_ O_xb_hK.out
 replace sa:=sa.keptJ K_ O_xb_sa.out
 replace sc:=sc.keptJ K_ O_xb_sc.out
 replace sm1:=sm1.keptJ K_ O_xb_sm1.out
 replace sm2:=sm2.keptJ K_ O_xb_sm2.out
 replace wm:=own_keptJ wm K_ O_xb_wm.out
 replace xp:=K_.blok xp (by first | exact N_xb_xp.out | exact (fun e => N_xp_xb.out e.symm))
 replace xa:=K_.blok xa (by first | exact N_xb_xa.out | exact (fun e => N_xa_xb.out e.symm))
 replace xc:=K_.blok xc (by first | exact N_xb_xc.out | exact (fun e => N_xc_xb.out e.symm))
 replace xh:=K_.blok xh (by first | exact N_xb_xh.out | exact (fun e => N_xh_xb.out e.symm))
 replace xi:=K_.blok xi (by first | exact N_xb_xi.out | exact (fun e => N_xi_xb.out e.symm))
 replace xb:Blok (wk16.setCell ⟨bxb,4,none⟩ (.int .i64 90)) bxb 28 #[.int .i64 1,.int .i64 3,.int .i64 7,.int .i64 1,.int .i64 90]:=xb.set_ 4 (.int .i64 90)
 clear K_
 generalize wk16.setCell ⟨bxb,4,none⟩ (.int .i64 90) = wk17 at *
 obtain ⟨xp_c0,xp_c1,xp_c2,xp_c3,xp_lt⟩:=xp.cells4
 go_wp2_with fail
 try clear xp_c0 xp_c1 xp_c2 xp_c3 xp_lt
 have LT_xb:bxb < wk17.heap.size:=xb.lt
 refine (buroute_of sortEd_any (some A1) 3 3 baseC20 (some A) 3 3 baseR20 2 6 none 0 0 [] 2 2 0 0 0 wk17 rfl (by omega) rfl (by omega) rfl (by omega) hC hR (Sl.nil0 _ _ _) c20_right r20_right (by decide +kernel) true (by decide +kernel) none x20_d [] rfl 0 rfl 0 rfl 6 rfl).mono ?_
 rintro e wk18 ⟨Ad,cd,rfl,wd,hb⟩
 have sd:=Sl.of_own wd
 have O_xb_sd:Hid (0 < 0 → ∀ ad,Ad = some ad → ad.block ≠ bxb):=fun hp ad e he => by
  obtain ⟨g',c',e2,_⟩:=own_posJ wd hp
  simp only [Value.slice.injEq] at e2
  have e3:=e2.1
  rw [e] at e3
  injection e3 with e3
  subst e3
  have h8:=(wd.lt g' (by rw [e]; rfl)).1
  have h9:=LT_xb
  have he':g' = bxb:=he
  omega
 clear wd LT_xb
 replace wm:=own_belowK wm hb
 replace hC:=hC.up hb
 replace hR:=hR.up hb
 replace hK:=hK.up hb
 replace sa:=sa.up hb
 replace sc:=sc.up hb
 replace sm1:=sm1.up hb
 replace sm2:=sm2.up hb
 replace xp:=xp.below hb xp.lt
 replace xb:=xb.below hb xb.lt
 replace xa:=xa.below hb xa.lt
 replace xc:=xc.below hb xc.lt
 replace xh:=xh.below hb xh.lt
 replace xi:=xi.below hb xi.lt
 replace hB:=hB.trans (hb.mono hB.size)
 clear hb
 go_upto_region 15 with fail
 have N_xd_xb:bxb ≠ wk18.heap.size:=Nat.ne_of_lt xb.lt
 have hb:Below wk18.heap.size wk18 (wk18.alloc (.cells #[.slice Ad 0 cd,.int .i64 0] 31)):=(Below.refl _ _).alloc (Nat.le_refl _) _
 have xd:=Blok.new wk18 31 #[.slice Ad 0 cd,.int .i64 0]
 obtain ⟨bxd,hbxd⟩:∃ q,wk18.heap.size = q:=⟨_,rfl⟩
 have hsxd:(wk18.alloc (.cells #[.slice Ad 0 cd,.int .i64 0] 31)).heap.size = bxd + 1:=by rw [← hbxd]; simp
 replace wm:=own_belowK wm hb
 replace hC:=hC.up hb
 replace hR:=hR.up hb
 replace hK:=hK.up hb
 replace sa:=sa.up hb
 replace sc:=sc.up hb
 replace sm1:=sm1.up hb
 replace sm2:=sm2.up hb
 replace sd:=sd.up hb
 replace xp:=xp.below hb xp.lt
 replace xb:=xb.below hb xb.lt
 replace xa:=xa.below hb xa.lt
 replace xc:=xc.below hb xc.lt
 replace xh:=xh.below hb xh.lt
 replace xi:=xi.below hb xi.lt
 replace hB:=hB.trans (hb.mono hB.size)
 clear hb
 generalize wk18.alloc (.cells #[.slice Ad 0 cd,.int .i64 0] 31) = wk19 at *
 rw [hbxd] at xd N_xd_xb
 try rw [hbxd]
 clear hbxd
 replace N_xd_xb:=Lib.hid N_xd_xb
 clear sd
 try clear hsxd
 obtain ⟨xp_c0,xp_c1,xp_c2,xp_c3,xp_lt⟩:=xp.cells4
 go_wp2_with fail
 try clear xp_c0 xp_c1 xp_c2 xp_c3 xp_lt
 have LT_xb:bxb < wk19.heap.size:=xb.lt
 refine (buroute_of sortEd_any (some A1) 3 3 baseC20 (some A) 3 3 baseR20 2 6 none 0 0 [] 2 2 0 0 2 wk19 rfl (by omega) rfl (by omega) rfl (by omega) hC hR (Sl.nil0 _ _ _) c20_right r20_right (by decide +kernel) true (by decide +kernel) (some ([],2)) x20_o [] rfl 2 rfl 0 rfl 0 rfl).mono ?_
 rintro e wk20 ⟨Ao,co,rfl,wo,hb⟩
 have so:=Sl.of_own wo
 have O_xb_so:Hid (0 < 0 → ∀ ad,Ao = some ad → ad.block ≠ bxb):=fun hp ad e he => by
  obtain ⟨g',c',e2,_⟩:=own_posJ wo hp
  simp only [Value.slice.injEq] at e2
  have e3:=e2.1
  rw [e] at e3
  injection e3 with e3
  subst e3
  have h8:=(wo.lt g' (by rw [e]; rfl)).1
  have h9:=LT_xb
  have he':g' = bxb:=he
  omega
 clear wo LT_xb
 replace wm:=own_belowK wm hb
 replace hC:=hC.up hb
 replace hR:=hR.up hb
 replace hK:=hK.up hb
 replace sa:=sa.up hb
 replace sc:=sc.up hb
 replace sm1:=sm1.up hb
 replace sm2:=sm2.up hb
 replace xp:=xp.below hb xp.lt
 replace xb:=xb.below hb xb.lt
 replace xa:=xa.below hb xa.lt
 replace xc:=xc.below hb xc.lt
 replace xh:=xh.below hb xh.lt
 replace xi:=xi.below hb xi.lt
 replace xd:=xd.below hb xd.lt
 replace hB:=hB.trans (hb.mono hB.size)
 clear hb
 go_upto_region 16 with fail
 have N_xo_xb:bxb ≠ wk20.heap.size:=Nat.ne_of_lt xb.lt
 have hb:Below wk20.heap.size wk20 (wk20.alloc (.cells #[.slice Ao 0 co,.int .i64 2] 31)):=(Below.refl _ _).alloc (Nat.le_refl _) _
 have xo:=Blok.new wk20 31 #[.slice Ao 0 co,.int .i64 2]
 obtain ⟨bxo,hbxo⟩:∃ q,wk20.heap.size = q:=⟨_,rfl⟩
 have hsxo:(wk20.alloc (.cells #[.slice Ao 0 co,.int .i64 2] 31)).heap.size = bxo + 1:=by rw [← hbxo]; simp
 replace wm:=own_belowK wm hb
 replace hC:=hC.up hb
 replace hR:=hR.up hb
 replace hK:=hK.up hb
 replace sa:=sa.up hb
 replace sc:=sc.up hb
 replace sm1:=sm1.up hb
 replace sm2:=sm2.up hb
 replace so:=so.up hb
 replace xp:=xp.below hb xp.lt
 replace xb:=xb.below hb xb.lt
 replace xa:=xa.below hb xa.lt
 replace xc:=xc.below hb xc.lt
 replace xh:=xh.below hb xh.lt
 replace xi:=xi.below hb xi.lt
 replace xd:=xd.below hb xd.lt
 replace hB:=hB.trans (hb.mono hB.size)
 clear hb
 generalize wk20.alloc (.cells #[.slice Ao 0 co,.int .i64 2] 31) = wk21 at *
 rw [hbxo] at xo N_xo_xb
 try rw [hbxo]
 clear hbxo
 replace N_xo_xb:=Lib.hid N_xo_xb
 clear so
 try clear hsxo
 obtain ⟨xa_c0,xa_c1,xa_lt⟩:=xa.cells2
 go_wp2_with fail
 try clear xa_c0 xa_c1 xa_lt
 have hb:Below wk21.heap.size wk21 (wk21.alloc (.cells #[.int .i64 1,.int .i64 10,.int .i64 17,.int .i64 2,.int .i64 17,.int .i64 22] 67)):=(Below.refl _ _).alloc (Nat.le_refl _) _
 have hP:=Sl.of_own (own_lit wk21 wk21.heap.size 67 3 2 #[.int .i64 1,.int .i64 10,.int .i64 17,.int .i64 2,.int .i64 17,.int .i64 22] (Nat.le_refl _) rfl (by simp [maxLen]))
 change Sl _ _ 3 _ 2 2 (flatHp [⟨1,10,17⟩,⟨2,17,22⟩]) at hP
 obtain ⟨bhP,hbhP⟩:∃ q,wk21.heap.size = q:=⟨_,rfl⟩
 have hshP:(wk21.alloc (.cells #[.int .i64 1,.int .i64 10,.int .i64 17,.int .i64 2,.int .i64 17,.int .i64 22] 67)).heap.size = bhP + 1:=by rw [← hbhP]; simp
 replace wm:=own_belowK wm hb
 replace hC:=hC.up hb
 replace hR:=hR.up hb
 replace hK:=hK.up hb
 replace sa:=sa.up hb
 replace sc:=sc.up hb
 replace sm1:=sm1.up hb
 replace sm2:=sm2.up hb
 replace xp:=xp.below hb xp.lt
 replace xb:=xb.below hb xb.lt
 replace xa:=xa.below hb xa.lt
 replace xc:=xc.below hb xc.lt
 replace xh:=xh.below hb xh.lt
 replace xi:=xi.below hb xi.lt
 replace xd:=xd.below hb xd.lt
 replace xo:=xo.below hb xo.lt
 replace hB:=hB.trans (hb.mono hB.size)
 clear hb
 generalize wk21.alloc (.cells #[.int .i64 1,.int .i64 10,.int .i64 17,.int .i64 2,.int .i64 17,.int .i64 22] 67) = wk22 at *
 rw [hbhP] at hP
 try rw [hbhP]
 clear hbhP
 try clear hshP
 refine (rsame12_any Aa (some ⟨bhP,0,none⟩) 2 ca 2 2 [⟨1,10,17⟩,⟨2,17,22⟩] [⟨1,10,17⟩,⟨2,17,22⟩] 22 22 wk22 rfl rfl (by omega) (by omega) sa hP true (by decide +kernel)).mono ?_
 rintro e wk23 ⟨rfl,hb⟩
 replace wm:=own_belowK wm hb
 replace hC:=hC.up hb
 replace hR:=hR.up hb
 replace hK:=hK.up hb
 replace sa:=sa.up hb
 replace sc:=sc.up hb
 replace sm1:=sm1.up hb
 replace sm2:=sm2.up hb
 replace hP:=hP.up hb
 replace xp:=xp.below hb xp.lt
 replace xb:=xb.below hb xb.lt
 replace xa:=xa.below hb xa.lt
 replace xc:=xc.below hb xc.lt
 replace xh:=xh.below hb xh.lt
 replace xi:=xi.below hb xi.lt
 replace xd:=xd.below hb xd.lt
 replace xo:=xo.below hb xo.lt
 replace hB:=hB.trans (hb.mono hB.size)
 clear hb
 clear hP
 obtain ⟨xc_c0,xc_c1,xc_lt⟩:=xc.cells2
 go_wp2_with fail
 try clear xc_c0 xc_c1 xc_lt
 refine (rids12_any Ac 1 cc [⟨3,40,41⟩] 41 wk23 rfl (by omega) sc).mono ?_
 rintro e wk24 ⟨v,rfl,hown,hb⟩
 replace wm:=own_belowK wm hb
 replace hC:=hC.up hb
 replace hR:=hR.up hb
 replace hK:=hK.up hb
 replace sa:=sa.up hb
 replace sc:=sc.up hb
 replace sm1:=sm1.up hb
 replace sm2:=sm2.up hb
 replace xp:=xp.below hb xp.lt
 replace xb:=xb.below hb xb.lt
 replace xa:=xa.below hb xa.lt
 replace xc:=xc.below hb xc.lt
 replace xh:=xh.below hb xh.lt
 replace xi:=xi.below hb xi.lt
 replace xd:=xd.below hb xd.lt
 replace xo:=xo.below hb xo.lt
 replace hB:=hB.trans (hb.mono hB.size)
 clear hb
 obtain ⟨Ai,ci,rfl⟩:=slice_of_own hown
 have si:=Sl.of_own hown
 clear hown
 go_wp2_with fail
 have hb:Below wk24.heap.size wk24 (wk24.alloc (.cells #[.int .i64 3] 3)):=(Below.refl _ _).alloc (Nat.le_refl _) _
 have hP:=Sl.of_own (own_lit wk24 wk24.heap.size 3 1 1 #[.int .i64 3] (Nat.le_refl _) rfl (by simp [maxLen]))
 change Sl _ _ 1 _ 1 1 (([3]:List Int).map (Value.int .i64)) at hP
 obtain ⟨bhP,hbhP⟩:∃ q,wk24.heap.size = q:=⟨_,rfl⟩
 have hshP:(wk24.alloc (.cells #[.int .i64 3] 3)).heap.size = bhP + 1:=by rw [← hbhP]; simp
 replace wm:=own_belowK wm hb
 replace hC:=hC.up hb
 replace hR:=hR.up hb
 replace hK:=hK.up hb
 replace sa:=sa.up hb
 replace sc:=sc.up hb
 replace sm1:=sm1.up hb
 replace sm2:=sm2.up hb
 replace si:=si.up hb
 replace xp:=xp.below hb xp.lt
 replace xb:=xb.below hb xb.lt
 replace xa:=xa.below hb xa.lt
 replace xc:=xc.below hb xc.lt
 replace xh:=xh.below hb xh.lt
 replace xi:=xi.below hb xi.lt
 replace xd:=xd.below hb xd.lt
 replace xo:=xo.below hb xo.lt
 replace hB:=hB.trans (hb.mono hB.size)
 clear hb
 generalize wk24.alloc (.cells #[.int .i64 3] 3) = wk25 at *
 rw [hbhP] at hP
 try rw [hbhP]
 clear hbhP
 try clear hshP
 refine (ints_yes20 Ai (some ⟨bhP,0,none⟩) 1 ci 1 1 [3] [3] wk25 rfl rfl (by omega) (by omega) si hP rfl).mono ?_
 rintro e wk26 ⟨rfl,hb⟩
 replace wm:=own_belowK wm hb
 replace hC:=hC.up hb
 replace hR:=hR.up hb
 replace hK:=hK.up hb
 replace sa:=sa.up hb
 replace sc:=sc.up hb
 replace sm1:=sm1.up hb
 replace sm2:=sm2.up hb
 replace si:=si.up hb
 replace hP:=hP.up hb
 replace xp:=xp.below hb xp.lt
 replace xb:=xb.below hb xb.lt
 replace xa:=xa.below hb xa.lt
 replace xc:=xc.below hb xc.lt
 replace xh:=xh.below hb xh.lt
 replace xi:=xi.below hb xi.lt
 replace xd:=xd.below hb xd.lt
 replace xo:=xo.below hb xo.lt
 replace hB:=hB.trans (hb.mono hB.size)
 clear hb
 clear hP
 clear si
 have gm_c0:wk26.cell? ⟨gm,0,none⟩ = some (.slice A1_ 2 c1_):=by rw [wm.cellAt 0 (by decide)]; rfl
 have gm_c1:wk26.cell? ⟨gm,1,none⟩ = some (.int .i64 15):=by rw [wm.cellAt 1 (by decide)]; rfl
 have gm_c2:wk26.cell? ⟨gm,2,none⟩ = some (.slice A2_ 1 c2_):=by rw [wm.cellAt 2 (by decide)]; rfl
 have gm_c3:wk26.cell? ⟨gm,3,none⟩ = some (.int .i64 40):=by rw [wm.cellAt 3 (by decide)]; rfl
 go_wp2_with fail
 try clear gm_c0 gm_c1 gm_c2 gm_c3
 refine (rids12_any A1_ 2 c1_ [⟨1,10,14⟩,⟨2,14,15⟩] 15 wk26 rfl (by omega) sm1).mono ?_
 rintro e wk27 ⟨v,rfl,hown,hb⟩
 replace wm:=own_belowK wm hb
 replace hC:=hC.up hb
 replace hR:=hR.up hb
 replace hK:=hK.up hb
 replace sa:=sa.up hb
 replace sc:=sc.up hb
 replace sm1:=sm1.up hb
 replace sm2:=sm2.up hb
 replace xp:=xp.below hb xp.lt
 replace xb:=xb.below hb xb.lt
 replace xa:=xa.below hb xa.lt
 replace xc:=xc.below hb xc.lt
 replace xh:=xh.below hb xh.lt
 replace xi:=xi.below hb xi.lt
 replace xd:=xd.below hb xd.lt
 replace xo:=xo.below hb xo.lt
 replace hB:=hB.trans (hb.mono hB.size)
 clear hb
 obtain ⟨Ai,ci,rfl⟩:=slice_of_own hown
 have si:=Sl.of_own hown
 clear hown
 go_wp2_with fail
 have hb:Below wk27.heap.size wk27 (wk27.alloc (.cells #[.int .i64 1,.int .i64 2] 3)):=(Below.refl _ _).alloc (Nat.le_refl _) _
 have hP:=Sl.of_own (own_lit wk27 wk27.heap.size 3 1 2 #[.int .i64 1,.int .i64 2] (Nat.le_refl _) rfl (by simp [maxLen]))
 change Sl _ _ 1 _ 2 2 (([1,2]:List Int).map (Value.int .i64)) at hP
 obtain ⟨bhP,hbhP⟩:∃ q,wk27.heap.size = q:=⟨_,rfl⟩
 have hshP:(wk27.alloc (.cells #[.int .i64 1,.int .i64 2] 3)).heap.size = bhP + 1:=by rw [← hbhP]; simp
 replace wm:=own_belowK wm hb
 replace hC:=hC.up hb
 replace hR:=hR.up hb
 replace hK:=hK.up hb
 replace sa:=sa.up hb
 replace sc:=sc.up hb
 replace sm1:=sm1.up hb
 replace sm2:=sm2.up hb
 replace si:=si.up hb
 replace xp:=xp.below hb xp.lt
 replace xb:=xb.below hb xb.lt
 replace xa:=xa.below hb xa.lt
 replace xc:=xc.below hb xc.lt
 replace xh:=xh.below hb xh.lt
 replace xi:=xi.below hb xi.lt
 replace xd:=xd.below hb xd.lt
 replace xo:=xo.below hb xo.lt
 replace hB:=hB.trans (hb.mono hB.size)
 clear hb
 generalize wk27.alloc (.cells #[.int .i64 1,.int .i64 2] 3) = wk28 at *
 rw [hbhP] at hP
 try rw [hbhP]
 clear hbhP
 try clear hshP
 refine (ints_yes20 Ai (some ⟨bhP,0,none⟩) 2 ci 2 2 [1,2] [1,2] wk28 rfl rfl (by omega) (by omega) si hP rfl).mono ?_
 rintro e wk29 ⟨rfl,hb⟩
 replace wm:=own_belowK wm hb
 replace hC:=hC.up hb
 replace hR:=hR.up hb
 replace hK:=hK.up hb
 replace sa:=sa.up hb
 replace sc:=sc.up hb
 replace sm1:=sm1.up hb
 replace sm2:=sm2.up hb
 replace si:=si.up hb
 replace hP:=hP.up hb
 replace xp:=xp.below hb xp.lt
 replace xb:=xb.below hb xb.lt
 replace xa:=xa.below hb xa.lt
 replace xc:=xc.below hb xc.lt
 replace xh:=xh.below hb xh.lt
 replace xi:=xi.below hb xi.lt
 replace xd:=xd.below hb xd.lt
 replace xo:=xo.below hb xo.lt
 replace hB:=hB.trans (hb.mono hB.size)
 clear hb
 clear hP
 clear si
 obtain ⟨xp_c0,xp_c1,xp_c2,xp_c3,xp_lt⟩:=xp.cells4
 obtain ⟨xb_c0,xb_c1,xb_c2,xb_c3,xb_c4,xb_lt⟩:=xb.cells5
 obtain ⟨xa_c0,xa_c1,xa_lt⟩:=xa.cells2
 have gm_c0:wk29.cell? ⟨gm,0,none⟩ = some (.slice A1_ 2 c1_):=by rw [wm.cellAt 0 (by decide)]; rfl
 have gm_c1:wk29.cell? ⟨gm,1,none⟩ = some (.int .i64 15):=by rw [wm.cellAt 1 (by decide)]; rfl
 have gm_c2:wk29.cell? ⟨gm,2,none⟩ = some (.slice A2_ 1 c2_):=by rw [wm.cellAt 2 (by decide)]; rfl
 have gm_c3:wk29.cell? ⟨gm,3,none⟩ = some (.int .i64 40):=by rw [wm.cellAt 3 (by decide)]; rfl
 go_wp2_with fail
 try clear xp_c0 xp_c1 xp_c2 xp_c3 xp_lt xb_c0 xb_c1 xb_c2 xb_c3 xb_c4 xb_lt xa_c0 xa_c1 xa_lt gm_c0 gm_c1 gm_c2 gm_c3
 refine (bufits_of sortEd_any (some A1) 3 3 baseC20 (some A) 3 3 baseR20 2 6 none 0 0 [] 1 3 7 1 90 Aa 2 ca [⟨1,10,17⟩,⟨2,17,22⟩] 22 wk29 rfl (by omega) rfl (by omega) rfl (by omega) rfl (by omega) (wf_lits20 (by decide +kernel) rfl) hC hR (Sl.nil0 _ _ _) sa c20_right r20_right (by decide +kernel) true (by decide +kernel) (some ([⟨1,10,17⟩,⟨2,17,22⟩],22)) f20_a true (by decide +kernel)).mono ?_
 rintro e wk30 ⟨rfl,hb⟩
 replace wm:=own_belowK wm hb
 replace hC:=hC.up hb
 replace hR:=hR.up hb
 replace hK:=hK.up hb
 replace sa:=sa.up hb
 replace sc:=sc.up hb
 replace sm1:=sm1.up hb
 replace sm2:=sm2.up hb
 replace xp:=xp.below hb xp.lt
 replace xb:=xb.below hb xb.lt
 replace xa:=xa.below hb xa.lt
 replace xc:=xc.below hb xc.lt
 replace xh:=xh.below hb xh.lt
 replace xi:=xi.below hb xi.lt
 replace xd:=xd.below hb xd.lt
 replace xo:=xo.below hb xo.lt
 replace hB:=hB.trans (hb.mono hB.size)
 clear hb
 obtain ⟨xp_c0,xp_c1,xp_c2,xp_c3,xp_lt⟩:=xp.cells4
 obtain ⟨xb_c0,xb_c1,xb_c2,xb_c3,xb_c4,xb_lt⟩:=xb.cells5
 obtain ⟨xa_c0,xa_c1,xa_lt⟩:=xa.cells2
 go_wp2_with fail
 try clear xp_c0 xp_c1 xp_c2 xp_c3 xp_lt xb_c0 xb_c1 xb_c2 xb_c3 xb_c4 xb_lt xa_c0 xa_c1 xa_lt
 refine (bufits_of sortEd_any (some A1) 3 3 baseC20 (some A) 3 3 baseR20 2 6 (some ⟨bhK,0,none⟩) 1 1 bk20 1 3 7 1 90 Aa 2 ca [⟨1,10,17⟩,⟨2,17,22⟩] 22 wk30 rfl (by omega) rfl (by omega) rfl (by omega) rfl (by omega) (wf_lits20 (by decide +kernel) rfl) hC hR hK sa c20_right r20_right b20_right true (by decide +kernel) none f20_b false (by decide +kernel)).mono ?_
 rintro e wk31 ⟨rfl,hb⟩
 replace wm:=own_belowK wm hb
 replace hC:=hC.up hb
 replace hR:=hR.up hb
 replace hK:=hK.up hb
 replace sa:=sa.up hb
 replace sc:=sc.up hb
 replace sm1:=sm1.up hb
 replace sm2:=sm2.up hb
 replace xp:=xp.below hb xp.lt
 replace xb:=xb.below hb xb.lt
 replace xa:=xa.below hb xa.lt
 replace xc:=xc.below hb xc.lt
 replace xh:=xh.below hb xh.lt
 replace xi:=xi.below hb xi.lt
 replace xd:=xd.below hb xd.lt
 replace xo:=xo.below hb xo.lt
 replace hB:=hB.trans (hb.mono hB.size)
 clear hb
 obtain ⟨xd_c0,xd_c1,xd_lt⟩:=xd.cells2
 go_wp2_with fail
 try clear xd_c0 xd_c1 xd_lt
 go_ret
 exact ⟨rfl,hB⟩
end Go.Proofs.YtodcoockhkghdaaGreat
