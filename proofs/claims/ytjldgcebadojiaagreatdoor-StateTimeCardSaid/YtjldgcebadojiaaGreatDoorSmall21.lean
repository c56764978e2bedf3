/- Layer 21's small case comes out right. No condition. -/
import Derived.Test.YtjldgcebadojiaaGreatDoorGQ23
import Derived.Test.YtjldgcebadojiaaGreatDoorGQ24
namespace Go.Proofs.YtjldgcebadojiaaGreatDoor
open Go.ChangeShapes Go.WideShapes Go.ChangeAt Go.RowKit Go.Sort
set_option linter.unusedSimpArgs false
set_option linter.unusedVariables false
set_option maxHeartbeats 16000000 in
set_option maxRecDepth 100000 in
theorem small21_any (w:World) (hm:MaxAt w):Calls Tryz.prog 10 #[] w fun e w' => e = .returned (.bool true) ∧ Below w.heap.size w w':=by
 have HMX:=Lib.hid hm
 have hE1:∀ w9:World,(binOp .eql 45 (.agg #[.int .i64 0,.int .i64 0]) (.agg #[.int .i64 0,.int .i64 0])).run Tryz.prog w9 = .ok (.bool true) w9:=fun w9 => by have h:=eqlFt 0 0 0 0 w9; simpa using h
 have hE2:∀ w9:World,(binOp .eql 45 (.agg #[.int .i64 2,.int .i64 6]) (.agg #[.int .i64 2,.int .i64 6])).run Tryz.prog w9 = .ok (.bool true) w9:=fun w9 => by have h:=eqlFt 2 6 2 6 w9; simpa using h
 clear hm
 go_enter Tryz.func10,Tryz.ntmps10
 go_wp2_with fail
 refine (snew_any w).mono ?_
 rintro e w1 ⟨rfl,hB⟩
 have f0:StAt w1 none 0 0 none 0 0 0 0 none 0 0 s21_0:=⟨⟨rfl,rfl,by omega,by omega,Sl.nil0 _ _ _,Sl.nil0 _ _ _⟩,rfl,rfl,rfl,by omega,Sl.nil0 _ _ _⟩
 go_wp2_with fail
 refine ((sload_any none 0 0 none 0 0 0 0 none 0 0 s21_0 ⟨#[97,32,114,97,110,103,101,32,49,32,50,32,48,32,57,48,32,52,10,97,32,99,111,110,116,97,99,116,32,55,32,49,32,50,32,49,48,32,50,48,32,51,10]⟩ w1 f0 s21_r0 (HMX.out.below hB) (by decide) s21_s 0 0 s21_ld).mono (fun e w9 h9 => h9.is (n1:=1) (n:=1) (nb:=0) (clk:=0) (ver:=2) rfl rfl rfl rfl rfl)).mono ?_
 rintro e wk1 ⟨A1s,c1s,As,cs,Abs,cbs,rfl,fs,hb⟩
 replace f0:=f0.up hb
 replace hB:=hB.trans (hb.mono hB.size)
 clear hb
 clear f0
 go_upto_region 2 with fail
 have hb:Below wk1.heap.size wk1 (wk1.alloc (.cells #[.slice A1s 1 c1s,.slice As 1 cs,.int .i64 0,.int .i64 2,.slice Abs 0 cbs] 28)):=(Below.refl _ _).alloc (Nat.le_refl _) _
 have xs:=Blok.new wk1 28 #[.slice A1s 1 c1s,.slice As 1 cs,.int .i64 0,.int .i64 2,.slice Abs 0 cbs]
 obtain ⟨bxs,hbxs⟩:∃ q,wk1.heap.size = q:=⟨_,rfl⟩
 have hsxs:(wk1.alloc (.cells #[.slice A1s 1 c1s,.slice As 1 cs,.int .i64 0,.int .i64 2,.slice Abs 0 cbs] 28)).heap.size = bxs + 1:=by rw [← hbxs]; simp
 replace fs:=fs.up hb
 replace hB:=hB.trans (hb.mono hB.size)
 clear hb
 generalize wk1.alloc (.cells #[.slice A1s 1 c1s,.slice As 1 cs,.int .i64 0,.int .i64 2,.slice Abs 0 cbs] 28) = wk2 at *
 rw [hbxs] at xs
 try rw [hbxs]
 clear hbxs
 have hb:Below wk2.heap.size wk2 (wk2.alloc (.cells #[.int .i64 0,.int .i64 0] 45)):=(Below.refl _ _).alloc (Nat.le_refl _) _
 have ys:=Blok.new wk2 45 #[.int .i64 0,.int .i64 0]
 obtain ⟨bys,hbys⟩:∃ q,wk2.heap.size = q:=⟨_,rfl⟩
 have hsys:(wk2.alloc (.cells #[.int .i64 0,.int .i64 0] 45)).heap.size = bys + 1:=by rw [← hbys]; simp
 replace fs:=fs.up hb
 replace xs:=xs.below hb xs.lt
 replace hB:=hB.trans (hb.mono hB.size)
 clear hb
 have he_ys:bxs + 1 = bys:=by rw [← hbys,hsxs]
 try rw [he_ys]
 clear he_ys hsxs
 generalize wk2.alloc (.cells #[.int .i64 0,.int .i64 0] 45) = wk3 at *
 rw [hbys] at ys
 try rw [hbys]
 clear hbys
 try clear hsys
 have xs_c0:=(xs.cell 0:wk3.cell? ⟨bxs,0,none⟩ = some (.slice A1s 1 c1s))
 have xs_c1:=(xs.cell 1:wk3.cell? ⟨bxs,1,none⟩ = some (.slice As 1 cs))
 have xs_c2:=(xs.cell 2:wk3.cell? ⟨bxs,2,none⟩ = some (.int .i64 0))
 have xs_c3:=(xs.cell 3:wk3.cell? ⟨bxs,3,none⟩ = some (.int .i64 2))
 have xs_c4:=(xs.cell 4:wk3.cell? ⟨bxs,4,none⟩ = some (.slice Abs 0 cbs))
 have xs_lt:=xs.lt
 go_wp2_with fail
 try clear xs_c0 xs_c1 xs_c2 xs_c3 xs_c4 xs_lt
 have hb:Below wk3.heap.size wk3 (wk3.alloc (.cells #[.int .i64 7] 3)):=(Below.refl _ _).alloc (Nat.le_refl _) _
 have hi:=Sl.of_own (own_lit wk3 wk3.heap.size 3 1 1 #[.int .i64 7] (Nat.le_refl _) rfl (by simp [maxLen]))
 change Sl _ _ 1 _ 1 1 (([7]:List Int).map (Value.int .i64)) at hi
 obtain ⟨bhi,hbhi⟩:∃ q,wk3.heap.size = q:=⟨_,rfl⟩
 have hshi:(wk3.alloc (.cells #[.int .i64 7] 3)).heap.size = bhi + 1:=by rw [← hbhi]; simp
 replace fs:=fs.up hb
 replace xs:=xs.below hb xs.lt
 replace ys:=ys.below hb ys.lt
 replace hB:=hB.trans (hb.mono hB.size)
 clear hb
 generalize wk3.alloc (.cells #[.int .i64 7] 3) = wk4 at *
 rw [hbhi] at hi
 try rw [hbhi]
 clear hbhi
 try clear hshi
 refine ((sbook_any A1s 1 c1s As 1 cs 0 2 Abs 0 cbs (some ⟨bhi,0,none⟩) 1 1 [7] 2 30 s21_s wk4 fs (by omega) s21_rs rfl (by omega) hi s21_w7 s21_a 0 s21_b1 s21_b2).mono (fun e w9 h9 => h9.is (n1:=1) (n:=1) (nb:=1) (clk:=0) (ver:=2) rfl rfl rfl rfl rfl)).mono ?_
 rintro e wk5 ⟨A1a,c1a,Aa,ca,Aba,cba,rfl,fa,hb⟩
 replace fs:=fs.up hb
 replace hi:=hi.up hb
 replace xs:=xs.below hb xs.lt
 replace ys:=ys.below hb ys.lt
 replace hB:=hB.trans (hb.mono hB.size)
 clear hb
 go_upto_region 3 with fail
 have hb:Below wk5.heap.size wk5 (wk5.alloc (.cells #[.slice A1a 1 c1a,.slice Aa 1 ca,.int .i64 0,.int .i64 2,.slice Aba 1 cba] 28)):=(Below.refl _ _).alloc (Nat.le_refl _) _
 have xa:=Blok.new wk5 28 #[.slice A1a 1 c1a,.slice Aa 1 ca,.int .i64 0,.int .i64 2,.slice Aba 1 cba]
 obtain ⟨bxa,hbxa⟩:∃ q,wk5.heap.size = q:=⟨_,rfl⟩
 have hsxa:(wk5.alloc (.cells #[.slice A1a 1 c1a,.slice Aa 1 ca,.int .i64 0,.int .i64 2,.slice Aba 1 cba] 28)).heap.size = bxa + 1:=by rw [← hbxa]; simp
 replace fs:=fs.up hb
 replace hi:=hi.up hb
 replace fa:=fa.up hb
 replace xs:=xs.below hb xs.lt
 replace ys:=ys.below hb ys.lt
 replace hB:=hB.trans (hb.mono hB.size)
 clear hb
 generalize wk5.alloc (.cells #[.slice A1a 1 c1a,.slice Aa 1 ca,.int .i64 0,.int .i64 2,.slice Aba 1 cba] 28) = wk6 at *
 rw [hbxa] at xa
 try rw [hbxa]
 clear hbxa
 clear hi
 try clear hsxa
 have xa_c0:=(xa.cell 0:wk6.cell? ⟨bxa,0,none⟩ = some (.slice A1a 1 c1a))
 have xa_c1:=(xa.cell 1:wk6.cell? ⟨bxa,1,none⟩ = some (.slice Aa 1 ca))
 have xa_c2:=(xa.cell 2:wk6.cell? ⟨bxa,2,none⟩ = some (.int .i64 0))
 have xa_c3:=(xa.cell 3:wk6.cell? ⟨bxa,3,none⟩ = some (.int .i64 2))
 have xa_c4:=(xa.cell 4:wk6.cell? ⟨bxa,4,none⟩ = some (.slice Aba 1 cba))
 have xa_lt:=xa.lt
 go_wp2_with fail
 try clear xa_c0 xa_c1 xa_c2 xa_c3 xa_c4 xa_lt
 have hb:Below wk6.heap.size wk6 (wk6.alloc (.cells #[.int .i64 7] 3)):=(Below.refl _ _).alloc (Nat.le_refl _) _
 have hi:=Sl.of_own (own_lit wk6 wk6.heap.size 3 1 1 #[.int .i64 7] (Nat.le_refl _) rfl (by simp [maxLen]))
 change Sl _ _ 1 _ 1 1 (([7]:List Int).map (Value.int .i64)) at hi
 obtain ⟨bhi,hbhi⟩:∃ q,wk6.heap.size = q:=⟨_,rfl⟩
 have hshi:(wk6.alloc (.cells #[.int .i64 7] 3)).heap.size = bhi + 1:=by rw [← hbhi]; simp
 replace fs:=fs.up hb
 replace fa:=fa.up hb
 replace xs:=xs.below hb xs.lt
 replace ys:=ys.below hb ys.lt
 replace xa:=xa.below hb xa.lt
 replace hB:=hB.trans (hb.mono hB.size)
 clear hb
 generalize wk6.alloc (.cells #[.int .i64 7] 3) = wk7 at *
 rw [hbhi] at hi
 try rw [hbhi]
 clear hbhi
 try clear hshi
 refine ((sbook_any A1a 1 c1a Aa 1 ca 0 2 Aba 1 cba (some ⟨bhi,0,none⟩) 1 1 [7] 2 1 s21_a wk7 fa (by omega) s21_ra rfl (by omega) hi s21_w7 s21_a 8 s21_g1 s21_g2).mono (fun e w9 h9 => h9.is (n1:=1) (n:=1) (nb:=1) (clk:=0) (ver:=2) rfl rfl rfl rfl rfl)).mono ?_
 rintro e wk8 ⟨A1g,c1g,Ag,cg,Abg,cbg,rfl,fg,hb⟩
 replace fs:=fs.up hb
 replace fa:=fa.up hb
 replace hi:=hi.up hb
 replace xs:=xs.below hb xs.lt
 replace ys:=ys.below hb ys.lt
 replace xa:=xa.below hb xa.lt
 replace hB:=hB.trans (hb.mono hB.size)
 clear hb
 go_upto_region 4 with fail
 have hb:Below wk8.heap.size wk8 (wk8.alloc (.cells #[.slice A1g 1 c1g,.slice Ag 1 cg,.int .i64 0,.int .i64 2,.slice Abg 1 cbg] 28)):=(Below.refl _ _).alloc (Nat.le_refl _) _
 have xg:=Blok.new wk8 28 #[.slice A1g 1 c1g,.slice Ag 1 cg,.int .i64 0,.int .i64 2,.slice Abg 1 cbg]
 obtain ⟨bxg,hbxg⟩:∃ q,wk8.heap.size = q:=⟨_,rfl⟩
 have hsxg:(wk8.alloc (.cells #[.slice A1g 1 c1g,.slice Ag 1 cg,.int .i64 0,.int .i64 2,.slice Abg 1 cbg] 28)).heap.size = bxg + 1:=by rw [← hbxg]; simp
 replace fs:=fs.up hb
 replace fa:=fa.up hb
 replace hi:=hi.up hb
 replace fg:=fg.up hb
 replace xs:=xs.below hb xs.lt
 replace ys:=ys.below hb ys.lt
 replace xa:=xa.below hb xa.lt
 replace hB:=hB.trans (hb.mono hB.size)
 clear hb
 generalize wk8.alloc (.cells #[.slice A1g 1 c1g,.slice Ag 1 cg,.int .i64 0,.int .i64 2,.slice Abg 1 cbg] 28) = wk9 at *
 rw [hbxg] at xg
 try rw [hbxg]
 clear hbxg
 clear fg
 clear xg
 clear hi
 try clear hsxg
 have xa_c0:=(xa.cell 0:wk9.cell? ⟨bxa,0,none⟩ = some (.slice A1a 1 c1a))
 have xa_c1:=(xa.cell 1:wk9.cell? ⟨bxa,1,none⟩ = some (.slice Aa 1 ca))
 have xa_c2:=(xa.cell 2:wk9.cell? ⟨bxa,2,none⟩ = some (.int .i64 0))
 have xa_c3:=(xa.cell 3:wk9.cell? ⟨bxa,3,none⟩ = some (.int .i64 2))
 have xa_c4:=(xa.cell 4:wk9.cell? ⟨bxa,4,none⟩ = some (.slice Aba 1 cba))
 have xa_lt:=xa.lt
 go_wp2_with fail
 try clear xa_c0 xa_c1 xa_c2 xa_c3 xa_c4 xa_lt
 have hb:Below wk9.heap.size wk9 (wk9.alloc (.cells #[.int .i64 8] 3)):=(Below.refl _ _).alloc (Nat.le_refl _) _
 have hi:=Sl.of_own (own_lit wk9 wk9.heap.size 3 1 1 #[.int .i64 8] (Nat.le_refl _) rfl (by simp [maxLen]))
 change Sl _ _ 1 _ 1 1 (([8]:List Int).map (Value.int .i64)) at hi
 obtain ⟨bhi,hbhi⟩:∃ q,wk9.heap.size = q:=⟨_,rfl⟩
 have hshi:(wk9.alloc (.cells #[.int .i64 8] 3)).heap.size = bhi + 1:=by rw [← hbhi]; simp
 replace fs:=fs.up hb
 replace fa:=fa.up hb
 replace xs:=xs.below hb xs.lt
 replace ys:=ys.below hb ys.lt
 replace xa:=xa.below hb xa.lt
 replace hB:=hB.trans (hb.mono hB.size)
 clear hb
 generalize wk9.alloc (.cells #[.int .i64 8] 3) = wk10 at *
 rw [hbhi] at hi
 try rw [hbhi]
 clear hbhi
 try clear hshi
 refine ((sbook_any A1a 1 c1a Aa 1 ca 0 2 Aba 1 cba (some ⟨bhi,0,none⟩) 1 1 [8] 2 1 s21_a wk10 fa (by omega) s21_ra rfl (by omega) hi s21_w8 s21_a 6 s21_h1 s21_h2).mono (fun e w9 h9 => h9.is (n1:=1) (n:=1) (nb:=1) (clk:=0) (ver:=2) rfl rfl rfl rfl rfl)).mono ?_
 rintro e wk11 ⟨A1h,c1h,Ah,ch,Abh,cbh,rfl,fh,hb⟩
 replace fs:=fs.up hb
 replace fa:=fa.up hb
 replace hi:=hi.up hb
 replace xs:=xs.below hb xs.lt
 replace ys:=ys.below hb ys.lt
 replace xa:=xa.below hb xa.lt
 replace hB:=hB.trans (hb.mono hB.size)
 clear hb
 go_upto_region 5 with fail
 have hb:Below wk11.heap.size wk11 (wk11.alloc (.cells #[.slice A1h 1 c1h,.slice Ah 1 ch,.int .i64 0,.int .i64 2,.slice Abh 1 cbh] 28)):=(Below.refl _ _).alloc (Nat.le_refl _) _
 have xh:=Blok.new wk11 28 #[.slice A1h 1 c1h,.slice Ah 1 ch,.int .i64 0,.int .i64 2,.slice Abh 1 cbh]
 obtain ⟨bxh,hbxh⟩:∃ q,wk11.heap.size = q:=⟨_,rfl⟩
 have hsxh:(wk11.alloc (.cells #[.slice A1h 1 c1h,.slice Ah 1 ch,.int .i64 0,.int .i64 2,.slice Abh 1 cbh] 28)).heap.size = bxh + 1:=by rw [← hbxh]; simp
 replace fs:=fs.up hb
 replace fa:=fa.up hb
 replace hi:=hi.up hb
 replace fh:=fh.up hb
 replace xs:=xs.below hb xs.lt
 replace ys:=ys.below hb ys.lt
 replace xa:=xa.below hb xa.lt
 replace hB:=hB.trans (hb.mono hB.size)
 clear hb
 generalize wk11.alloc (.cells #[.slice A1h 1 c1h,.slice Ah 1 ch,.int .i64 0,.int .i64 2,.slice Abh 1 cbh] 28) = wk12 at *
 rw [hbxh] at xh
 try rw [hbxh]
 clear hbxh
 clear fh
 clear xh
 clear hi
 try clear hsxh
 have xa_c0:=(xa.cell 0:wk12.cell? ⟨bxa,0,none⟩ = some (.slice A1a 1 c1a))
 have xa_c1:=(xa.cell 1:wk12.cell? ⟨bxa,1,none⟩ = some (.slice Aa 1 ca))
 have xa_c2:=(xa.cell 2:wk12.cell? ⟨bxa,2,none⟩ = some (.int .i64 0))
 have xa_c3:=(xa.cell 3:wk12.cell? ⟨bxa,3,none⟩ = some (.int .i64 2))
 have xa_c4:=(xa.cell 4:wk12.cell? ⟨bxa,4,none⟩ = some (.slice Aba 1 cba))
 have xa_lt:=xa.lt
 go_wp2_with fail
 try clear xa_c0 xa_c1 xa_c2 xa_c3 xa_c4 xa_lt
 have hb:Below wk12.heap.size wk12 (wk12.alloc (.cells #[.int .i64 7,.int .i64 7] 3)):=(Below.refl _ _).alloc (Nat.le_refl _) _
 have hi:=Sl.of_own (own_lit wk12 wk12.heap.size 3 1 2 #[.int .i64 7,.int .i64 7] (Nat.le_refl _) rfl (by simp [maxLen]))
 change Sl _ _ 1 _ 2 2 (([7,7]:List Int).map (Value.int .i64)) at hi
 obtain ⟨bhi,hbhi⟩:∃ q,wk12.heap.size = q:=⟨_,rfl⟩
 have hshi:(wk12.alloc (.cells #[.int .i64 7,.int .i64 7] 3)).heap.size = bhi + 1:=by rw [← hbhi]; simp
 replace fs:=fs.up hb
 replace fa:=fa.up hb
 replace xs:=xs.below hb xs.lt
 replace ys:=ys.below hb ys.lt
 replace xa:=xa.below hb xa.lt
 replace hB:=hB.trans (hb.mono hB.size)
 clear hb
 generalize wk12.alloc (.cells #[.int .i64 7,.int .i64 7] 3) = wk13 at *
 rw [hbhi] at hi
 try rw [hbhi]
 clear hbhi
 try clear hshi
 refine ((sbook_any A1a 1 c1a Aa 1 ca 0 2 Aba 1 cba (some ⟨bhi,0,none⟩) 2 2 [7,7] 0 0 s21_a wk13 fa (by omega) s21_ra rfl (by omega) hi s21_w77 s21_a 1 s21_i1 s21_i2).mono (fun e w9 h9 => h9.is (n1:=1) (n:=1) (nb:=1) (clk:=0) (ver:=2) rfl rfl rfl rfl rfl)).mono ?_
 rintro e wk14 ⟨A1i,c1i,Ai,ci,Abi,cbi,rfl,fi,hb⟩
 replace fs:=fs.up hb
 replace fa:=fa.up hb
 replace hi:=hi.up hb
 replace xs:=xs.below hb xs.lt
 replace ys:=ys.below hb ys.lt
 replace xa:=xa.below hb xa.lt
 replace hB:=hB.trans (hb.mono hB.size)
 clear hb
 go_upto_region 6 with fail
 have hb:Below wk14.heap.size wk14 (wk14.alloc (.cells #[.slice A1i 1 c1i,.slice Ai 1 ci,.int .i64 0,.int .i64 2,.slice Abi 1 cbi] 28)):=(Below.refl _ _).alloc (Nat.le_refl _) _
 have xi:=Blok.new wk14 28 #[.slice A1i 1 c1i,.slice Ai 1 ci,.int .i64 0,.int .i64 2,.slice Abi 1 cbi]
 obtain ⟨bxi,hbxi⟩:∃ q,wk14.heap.size = q:=⟨_,rfl⟩
 have hsxi:(wk14.alloc (.cells #[.slice A1i 1 c1i,.slice Ai 1 ci,.int .i64 0,.int .i64 2,.slice Abi 1 cbi] 28)).heap.size = bxi + 1:=by rw [← hbxi]; simp
 replace fs:=fs.up hb
 replace fa:=fa.up hb
 replace hi:=hi.up hb
 replace fi:=fi.up hb
 replace xs:=xs.below hb xs.lt
 replace ys:=ys.below hb ys.lt
 replace xa:=xa.below hb xa.lt
 replace hB:=hB.trans (hb.mono hB.size)
 clear hb
 generalize wk14.alloc (.cells #[.slice A1i 1 c1i,.slice Ai 1 ci,.int .i64 0,.int .i64 2,.slice Abi 1 cbi] 28) = wk15 at *
 rw [hbxi] at xi
 try rw [hbxi]
 clear hbxi
 clear fi
 clear xi
 clear hi
 try clear hsxi
 have xa_c0:=(xa.cell 0:wk15.cell? ⟨bxa,0,none⟩ = some (.slice A1a 1 c1a))
 have xa_c1:=(xa.cell 1:wk15.cell? ⟨bxa,1,none⟩ = some (.slice Aa 1 ca))
 have xa_c2:=(xa.cell 2:wk15.cell? ⟨bxa,2,none⟩ = some (.int .i64 0))
 have xa_c3:=(xa.cell 3:wk15.cell? ⟨bxa,3,none⟩ = some (.int .i64 2))
 have xa_c4:=(xa.cell 4:wk15.cell? ⟨bxa,4,none⟩ = some (.slice Aba 1 cba))
 have xa_lt:=xa.lt
 go_wp2_with fail
 try clear xa_c0 xa_c1 xa_c2 xa_c3 xa_c4 xa_lt
 refine ((sedit_any A1a 1 c1a Aa 1 ca 0 2 Aba 1 cba s21_a ⟨3,1,7,0,0,0,0,2,0,0,0,0,0⟩ wk15 fa s21_ra (by decide) (by decide) (by decide) s21_a 8 s21_k1 s21_k2).mono (fun e w9 h9 => h9.is (n1:=1) (n:=1) (nb:=1) (clk:=0) (ver:=2) rfl rfl rfl rfl rfl)).mono ?_
 rintro e wk16 ⟨A1k,c1k,Ak,ck,Abk,cbk,rfl,fk,hb⟩
 replace fs:=fs.up hb
 replace fa:=fa.up hb
 replace xs:=xs.below hb xs.lt
 replace ys:=ys.below hb ys.lt
 replace xa:=xa.below hb xa.lt
 replace hB:=hB.trans (hb.mono hB.size)
 clear hb
 go_upto_region 7 with fail
 have hb:Below wk16.heap.size wk16 (wk16.alloc (.cells #[.slice A1k 1 c1k,.slice Ak 1 ck,.int .i64 0,.int .i64 2,.slice Abk 1 cbk] 28)):=(Below.refl _ _).alloc (Nat.le_refl _) _
 have xk:=Blok.new wk16 28 #[.slice A1k 1 c1k,.slice Ak 1 ck,.int .i64 0,.int .i64 2,.slice Abk 1 cbk]
 obtain ⟨bxk,hbxk⟩:∃ q,wk16.heap.size = q:=⟨_,rfl⟩
 have hsxk:(wk16.alloc (.cells #[.slice A1k 1 c1k,.slice Ak 1 ck,.int .i64 0,.int .i64 2,.slice Abk 1 cbk] 28)).heap.size = bxk + 1:=by rw [← hbxk]; simp
 replace fs:=fs.up hb
 replace fa:=fa.up hb
 replace fk:=fk.up hb
 replace xs:=xs.below hb xs.lt
 replace ys:=ys.below hb ys.lt
 replace xa:=xa.below hb xa.lt
 replace hB:=hB.trans (hb.mono hB.size)
 clear hb
 generalize wk16.alloc (.cells #[.slice A1k 1 c1k,.slice Ak 1 ck,.int .i64 0,.int .i64 2,.slice Abk 1 cbk] 28) = wk17 at *
 rw [hbxk] at xk
 try rw [hbxk]
 clear hbxk
 clear fk
 clear xk
 try clear hsxk
 have xa_c0:=(xa.cell 0:wk17.cell? ⟨bxa,0,none⟩ = some (.slice A1a 1 c1a))
 have xa_c1:=(xa.cell 1:wk17.cell? ⟨bxa,1,none⟩ = some (.slice Aa 1 ca))
 have xa_c2:=(xa.cell 2:wk17.cell? ⟨bxa,2,none⟩ = some (.int .i64 0))
 have xa_c3:=(xa.cell 3:wk17.cell? ⟨bxa,3,none⟩ = some (.int .i64 2))
 have xa_c4:=(xa.cell 4:wk17.cell? ⟨bxa,4,none⟩ = some (.slice Aba 1 cba))
 have xa_lt:=xa.lt
 go_wp2_with fail
 try clear xa_c0 xa_c1 xa_c2 xa_c3 xa_c4 xa_lt
 have hb:Below wk17.heap.size wk17 (wk17.alloc (.cells #[.int .i64 7] 3)):=(Below.refl _ _).alloc (Nat.le_refl _) _
 have hi:=Sl.of_own (own_lit wk17 wk17.heap.size 3 1 1 #[.int .i64 7] (Nat.le_refl _) rfl (by simp [maxLen]))
 change Sl _ _ 1 _ 1 1 (([7]:List Int).map (Value.int .i64)) at hi
 obtain ⟨bhi,hbhi⟩:∃ q,wk17.heap.size = q:=⟨_,rfl⟩
 have hshi:(wk17.alloc (.cells #[.int .i64 7] 3)).heap.size = bhi + 1:=by rw [← hbhi]; simp
 replace fs:=fs.up hb
 replace fa:=fa.up hb
 replace xs:=xs.below hb xs.lt
 replace ys:=ys.below hb ys.lt
 replace xa:=xa.below hb xa.lt
 replace hB:=hB.trans (hb.mono hB.size)
 clear hb
 generalize wk17.alloc (.cells #[.int .i64 7] 3) = wk18 at *
 rw [hbhi] at hi
 try rw [hbhi]
 clear hbhi
 try clear hshi
 refine ((srelease_any A1a 1 c1a Aa 1 ca 0 2 Aba 1 cba (some ⟨bhi,0,none⟩) 1 1 [7] 2 30 s21_a wk18 fa (by omega) s21_ra rfl (by omega) hi s21_w7 s21_s 0 s21_m1 s21_m2).mono (fun e w9 h9 => h9.is (n1:=1) (n:=1) (nb:=0) (clk:=0) (ver:=2) rfl rfl rfl rfl rfl)).mono ?_
 rintro e wk19 ⟨A1b,c1b,Ab,cb,Abb,cbb,rfl,fb,hb⟩
 replace fs:=fs.up hb
 replace fa:=fa.up hb
 replace hi:=hi.up hb
 replace xs:=xs.below hb xs.lt
 replace ys:=ys.below hb ys.lt
 replace xa:=xa.below hb xa.lt
 replace hB:=hB.trans (hb.mono hB.size)
 clear hb
 go_upto_region 8 with fail
 have hb:Below wk19.heap.size wk19 (wk19.alloc (.cells #[.slice A1b 1 c1b,.slice Ab 1 cb,.int .i64 0,.int .i64 2,.slice Abb 0 cbb] 28)):=(Below.refl _ _).alloc (Nat.le_refl _) _
 have xb:=Blok.new wk19 28 #[.slice A1b 1 c1b,.slice Ab 1 cb,.int .i64 0,.int .i64 2,.slice Abb 0 cbb]
 obtain ⟨bxb,hbxb⟩:∃ q,wk19.heap.size = q:=⟨_,rfl⟩
 have hsxb:(wk19.alloc (.cells #[.slice A1b 1 c1b,.slice Ab 1 cb,.int .i64 0,.int .i64 2,.slice Abb 0 cbb] 28)).heap.size = bxb + 1:=by rw [← hbxb]; simp
 replace fs:=fs.up hb
 replace fa:=fa.up hb
 replace hi:=hi.up hb
 replace fb:=fb.up hb
 replace xs:=xs.below hb xs.lt
 replace ys:=ys.below hb ys.lt
 replace xa:=xa.below hb xa.lt
 replace hB:=hB.trans (hb.mono hB.size)
 clear hb
 generalize wk19.alloc (.cells #[.slice A1b 1 c1b,.slice Ab 1 cb,.int .i64 0,.int .i64 2,.slice Abb 0 cbb] 28) = wk20 at *
 rw [hbxb] at xb
 try rw [hbxb]
 clear hbxb
 clear hi
 try clear hsxb
 have xa_c0:=(xa.cell 0:wk20.cell? ⟨bxa,0,none⟩ = some (.slice A1a 1 c1a))
 have xa_c1:=(xa.cell 1:wk20.cell? ⟨bxa,1,none⟩ = some (.slice Aa 1 ca))
 have xa_c2:=(xa.cell 2:wk20.cell? ⟨bxa,2,none⟩ = some (.int .i64 0))
 have xa_c3:=(xa.cell 3:wk20.cell? ⟨bxa,3,none⟩ = some (.int .i64 2))
 have xa_c4:=(xa.cell 4:wk20.cell? ⟨bxa,4,none⟩ = some (.slice Aba 1 cba))
 have xa_lt:=xa.lt
 go_wp2_with fail
 try clear xa_c0 xa_c1 xa_c2 xa_c3 xa_c4 xa_lt
 refine ((sadv_any A1a 1 c1a Aa 1 ca 0 2 Aba 1 cba s21_a 20 wk20 fa s21_ra s21_c 0 rfl s21_n2).mono (fun e w9 h9 => h9.is (n1:=0) (n:=1) (nb:=0) (clk:=20) (ver:=3) s21_c1.1 s21_c1.2.1 s21_c1.2.2.1 s21_c1.2.2.2.1 s21_c1.2.2.2.2)).mono ?_
 rintro e wk21 ⟨A1c,c1c,Ac,cc,Abc,cbc,rfl,fc,hb⟩
 replace fs:=fs.up hb
 replace fa:=fa.up hb
 replace fb:=fb.up hb
 replace xs:=xs.below hb xs.lt
 replace ys:=ys.below hb ys.lt
 replace xa:=xa.below hb xa.lt
 replace xb:=xb.below hb xb.lt
 replace hB:=hB.trans (hb.mono hB.size)
 clear hb
 go_upto_region 9 with fail
 have hb:Below wk21.heap.size wk21 (wk21.alloc (.cells #[.slice A1c 0 c1c,.slice Ac 1 cc,.int .i64 20,.int .i64 3,.slice Abc 0 cbc] 28)):=(Below.refl _ _).alloc (Nat.le_refl _) _
 have xc:=Blok.new wk21 28 #[.slice A1c 0 c1c,.slice Ac 1 cc,.int .i64 20,.int .i64 3,.slice Abc 0 cbc]
 obtain ⟨bxc,hbxc⟩:∃ q,wk21.heap.size = q:=⟨_,rfl⟩
 have hsxc:(wk21.alloc (.cells #[.slice A1c 0 c1c,.slice Ac 1 cc,.int .i64 20,.int .i64 3,.slice Abc 0 cbc] 28)).heap.size = bxc + 1:=by rw [← hbxc]; simp
 replace fs:=fs.up hb
 replace fa:=fa.up hb
 replace fb:=fb.up hb
 replace fc:=fc.up hb
 replace xs:=xs.below hb xs.lt
 replace ys:=ys.below hb ys.lt
 replace xa:=xa.below hb xa.lt
 replace xb:=xb.below hb xb.lt
 replace hB:=hB.trans (hb.mono hB.size)
 clear hb
 generalize wk21.alloc (.cells #[.slice A1c 0 c1c,.slice Ac 1 cc,.int .i64 20,.int .i64 3,.slice Abc 0 cbc] 28) = wk22 at *
 rw [hbxc] at xc
 try rw [hbxc]
 clear hbxc
 try clear hsxc
 have xa_c0:=(xa.cell 0:wk22.cell? ⟨bxa,0,none⟩ = some (.slice A1a 1 c1a))
 have xa_c1:=(xa.cell 1:wk22.cell? ⟨bxa,1,none⟩ = some (.slice Aa 1 ca))
 have xa_c2:=(xa.cell 2:wk22.cell? ⟨bxa,2,none⟩ = some (.int .i64 0))
 have xa_c3:=(xa.cell 3:wk22.cell? ⟨bxa,3,none⟩ = some (.int .i64 2))
 have xa_c4:=(xa.cell 4:wk22.cell? ⟨bxa,4,none⟩ = some (.slice Aba 1 cba))
 have xa_lt:=xa.lt
 go_wp2_with fail
 try clear xa_c0 xa_c1 xa_c2 xa_c3 xa_c4 xa_lt
 refine ((sload_any A1a 1 c1a Aa 1 ca 0 2 Aba 1 cba s21_a ⟨#[100,32,99,111,110,116,97,99,116,32,55,10,100,32,99,111,110,116,97,99,116,32,55,10]⟩ wk22 fa s21_ra (HMX.out.below hB) (by decide) s21_a 2 6 s21_ld2).mono (fun e w9 h9 => h9.is (n1:=1) (n:=1) (nb:=1) (clk:=0) (ver:=2) rfl rfl rfl rfl rfl)).mono ?_
 rintro e wk23 ⟨A1d,c1d,Ad,cd,Abd,cbd,rfl,fd,hb⟩
 replace fs:=fs.up hb
 replace fa:=fa.up hb
 replace fb:=fb.up hb
 replace fc:=fc.up hb
 replace xs:=xs.below hb xs.lt
 replace ys:=ys.below hb ys.lt
 replace xa:=xa.below hb xa.lt
 replace xb:=xb.below hb xb.lt
 replace xc:=xc.below hb xc.lt
 replace hB:=hB.trans (hb.mono hB.size)
 clear hb
 go_upto_region 10 with fail
 have hb:Below wk23.heap.size wk23 (wk23.alloc (.cells #[.slice A1d 1 c1d,.slice Ad 1 cd,.int .i64 0,.int .i64 2,.slice Abd 1 cbd] 28)):=(Below.refl _ _).alloc (Nat.le_refl _) _
 have xd:=Blok.new wk23 28 #[.slice A1d 1 c1d,.slice Ad 1 cd,.int .i64 0,.int .i64 2,.slice Abd 1 cbd]
 obtain ⟨bxd,hbxd⟩:∃ q,wk23.heap.size = q:=⟨_,rfl⟩
 have hsxd:(wk23.alloc (.cells #[.slice A1d 1 c1d,.slice Ad 1 cd,.int .i64 0,.int .i64 2,.slice Abd 1 cbd] 28)).heap.size = bxd + 1:=by rw [← hbxd]; simp
 replace fs:=fs.up hb
 replace fa:=fa.up hb
 replace fb:=fb.up hb
 replace fc:=fc.up hb
 replace fd:=fd.up hb
 replace xs:=xs.below hb xs.lt
 replace ys:=ys.below hb ys.lt
 replace xa:=xa.below hb xa.lt
 replace xb:=xb.below hb xb.lt
 replace xc:=xc.below hb xc.lt
 replace hB:=hB.trans (hb.mono hB.size)
 clear hb
 generalize wk23.alloc (.cells #[.slice A1d 1 c1d,.slice Ad 1 cd,.int .i64 0,.int .i64 2,.slice Abd 1 cbd] 28) = wk24 at *
 rw [hbxd] at xd
 try rw [hbxd]
 clear hbxd
 have hb:Below wk24.heap.size wk24 (wk24.alloc (.cells #[.int .i64 2,.int .i64 6] 45)):=(Below.refl _ _).alloc (Nat.le_refl _) _
 have yd:=Blok.new wk24 45 #[.int .i64 2,.int .i64 6]
 obtain ⟨byd,hbyd⟩:∃ q,wk24.heap.size = q:=⟨_,rfl⟩
 have hsyd:(wk24.alloc (.cells #[.int .i64 2,.int .i64 6] 45)).heap.size = byd + 1:=by rw [← hbyd]; simp
 replace fs:=fs.up hb
 replace fa:=fa.up hb
 replace fb:=fb.up hb
 replace fc:=fc.up hb
 replace fd:=fd.up hb
 replace xs:=xs.below hb xs.lt
 replace ys:=ys.below hb ys.lt
 replace xa:=xa.below hb xa.lt
 replace xb:=xb.below hb xb.lt
 replace xc:=xc.below hb xc.lt
 replace xd:=xd.below hb xd.lt
 replace hB:=hB.trans (hb.mono hB.size)
 clear hb
 have he_yd:bxd + 1 = byd:=by rw [← hbyd,hsxd]
 try rw [he_yd]
 clear he_yd hsxd
 generalize wk24.alloc (.cells #[.int .i64 2,.int .i64 6] 45) = wk25 at *
 rw [hbyd] at yd
 try rw [hbyd]
 clear hbyd
 try clear hsyd
 have xa_c0:=(xa.cell 0:wk25.cell? ⟨bxa,0,none⟩ = some (.slice A1a 1 c1a))
 have xa_c1:=(xa.cell 1:wk25.cell? ⟨bxa,1,none⟩ = some (.slice Aa 1 ca))
 have xa_c2:=(xa.cell 2:wk25.cell? ⟨bxa,2,none⟩ = some (.int .i64 0))
 have xa_c3:=(xa.cell 3:wk25.cell? ⟨bxa,3,none⟩ = some (.int .i64 2))
 have xa_c4:=(xa.cell 4:wk25.cell? ⟨bxa,4,none⟩ = some (.slice Aba 1 cba))
 have xa_lt:=xa.lt
 go_wp2_with fail
 try clear xa_c0 xa_c1 xa_c2 xa_c3 xa_c4 xa_lt
 refine ((sedit_any A1a 1 c1a Aa 1 ca 0 2 Aba 1 cba s21_a ⟨2,1,7,0,0,0,0,0,0,0,0,0,0⟩ wk25 fa s21_ra (by decide) (by decide) (by decide) s21_p 0 rfl s21_q2).mono (fun e w9 h9 => h9.is (n1:=0) (n:=1) (nb:=0) (clk:=0) (ver:=3) s21_p1.1 s21_p1.2.1 s21_p1.2.2.1 s21_p1.2.2.2.1 s21_p1.2.2.2.2)).mono ?_
 rintro e wk26 ⟨A1p,c1p,Ap,cp,Abp,cbp,rfl,fp,hb⟩
 replace fs:=fs.up hb
 replace fa:=fa.up hb
 replace fb:=fb.up hb
 replace fc:=fc.up hb
 replace fd:=fd.up hb
 replace xs:=xs.below hb xs.lt
 replace ys:=ys.below hb ys.lt
 replace xa:=xa.below hb xa.lt
 replace xb:=xb.below hb xb.lt
 replace xc:=xc.below hb xc.lt
 replace xd:=xd.below hb xd.lt
 replace yd:=yd.below hb yd.lt
 replace hB:=hB.trans (hb.mono hB.size)
 clear hb
 go_upto_region 11 with fail
 have hb:Below wk26.heap.size wk26 (wk26.alloc (.cells #[.slice A1p 0 c1p,.slice Ap 1 cp,.int .i64 0,.int .i64 3,.slice Abp 0 cbp] 28)):=(Below.refl _ _).alloc (Nat.le_refl _) _
 have xp:=Blok.new wk26 28 #[.slice A1p 0 c1p,.slice Ap 1 cp,.int .i64 0,.int .i64 3,.slice Abp 0 cbp]
 obtain ⟨bxp,hbxp⟩:∃ q,wk26.heap.size = q:=⟨_,rfl⟩
 have hsxp:(wk26.alloc (.cells #[.slice A1p 0 c1p,.slice Ap 1 cp,.int .i64 0,.int .i64 3,.slice Abp 0 cbp] 28)).heap.size = bxp + 1:=by rw [← hbxp]; simp
 replace fs:=fs.up hb
 replace fa:=fa.up hb
 replace fb:=fb.up hb
 replace fc:=fc.up hb
 replace fd:=fd.up hb
 replace fp:=fp.up hb
 replace xs:=xs.below hb xs.lt
 replace ys:=ys.below hb ys.lt
 replace xa:=xa.below hb xa.lt
 replace xb:=xb.below hb xb.lt
 replace xc:=xc.below hb xc.lt
 replace xd:=xd.below hb xd.lt
 replace yd:=yd.below hb yd.lt
 replace hB:=hB.trans (hb.mono hB.size)
 clear hb
 generalize wk26.alloc (.cells #[.slice A1p 0 c1p,.slice Ap 1 cp,.int .i64 0,.int .i64 3,.slice Abp 0 cbp] 28) = wk27 at *
 rw [hbxp] at xp
 try rw [hbxp]
 clear hbxp
 try clear hsxp
 have xs_c0:=(xs.cell 0:wk27.cell? ⟨bxs,0,none⟩ = some (.slice A1s 1 c1s))
 have xs_c1:=(xs.cell 1:wk27.cell? ⟨bxs,1,none⟩ = some (.slice As 1 cs))
 have xs_c2:=(xs.cell 2:wk27.cell? ⟨bxs,2,none⟩ = some (.int .i64 0))
 have xs_c3:=(xs.cell 3:wk27.cell? ⟨bxs,3,none⟩ = some (.int .i64 2))
 have xs_c4:=(xs.cell 4:wk27.cell? ⟨bxs,4,none⟩ = some (.slice Abs 0 cbs))
 have xs_lt:=xs.lt
 have xa_c0:=(xa.cell 0:wk27.cell? ⟨bxa,0,none⟩ = some (.slice A1a 1 c1a))
 have xa_c1:=(xa.cell 1:wk27.cell? ⟨bxa,1,none⟩ = some (.slice Aa 1 ca))
 have xa_c2:=(xa.cell 2:wk27.cell? ⟨bxa,2,none⟩ = some (.int .i64 0))
 have xa_c3:=(xa.cell 3:wk27.cell? ⟨bxa,3,none⟩ = some (.int .i64 2))
 have xa_c4:=(xa.cell 4:wk27.cell? ⟨bxa,4,none⟩ = some (.slice Aba 1 cba))
 have xa_lt:=xa.lt
 have xb_c0:=(xb.cell 0:wk27.cell? ⟨bxb,0,none⟩ = some (.slice A1b 1 c1b))
 have xb_c1:=(xb.cell 1:wk27.cell? ⟨bxb,1,none⟩ = some (.slice Ab 1 cb))
 have xb_c2:=(xb.cell 2:wk27.cell? ⟨bxb,2,none⟩ = some (.int .i64 0))
 have xb_c3:=(xb.cell 3:wk27.cell? ⟨bxb,3,none⟩ = some (.int .i64 2))
 have xb_c4:=(xb.cell 4:wk27.cell? ⟨bxb,4,none⟩ = some (.slice Abb 0 cbb))
 have xb_lt:=xb.lt
 have xc_c0:=(xc.cell 0:wk27.cell? ⟨bxc,0,none⟩ = some (.slice A1c 0 c1c))
 have xc_c1:=(xc.cell 1:wk27.cell? ⟨bxc,1,none⟩ = some (.slice Ac 1 cc))
 have xc_c2:=(xc.cell 2:wk27.cell? ⟨bxc,2,none⟩ = some (.int .i64 20))
 have xc_c3:=(xc.cell 3:wk27.cell? ⟨bxc,3,none⟩ = some (.int .i64 3))
 have xc_c4:=(xc.cell 4:wk27.cell? ⟨bxc,4,none⟩ = some (.slice Abc 0 cbc))
 have xc_lt:=xc.lt
 have xd_c0:=(xd.cell 0:wk27.cell? ⟨bxd,0,none⟩ = some (.slice A1d 1 c1d))
 have xd_c1:=(xd.cell 1:wk27.cell? ⟨bxd,1,none⟩ = some (.slice Ad 1 cd))
 have xd_c2:=(xd.cell 2:wk27.cell? ⟨bxd,2,none⟩ = some (.int .i64 0))
 have xd_c3:=(xd.cell 3:wk27.cell? ⟨bxd,3,none⟩ = some (.int .i64 2))
 have xd_c4:=(xd.cell 4:wk27.cell? ⟨bxd,4,none⟩ = some (.slice Abd 1 cbd))
 have xd_lt:=xd.lt
 have xp_c0:=(xp.cell 0:wk27.cell? ⟨bxp,0,none⟩ = some (.slice A1p 0 c1p))
 have xp_c1:=(xp.cell 1:wk27.cell? ⟨bxp,1,none⟩ = some (.slice Ap 1 cp))
 have xp_c2:=(xp.cell 2:wk27.cell? ⟨bxp,2,none⟩ = some (.int .i64 0))
 have xp_c3:=(xp.cell 3:wk27.cell? ⟨bxp,3,none⟩ = some (.int .i64 3))
 have xp_c4:=(xp.cell 4:wk27.cell? ⟨bxp,4,none⟩ = some (.slice Abp 0 cbp))
 have xp_lt:=xp.lt
 have ys_c0:=(ys.cell 0:wk27.cell? ⟨bys,0,none⟩ = some (.int .i64 0))
 have ys_c1:=(ys.cell 1:wk27.cell? ⟨bys,1,none⟩ = some (.int .i64 0))
 have ys_lt:=ys.lt
 have yd_c0:=(yd.cell 0:wk27.cell? ⟨byd,0,none⟩ = some (.int .i64 2))
 have yd_c1:=(yd.cell 1:wk27.cell? ⟨byd,1,none⟩ = some (.int .i64 6))
 have yd_lt:=yd.lt
 go_wp2_with fail
 try clear xs_c0 xs_c1 xs_c2 xs_c3 xs_c4 xs_lt xa_c0 xa_c1 xa_c2 xa_c3 xa_c4 xa_lt xb_c0 xb_c1 xb_c2 xb_c3 xb_c4 xb_lt xc_c0 xc_c1 xc_c2 xc_c3 xc_c4 xc_lt xd_c0 xd_c1 xd_c2 xd_c3 xd_c4 xd_lt xp_c0 xp_c1 xp_c2 xp_c3 xp_c4 xp_lt ys_c0 ys_c1 ys_lt yd_c0 yd_c1 yd_lt
 refine (ssame_any A1b 1 c1b Ab 1 cb 0 2 Abb 0 cbb s21_s A1s 1 c1s As 1 cs 0 2 Abs 0 cbs s21_s wk27 fb fs true s21_ss).mono ?_
 rintro e wk28 ⟨rfl,hb⟩
 replace fs:=fs.up hb
 replace fa:=fa.up hb
 replace fb:=fb.up hb
 replace fc:=fc.up hb
 replace fd:=fd.up hb
 replace fp:=fp.up hb
 replace xs:=xs.below hb xs.lt
 replace ys:=ys.below hb ys.lt
 replace xa:=xa.below hb xa.lt
 replace xb:=xb.below hb xb.lt
 replace xc:=xc.below hb xc.lt
 replace xd:=xd.below hb xd.lt
 replace yd:=yd.below hb yd.lt
 replace xp:=xp.below hb xp.lt
 replace hB:=hB.trans (hb.mono hB.size)
 clear hb
 have xs_c0:=(xs.cell 0:wk28.cell? ⟨bxs,0,none⟩ = some (.slice A1s 1 c1s))
 have xs_c1:=(xs.cell 1:wk28.cell? ⟨bxs,1,none⟩ = some (.slice As 1 cs))
 have xs_c2:=(xs.cell 2:wk28.cell? ⟨bxs,2,none⟩ = some (.int .i64 0))
 have xs_c3:=(xs.cell 3:wk28.cell? ⟨bxs,3,none⟩ = some (.int .i64 2))
 have xs_c4:=(xs.cell 4:wk28.cell? ⟨bxs,4,none⟩ = some (.slice Abs 0 cbs))
 have xs_lt:=xs.lt
 have xa_c0:=(xa.cell 0:wk28.cell? ⟨bxa,0,none⟩ = some (.slice A1a 1 c1a))
 have xa_c1:=(xa.cell 1:wk28.cell? ⟨bxa,1,none⟩ = some (.slice Aa 1 ca))
 have xa_c2:=(xa.cell 2:wk28.cell? ⟨bxa,2,none⟩ = some (.int .i64 0))
 have xa_c3:=(xa.cell 3:wk28.cell? ⟨bxa,3,none⟩ = some (.int .i64 2))
 have xa_c4:=(xa.cell 4:wk28.cell? ⟨bxa,4,none⟩ = some (.slice Aba 1 cba))
 have xa_lt:=xa.lt
 have xb_c0:=(xb.cell 0:wk28.cell? ⟨bxb,0,none⟩ = some (.slice A1b 1 c1b))
 have xb_c1:=(xb.cell 1:wk28.cell? ⟨bxb,1,none⟩ = some (.slice Ab 1 cb))
 have xb_c2:=(xb.cell 2:wk28.cell? ⟨bxb,2,none⟩ = some (.int .i64 0))
 have xb_c3:=(xb.cell 3:wk28.cell? ⟨bxb,3,none⟩ = some (.int .i64 2))
 have xb_c4:=(xb.cell 4:wk28.cell? ⟨bxb,4,none⟩ = some (.slice Abb 0 cbb))
 have xb_lt:=xb.lt
 have xc_c0:=(xc.cell 0:wk28.cell? ⟨bxc,0,none⟩ = some (.slice A1c 0 c1c))
 have xc_c1:=(xc.cell 1:wk28.cell? ⟨bxc,1,none⟩ = some (.slice Ac 1 cc))
 have xc_c2:=(xc.cell 2:wk28.cell? ⟨bxc,2,none⟩ = some (.int .i64 20))
 have xc_c3:=(xc.cell 3:wk28.cell? ⟨bxc,3,none⟩ = some (.int .i64 3))
 have xc_c4:=(xc.cell 4:wk28.cell? ⟨bxc,4,none⟩ = some (.slice Abc 0 cbc))
 have xc_lt:=xc.lt
 have xd_c0:=(xd.cell 0:wk28.cell? ⟨bxd,0,none⟩ = some (.slice A1d 1 c1d))
 have xd_c1:=(xd.cell 1:wk28.cell? ⟨bxd,1,none⟩ = some (.slice Ad 1 cd))
 have xd_c2:=(xd.cell 2:wk28.cell? ⟨bxd,2,none⟩ = some (.int .i64 0))
 have xd_c3:=(xd.cell 3:wk28.cell? ⟨bxd,3,none⟩ = some (.int .i64 2))
 have xd_c4:=(xd.cell 4:wk28.cell? ⟨bxd,4,none⟩ = some (.slice Abd 1 cbd))
 have xd_lt:=xd.lt
 have xp_c0:=(xp.cell 0:wk28.cell? ⟨bxp,0,none⟩ = some (.slice A1p 0 c1p))
 have xp_c1:=(xp.cell 1:wk28.cell? ⟨bxp,1,none⟩ = some (.slice Ap 1 cp))
 have xp_c2:=(xp.cell 2:wk28.cell? ⟨bxp,2,none⟩ = some (.int .i64 0))
 have xp_c3:=(xp.cell 3:wk28.cell? ⟨bxp,3,none⟩ = some (.int .i64 3))
 have xp_c4:=(xp.cell 4:wk28.cell? ⟨bxp,4,none⟩ = some (.slice Abp 0 cbp))
 have xp_lt:=xp.lt
 have ys_c0:=(ys.cell 0:wk28.cell? ⟨bys,0,none⟩ = some (.int .i64 0))
 have ys_c1:=(ys.cell 1:wk28.cell? ⟨bys,1,none⟩ = some (.int .i64 0))
 have ys_lt:=ys.lt
 have yd_c0:=(yd.cell 0:wk28.cell? ⟨byd,0,none⟩ = some (.int .i64 2))
 have yd_c1:=(yd.cell 1:wk28.cell? ⟨byd,1,none⟩ = some (.int .i64 6))
 have yd_lt:=yd.lt
 go_wp2_with fail
 try clear xs_c0 xs_c1 xs_c2 xs_c3 xs_c4 xs_lt xa_c0 xa_c1 xa_c2 xa_c3 xa_c4 xa_lt xb_c0 xb_c1 xb_c2 xb_c3 xb_c4 xb_lt xc_c0 xc_c1 xc_c2 xc_c3 xc_c4 xc_lt xd_c0 xd_c1 xd_c2 xd_c3 xd_c4 xd_lt xp_c0 xp_c1 xp_c2 xp_c3 xp_c4 xp_lt ys_c0 ys_c1 ys_lt yd_c0 yd_c1 yd_lt
 refine (ssame_any A1d 1 c1d Ad 1 cd 0 2 Abd 1 cbd s21_a A1a 1 c1a Aa 1 ca 0 2 Aba 1 cba s21_a wk28 fd fa true s21_aa).mono ?_
 rintro e wk29 ⟨rfl,hb⟩
 replace fs:=fs.up hb
 replace fa:=fa.up hb
 replace fb:=fb.up hb
 replace fc:=fc.up hb
 replace fd:=fd.up hb
 replace fp:=fp.up hb
 replace xs:=xs.below hb xs.lt
 replace ys:=ys.below hb ys.lt
 replace xa:=xa.below hb xa.lt
 replace xb:=xb.below hb xb.lt
 replace xc:=xc.below hb xc.lt
 replace xd:=xd.below hb xd.lt
 replace yd:=yd.below hb yd.lt
 replace xp:=xp.below hb xp.lt
 replace hB:=hB.trans (hb.mono hB.size)
 clear hb
 have xs_c0:=(xs.cell 0:wk29.cell? ⟨bxs,0,none⟩ = some (.slice A1s 1 c1s))
 have xs_c1:=(xs.cell 1:wk29.cell? ⟨bxs,1,none⟩ = some (.slice As 1 cs))
 have xs_c2:=(xs.cell 2:wk29.cell? ⟨bxs,2,none⟩ = some (.int .i64 0))
 have xs_c3:=(xs.cell 3:wk29.cell? ⟨bxs,3,none⟩ = some (.int .i64 2))
 have xs_c4:=(xs.cell 4:wk29.cell? ⟨bxs,4,none⟩ = some (.slice Abs 0 cbs))
 have xs_lt:=xs.lt
 have xa_c0:=(xa.cell 0:wk29.cell? ⟨bxa,0,none⟩ = some (.slice A1a 1 c1a))
 have xa_c1:=(xa.cell 1:wk29.cell? ⟨bxa,1,none⟩ = some (.slice Aa 1 ca))
 have xa_c2:=(xa.cell 2:wk29.cell? ⟨bxa,2,none⟩ = some (.int .i64 0))
 have xa_c3:=(xa.cell 3:wk29.cell? ⟨bxa,3,none⟩ = some (.int .i64 2))
 have xa_c4:=(xa.cell 4:wk29.cell? ⟨bxa,4,none⟩ = some (.slice Aba 1 cba))
 have xa_lt:=xa.lt
 have xb_c0:=(xb.cell 0:wk29.cell? ⟨bxb,0,none⟩ = some (.slice A1b 1 c1b))
 have xb_c1:=(xb.cell 1:wk29.cell? ⟨bxb,1,none⟩ = some (.slice Ab 1 cb))
 have xb_c2:=(xb.cell 2:wk29.cell? ⟨bxb,2,none⟩ = some (.int .i64 0))
 have xb_c3:=(xb.cell 3:wk29.cell? ⟨bxb,3,none⟩ = some (.int .i64 2))
 have xb_c4:=(xb.cell 4:wk29.cell? ⟨bxb,4,none⟩ = some (.slice Abb 0 cbb))
 have xb_lt:=xb.lt
 have xc_c0:=(xc.cell 0:wk29.cell? ⟨bxc,0,none⟩ = some (.slice A1c 0 c1c))
 have xc_c1:=(xc.cell 1:wk29.cell? ⟨bxc,1,none⟩ = some (.slice Ac 1 cc))
 have xc_c2:=(xc.cell 2:wk29.cell? ⟨bxc,2,none⟩ = some (.int .i64 20))
 have xc_c3:=(xc.cell 3:wk29.cell? ⟨bxc,3,none⟩ = some (.int .i64 3))
 have xc_c4:=(xc.cell 4:wk29.cell? ⟨bxc,4,none⟩ = some (.slice Abc 0 cbc))
 have xc_lt:=xc.lt
 have xd_c0:=(xd.cell 0:wk29.cell? ⟨bxd,0,none⟩ = some (.slice A1d 1 c1d))
 have xd_c1:=(xd.cell 1:wk29.cell? ⟨bxd,1,none⟩ = some (.slice Ad 1 cd))
 have xd_c2:=(xd.cell 2:wk29.cell? ⟨bxd,2,none⟩ = some (.int .i64 0))
 have xd_c3:=(xd.cell 3:wk29.cell? ⟨bxd,3,none⟩ = some (.int .i64 2))
 have xd_c4:=(xd.cell 4:wk29.cell? ⟨bxd,4,none⟩ = some (.slice Abd 1 cbd))
 have xd_lt:=xd.lt
 have xp_c0:=(xp.cell 0:wk29.cell? ⟨bxp,0,none⟩ = some (.slice A1p 0 c1p))
 have xp_c1:=(xp.cell 1:wk29.cell? ⟨bxp,1,none⟩ = some (.slice Ap 1 cp))
 have xp_c2:=(xp.cell 2:wk29.cell? ⟨bxp,2,none⟩ = some (.int .i64 0))
 have xp_c3:=(xp.cell 3:wk29.cell? ⟨bxp,3,none⟩ = some (.int .i64 3))
 have xp_c4:=(xp.cell 4:wk29.cell? ⟨bxp,4,none⟩ = some (.slice Abp 0 cbp))
 have xp_lt:=xp.lt
 have ys_c0:=(ys.cell 0:wk29.cell? ⟨bys,0,none⟩ = some (.int .i64 0))
 have ys_c1:=(ys.cell 1:wk29.cell? ⟨bys,1,none⟩ = some (.int .i64 0))
 have ys_lt:=ys.lt
 have yd_c0:=(yd.cell 0:wk29.cell? ⟨byd,0,none⟩ = some (.int .i64 2))
 have yd_c1:=(yd.cell 1:wk29.cell? ⟨byd,1,none⟩ = some (.int .i64 6))
 have yd_lt:=yd.lt
 go_wp2_with fail
 try clear xs_c0 xs_c1 xs_c2 xs_c3 xs_c4 xs_lt xa_c0 xa_c1 xa_c2 xa_c3 xa_c4 xa_lt xb_c0 xb_c1 xb_c2 xb_c3 xb_c4 xb_lt xc_c0 xc_c1 xc_c2 xc_c3 xc_c4 xc_lt xd_c0 xd_c1 xd_c2 xd_c3 xd_c4 xd_lt xp_c0 xp_c1 xp_c2 xp_c3 xp_c4 xp_lt ys_c0 ys_c1 ys_lt yd_c0 yd_c1 yd_lt
 refine (sright_any A1a 1 c1a Aa 1 ca 0 2 Aba 1 cba s21_a wk29 fa true s21_ra).mono ?_
 rintro e wk30 ⟨rfl,hb⟩
 replace fs:=fs.up hb
 replace fa:=fa.up hb
 replace fb:=fb.up hb
 replace fc:=fc.up hb
 replace fd:=fd.up hb
 replace fp:=fp.up hb
 replace xs:=xs.below hb xs.lt
 replace ys:=ys.below hb ys.lt
 replace xa:=xa.below hb xa.lt
 replace xb:=xb.below hb xb.lt
 replace xc:=xc.below hb xc.lt
 replace xd:=xd.below hb xd.lt
 replace yd:=yd.below hb yd.lt
 replace xp:=xp.below hb xp.lt
 replace hB:=hB.trans (hb.mono hB.size)
 clear hb
 have xs_c0:=(xs.cell 0:wk30.cell? ⟨bxs,0,none⟩ = some (.slice A1s 1 c1s))
 have xs_c1:=(xs.cell 1:wk30.cell? ⟨bxs,1,none⟩ = some (.slice As 1 cs))
 have xs_c2:=(xs.cell 2:wk30.cell? ⟨bxs,2,none⟩ = some (.int .i64 0))
 have xs_c3:=(xs.cell 3:wk30.cell? ⟨bxs,3,none⟩ = some (.int .i64 2))
 have xs_c4:=(xs.cell 4:wk30.cell? ⟨bxs,4,none⟩ = some (.slice Abs 0 cbs))
 have xs_lt:=xs.lt
 have xa_c0:=(xa.cell 0:wk30.cell? ⟨bxa,0,none⟩ = some (.slice A1a 1 c1a))
 have xa_c1:=(xa.cell 1:wk30.cell? ⟨bxa,1,none⟩ = some (.slice Aa 1 ca))
 have xa_c2:=(xa.cell 2:wk30.cell? ⟨bxa,2,none⟩ = some (.int .i64 0))
 have xa_c3:=(xa.cell 3:wk30.cell? ⟨bxa,3,none⟩ = some (.int .i64 2))
 have xa_c4:=(xa.cell 4:wk30.cell? ⟨bxa,4,none⟩ = some (.slice Aba 1 cba))
 have xa_lt:=xa.lt
 have xb_c0:=(xb.cell 0:wk30.cell? ⟨bxb,0,none⟩ = some (.slice A1b 1 c1b))
 have xb_c1:=(xb.cell 1:wk30.cell? ⟨bxb,1,none⟩ = some (.slice Ab 1 cb))
 have xb_c2:=(xb.cell 2:wk30.cell? ⟨bxb,2,none⟩ = some (.int .i64 0))
 have xb_c3:=(xb.cell 3:wk30.cell? ⟨bxb,3,none⟩ = some (.int .i64 2))
 have xb_c4:=(xb.cell 4:wk30.cell? ⟨bxb,4,none⟩ = some (.slice Abb 0 cbb))
 have xb_lt:=xb.lt
 have xc_c0:=(xc.cell 0:wk30.cell? ⟨bxc,0,none⟩ = some (.slice A1c 0 c1c))
 have xc_c1:=(xc.cell 1:wk30.cell? ⟨bxc,1,none⟩ = some (.slice Ac 1 cc))
 have xc_c2:=(xc.cell 2:wk30.cell? ⟨bxc,2,none⟩ = some (.int .i64 20))
 have xc_c3:=(xc.cell 3:wk30.cell? ⟨bxc,3,none⟩ = some (.int .i64 3))
 have xc_c4:=(xc.cell 4:wk30.cell? ⟨bxc,4,none⟩ = some (.slice Abc 0 cbc))
 have xc_lt:=xc.lt
 have xd_c0:=(xd.cell 0:wk30.cell? ⟨bxd,0,none⟩ = some (.slice A1d 1 c1d))
 have xd_c1:=(xd.cell 1:wk30.cell? ⟨bxd,1,none⟩ = some (.slice Ad 1 cd))
 have xd_c2:=(xd.cell 2:wk30.cell? ⟨bxd,2,none⟩ = some (.int .i64 0))
 have xd_c3:=(xd.cell 3:wk30.cell? ⟨bxd,3,none⟩ = some (.int .i64 2))
 have xd_c4:=(xd.cell 4:wk30.cell? ⟨bxd,4,none⟩ = some (.slice Abd 1 cbd))
 have xd_lt:=xd.lt
 have xp_c0:=(xp.cell 0:wk30.cell? ⟨bxp,0,none⟩ = some (.slice A1p 0 c1p))
 have xp_c1:=(xp.cell 1:wk30.cell? ⟨bxp,1,none⟩ = some (.slice Ap 1 cp))
 have xp_c2:=(xp.cell 2:wk30.cell? ⟨bxp,2,none⟩ = some (.int .i64 0))
 have xp_c3:=(xp.cell 3:wk30.cell? ⟨bxp,3,none⟩ = some (.int .i64 3))
 have xp_c4:=(xp.cell 4:wk30.cell? ⟨bxp,4,none⟩ = some (.slice Abp 0 cbp))
 have xp_lt:=xp.lt
 have ys_c0:=(ys.cell 0:wk30.cell? ⟨bys,0,none⟩ = some (.int .i64 0))
 have ys_c1:=(ys.cell 1:wk30.cell? ⟨bys,1,none⟩ = some (.int .i64 0))
 have ys_lt:=ys.lt
 have yd_c0:=(yd.cell 0:wk30.cell? ⟨byd,0,none⟩ = some (.int .i64 2))
 have yd_c1:=(yd.cell 1:wk30.cell? ⟨byd,1,none⟩ = some (.int .i64 6))
 have yd_lt:=yd.lt
 go_wp2_with fail
 try clear xs_c0 xs_c1 xs_c2 xs_c3 xs_c4 xs_lt xa_c0 xa_c1 xa_c2 xa_c3 xa_c4 xa_lt xb_c0 xb_c1 xb_c2 xb_c3 xb_c4 xb_lt xc_c0 xc_c1 xc_c2 xc_c3 xc_c4 xc_lt xd_c0 xd_c1 xd_c2 xd_c3 xd_c4 xd_lt xp_c0 xp_c1 xp_c2 xp_c3 xp_c4 xp_lt ys_c0 ys_c1 ys_lt yd_c0 yd_c1 yd_lt
 refine (ssame_any A1a 1 c1a Aa 1 ca 0 2 Aba 1 cba s21_a A1s 1 c1s As 1 cs 0 2 Abs 0 cbs s21_s wk30 fa fs false s21_as).mono ?_
 rintro e wk31 ⟨rfl,hb⟩
 replace fs:=fs.up hb
 replace fa:=fa.up hb
 replace fb:=fb.up hb
 replace fc:=fc.up hb
 replace fd:=fd.up hb
 replace fp:=fp.up hb
 replace xs:=xs.below hb xs.lt
 replace ys:=ys.below hb ys.lt
 replace xa:=xa.below hb xa.lt
 replace xb:=xb.below hb xb.lt
 replace xc:=xc.below hb xc.lt
 replace xd:=xd.below hb xd.lt
 replace yd:=yd.below hb yd.lt
 replace xp:=xp.below hb xp.lt
 replace hB:=hB.trans (hb.mono hB.size)
 clear hb
 have xs_c0:=(xs.cell 0:wk31.cell? ⟨bxs,0,none⟩ = some (.slice A1s 1 c1s))
 have xs_c1:=(xs.cell 1:wk31.cell? ⟨bxs,1,none⟩ = some (.slice As 1 cs))
 have xs_c2:=(xs.cell 2:wk31.cell? ⟨bxs,2,none⟩ = some (.int .i64 0))
 have xs_c3:=(xs.cell 3:wk31.cell? ⟨bxs,3,none⟩ = some (.int .i64 2))
 have xs_c4:=(xs.cell 4:wk31.cell? ⟨bxs,4,none⟩ = some (.slice Abs 0 cbs))
 have xs_lt:=xs.lt
 have xa_c0:=(xa.cell 0:wk31.cell? ⟨bxa,0,none⟩ = some (.slice A1a 1 c1a))
 have xa_c1:=(xa.cell 1:wk31.cell? ⟨bxa,1,none⟩ = some (.slice Aa 1 ca))
 have xa_c2:=(xa.cell 2:wk31.cell? ⟨bxa,2,none⟩ = some (.int .i64 0))
 have xa_c3:=(xa.cell 3:wk31.cell? ⟨bxa,3,none⟩ = some (.int .i64 2))
 have xa_c4:=(xa.cell 4:wk31.cell? ⟨bxa,4,none⟩ = some (.slice Aba 1 cba))
 have xa_lt:=xa.lt
 have xb_c0:=(xb.cell 0:wk31.cell? ⟨bxb,0,none⟩ = some (.slice A1b 1 c1b))
 have xb_c1:=(xb.cell 1:wk31.cell? ⟨bxb,1,none⟩ = some (.slice Ab 1 cb))
 have xb_c2:=(xb.cell 2:wk31.cell? ⟨bxb,2,none⟩ = some (.int .i64 0))
 have xb_c3:=(xb.cell 3:wk31.cell? ⟨bxb,3,none⟩ = some (.int .i64 2))
 have xb_c4:=(xb.cell 4:wk31.cell? ⟨bxb,4,none⟩ = some (.slice Abb 0 cbb))
 have xb_lt:=xb.lt
 have xc_c0:=(xc.cell 0:wk31.cell? ⟨bxc,0,none⟩ = some (.slice A1c 0 c1c))
 have xc_c1:=(xc.cell 1:wk31.cell? ⟨bxc,1,none⟩ = some (.slice Ac 1 cc))
 have xc_c2:=(xc.cell 2:wk31.cell? ⟨bxc,2,none⟩ = some (.int .i64 20))
 have xc_c3:=(xc.cell 3:wk31.cell? ⟨bxc,3,none⟩ = some (.int .i64 3))
 have xc_c4:=(xc.cell 4:wk31.cell? ⟨bxc,4,none⟩ = some (.slice Abc 0 cbc))
 have xc_lt:=xc.lt
 have xd_c0:=(xd.cell 0:wk31.cell? ⟨bxd,0,none⟩ = some (.slice A1d 1 c1d))
 have xd_c1:=(xd.cell 1:wk31.cell? ⟨bxd,1,none⟩ = some (.slice Ad 1 cd))
 have xd_c2:=(xd.cell 2:wk31.cell? ⟨bxd,2,none⟩ = some (.int .i64 0))
 have xd_c3:=(xd.cell 3:wk31.cell? ⟨bxd,3,none⟩ = some (.int .i64 2))
 have xd_c4:=(xd.cell 4:wk31.cell? ⟨bxd,4,none⟩ = some (.slice Abd 1 cbd))
 have xd_lt:=xd.lt
 have xp_c0:=(xp.cell 0:wk31.cell? ⟨bxp,0,none⟩ = some (.slice A1p 0 c1p))
 have xp_c1:=(xp.cell 1:wk31.cell? ⟨bxp,1,none⟩ = some (.slice Ap 1 cp))
 have xp_c2:=(xp.cell 2:wk31.cell? ⟨bxp,2,none⟩ = some (.int .i64 0))
 have xp_c3:=(xp.cell 3:wk31.cell? ⟨bxp,3,none⟩ = some (.int .i64 3))
 have xp_c4:=(xp.cell 4:wk31.cell? ⟨bxp,4,none⟩ = some (.slice Abp 0 cbp))
 have xp_lt:=xp.lt
 have ys_c0:=(ys.cell 0:wk31.cell? ⟨bys,0,none⟩ = some (.int .i64 0))
 have ys_c1:=(ys.cell 1:wk31.cell? ⟨bys,1,none⟩ = some (.int .i64 0))
 have ys_lt:=ys.lt
 have yd_c0:=(yd.cell 0:wk31.cell? ⟨byd,0,none⟩ = some (.int .i64 2))
 have yd_c1:=(yd.cell 1:wk31.cell? ⟨byd,1,none⟩ = some (.int .i64 6))
 have yd_lt:=yd.lt
 go_wp2_with fail
 try clear xs_c0 xs_c1 xs_c2 xs_c3 xs_c4 xs_lt xa_c0 xa_c1 xa_c2 xa_c3 xa_c4 xa_lt xb_c0 xb_c1 xb_c2 xb_c3 xb_c4 xb_lt xc_c0 xc_c1 xc_c2 xc_c3 xc_c4 xc_lt xd_c0 xd_c1 xd_c2 xd_c3 xd_c4 xd_lt xp_c0 xp_c1 xp_c2 xp_c3 xp_c4 xp_lt ys_c0 ys_c1 ys_lt yd_c0 yd_c1 yd_lt
 have hb:Below wk31.heap.size wk31 (wk31.alloc (.cells #[.int .i64 7,.int .i64 0,.int .i64 0,.int .i64 30] 50)):=(Below.refl _ _).alloc (Nat.le_refl _) _
 have hk:=Sl.of_own (own_lit wk31 wk31.heap.size 50 4 1 #[.int .i64 7,.int .i64 0,.int .i64 0,.int .i64 30] (Nat.le_refl _) rfl (by simp [maxLen]))
 change Sl _ _ 4 _ 1 1 (flatBk [⟨7,0,0,30⟩]) at hk
 obtain ⟨bhk,hbhk⟩:∃ q,wk31.heap.size = q:=⟨_,rfl⟩
 have hshk:(wk31.alloc (.cells #[.int .i64 7,.int .i64 0,.int .i64 0,.int .i64 30] 50)).heap.size = bhk + 1:=by rw [← hbhk]; simp
 replace fs:=fs.up hb
 replace fa:=fa.up hb
 replace fb:=fb.up hb
 replace fc:=fc.up hb
 replace fd:=fd.up hb
 replace fp:=fp.up hb
 replace xs:=xs.below hb xs.lt
 replace ys:=ys.below hb ys.lt
 replace xa:=xa.below hb xa.lt
 replace xb:=xb.below hb xb.lt
 replace xc:=xc.below hb xc.lt
 replace xd:=xd.below hb xd.lt
 replace yd:=yd.below hb yd.lt
 replace xp:=xp.below hb xp.lt
 replace hB:=hB.trans (hb.mono hB.size)
 clear hb
 generalize wk31.alloc (.cells #[.int .i64 7,.int .i64 0,.int .i64 0,.int .i64 30] 50) = wk32 at *
 rw [hbhk] at hk
 try rw [hbhk]
 clear hbhk
 try clear hshk
 refine (Kb.rsame9_any Aba (some ⟨bhk,0,none⟩) 1 cba 1 1 [⟨7,0,0,30⟩] [⟨7,0,0,30⟩] wk32 rfl rfl (by omega) fa.sb hk).mono ?_
 rintro e wk33 ⟨rfl,hb⟩
 replace fs:=fs.up hb
 replace fa:=fa.up hb
 replace fb:=fb.up hb
 replace fc:=fc.up hb
 replace fd:=fd.up hb
 replace fp:=fp.up hb
 replace hk:=hk.up hb
 replace xs:=xs.below hb xs.lt
 replace ys:=ys.below hb ys.lt
 replace xa:=xa.below hb xa.lt
 replace xb:=xb.below hb xb.lt
 replace xc:=xc.below hb xc.lt
 replace xd:=xd.below hb xd.lt
 replace yd:=yd.below hb yd.lt
 replace xp:=xp.below hb xp.lt
 replace hB:=hB.trans (hb.mono hB.size)
 clear hb
 go_wp2_with fail
 go_ret
 exact ⟨rfl,hB⟩
end Go.Proofs.YtjldgcebadojiaaGreatDoor
