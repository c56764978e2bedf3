/- Time once, or twice: StateTime returns true. It reads tables of the library's. -/
import Derived.Test.YtjldgcebadojiaaGreatDoorSmall21
import Derived.Test.YtjldgcebadojiaaGreatDoorGQ23
import Derived.Test.YtjldgcebadojiaaGreatDoorGQ25
import Derived.Test.YtjldgcebadojiaaGreatDoorRows
import Derived.Test.YtjldgcebadojiaaGreatDoorTie
import Derived.Test.YtjldgcebadojiaaGreatDoorCards
import Derived.Test.YtjldgcebadojiaaGreatDoorGQ26
namespace Go.Proofs.YtjldgcebadojiaaGreatDoor
open Go.ChangeShapes Go.WideShapes Go.ChangeAt Go.RowKit Go.Sort
set_option linter.unusedSimpArgs false
set_option linter.unusedVariables false
set_option maxHeartbeats 16000000 in
set_option maxRecDepth 100000 in
theorem stateTime_w (A1:Option Addr) (n1 c1:Nat) (A:Option Addr) (n c:Nat) (Ab:Option Addr) (nb cb:Nat) (s:St) (now later:Int) (w:World) (hd1:s.p.cs.length = n1) (hd:s.p.rs.length = n) (hdb:s.b.length = nb) (h1:Sl w w.heap.size 6 A1 n1 c1 (flatCo s.p.cs)) (h2:Sl w w.heap.size 5 A n c (flatRg s.p.rs)) (h3:Sl w w.heap.size 4 Ab nb cb (flatBk s.b)) (hm:MaxAt w) :
  Calls Tryz.prog 8 #[.agg #[.slice A1 n1 c1,.slice A n c,.int .i64 s.p.clk,.int .i64 s.p.ver,.slice Ab nb cb],.int .i64 now,.int .i64 later] w fun e w' => e = .returned (.bool true) ∧ Below w.heap.size w w':=by
 have hB:Below w.heap.size w (w.alloc (.cells #[.slice A1 n1 c1,.slice A n c,.int .i64 s.p.clk,.int .i64 s.p.ver,.slice Ab nb cb] 28)):=by (repeat (first | exact Below.refl _ _ | refine Below.alloc ?_ (by first | omega | (simp; done) | (simp; omega)) _ | refine Below.setCell ?_ (by first | omega | (simp; done) | (simp; omega)) _ | refine Below.drew ?_))
 have xs:=Blok.new w 28 #[.slice A1 n1 c1,.slice A n c,.int .i64 s.p.clk,.int .i64 s.p.ver,.slice Ab nb cb]
 replace h1:=h1.up hB
 replace h2:=h2.up hB
 replace h3:=h3.up hB
 have HMX:=Lib.hid hm
 have HD1:=Lib.hid hd1
 have HD2:=Lib.hid hd
 have HD3:=Lib.hid hdb
 clear hm hd1 hd hdb
 go_enter Tryz.func8,Tryz.ntmps8
 go_upto_region 1 with fail
 generalize w.alloc (.cells #[.slice A1 n1 c1,.slice A n c,.int .i64 s.p.clk,.int .i64 s.p.ver,.slice Ab nb cb] 28) = w0 at *
 obtain ⟨bxs,hbS⟩:∃ z,w.heap.size = z:=⟨_,rfl⟩
 rw [hbS] at xs
 try rw [hbS]
 clear hbS
 go_wp2_with fail
 refine (small21_any w0 (HMX.out.below hB)).mono ?_
 rintro e wk1 ⟨rfl,hb⟩
 replace h1:=h1.up hb
 replace h2:=h2.up hb
 replace h3:=h3.up hb
 replace xs:=xs.below hb xs.lt
 replace hB:=hB.trans (hb.mono hB.size)
 clear hb
 have xs_c0:=(xs.cell 0:wk1.cell? ⟨bxs,0,none⟩ = some (.slice A1 n1 c1))
 have xs_c1:=(xs.cell 1:wk1.cell? ⟨bxs,1,none⟩ = some (.slice A n c))
 have xs_c2:=(xs.cell 2:wk1.cell? ⟨bxs,2,none⟩ = some (.int .i64 s.p.clk))
 have xs_c3:=(xs.cell 3:wk1.cell? ⟨bxs,3,none⟩ = some (.int .i64 s.p.ver))
 have xs_c4:=(xs.cell 4:wk1.cell? ⟨bxs,4,none⟩ = some (.slice Ab nb cb))
 have xs_lt:=xs.lt
 go_wp2_with fail
 try clear xs_c0 xs_c1 xs_c2 xs_c3 xs_c4 xs_lt
 refine (few21_any A1 n1 c1 A n c s.p.clk s.p.ver Ab nb cb wk1 _ rfl).mono ?_
 rintro e wk2 ⟨rfl,hb⟩
 replace h1:=h1.up hb
 replace h2:=h2.up hb
 replace h3:=h3.up hb
 replace xs:=xs.below hb xs.lt
 replace hB:=hB.trans (hb.mono hB.size)
 clear hb
 by_cases hf:¬ (n1 ≤ 50 ∧ n ≤ 50 ∧ nb ≤ 50)
 ·rw [decide_eq_false hf]
  go_wp2_with fail
  go_ret
  exact ⟨rfl,hB⟩
 replace hf:=Decidable.not_not.1 hf
 rw [decide_eq_true hf]
 obtain ⟨hf1,hf2,hf3⟩:=hf
 have fs:StAt wk2 A1 n1 c1 A n c s.p.clk s.p.ver Ab nb cb s:=⟨⟨HD1.out,HD2.out,by omega,by omega,h1,h2⟩,rfl,rfl,HD3.out,by omega,h3⟩
 clear h1
 clear h2
 clear h3
 by_cases hlt:later < now
 ·go_wp2_with fail
  go_ret
  exact ⟨rfl,hB⟩
 have xs_c0:=(xs.cell 0:wk2.cell? ⟨bxs,0,none⟩ = some (.slice A1 n1 c1))
 have xs_c1:=(xs.cell 1:wk2.cell? ⟨bxs,1,none⟩ = some (.slice A n c))
 have xs_c2:=(xs.cell 2:wk2.cell? ⟨bxs,2,none⟩ = some (.int .i64 s.p.clk))
 have xs_c3:=(xs.cell 3:wk2.cell? ⟨bxs,3,none⟩ = some (.int .i64 s.p.ver))
 have xs_c4:=(xs.cell 4:wk2.cell? ⟨bxs,4,none⟩ = some (.slice Ab nb cb))
 have xs_lt:=xs.lt
 go_wp2_with fail
 try clear xs_c0 xs_c1 xs_c2 xs_c3 xs_c4 xs_lt
 obtain ⟨rb,hrb⟩:∃ z,rightS s = z:=⟨_,rfl⟩
 have HR:=Lib.hid hrb
 clear hrb
 refine (sright_any A1 n1 c1 A n c s.p.clk s.p.ver Ab nb cb s wk2 fs rb HR.out).mono ?_
 rintro e wk3 ⟨rfl,hb⟩
 replace fs:=fs.up hb
 replace xs:=xs.below hb xs.lt
 replace hB:=hB.trans (hb.mono hB.size)
 clear hb
 by_cases hrb:rb = true
 rotate_left
 ·obtain rfl:rb = false:=by simpa using hrb
  go_wp2_with fail
  go_ret
  exact ⟨rfl,hB⟩
 subst hrb
 have HRA:Hid (rightS (advS s now) = true):=advS_right HR.out
 obtain ⟨a,ha⟩:∃ z,advS s now = z:=⟨_,rfl⟩
 obtain ⟨q,hq⟩:∃ z,advQ s.p now = z:=⟨_,rfl⟩
 have HA:=Lib.hid ha
 have HQ:=Lib.hid hq
 rw [ha] at HRA
 clear ha hq
 have xs_c0:=(xs.cell 0:wk3.cell? ⟨bxs,0,none⟩ = some (.slice A1 n1 c1))
 have xs_c1:=(xs.cell 1:wk3.cell? ⟨bxs,1,none⟩ = some (.slice A n c))
 have xs_c2:=(xs.cell 2:wk3.cell? ⟨bxs,2,none⟩ = some (.int .i64 s.p.clk))
 have xs_c3:=(xs.cell 3:wk3.cell? ⟨bxs,3,none⟩ = some (.int .i64 s.p.ver))
 have xs_c4:=(xs.cell 4:wk3.cell? ⟨bxs,4,none⟩ = some (.slice Ab nb cb))
 have xs_lt:=xs.lt
 go_wp2_with fail
 try clear xs_c0 xs_c1 xs_c2 xs_c3 xs_c4 xs_lt
 refine (sadv_any A1 n1 c1 A n c s.p.clk s.p.ver Ab nb cb s now wk3 fs HR.out a q HA.out HQ.out).mono ?_
 rintro e wk4 h9
 obtain ⟨A1a,n1a,c1a,Aa,na,ca,Aba,nba,cba,rfl,fa,hb⟩:=h9
 replace fa:=fa.at_
 replace fs:=fs.up hb
 replace xs:=xs.below hb xs.lt
 replace hB:=hB.trans (hb.mono hB.size)
 clear hb
 go_upto_region 6 with fail
 have hb:Below wk4.heap.size wk4 (wk4.alloc (.cells #[.slice A1a n1a c1a,.slice Aa na ca,.int .i64 a.p.clk,.int .i64 a.p.ver,.slice Aba nba cba] 28)):=(Below.refl _ _).alloc (Nat.le_refl _) _
 have xa:=Blok.new wk4 28 #[.slice A1a n1a c1a,.slice Aa na ca,.int .i64 a.p.clk,.int .i64 a.p.ver,.slice Aba nba cba]
 obtain ⟨bxa,hbxa⟩:∃ q,wk4.heap.size = q:=⟨_,rfl⟩
 have hsxa:(wk4.alloc (.cells #[.slice A1a n1a c1a,.slice Aa na ca,.int .i64 a.p.clk,.int .i64 a.p.ver,.slice Aba nba cba] 28)).heap.size = bxa + 1:=by rw [← hbxa]; simp
 replace fs:=fs.up hb
 replace fa:=fa.up hb
 replace xs:=xs.below hb xs.lt
 replace hB:=hB.trans (hb.mono hB.size)
 clear hb
 generalize wk4.alloc (.cells #[.slice A1a n1a c1a,.slice Aa na ca,.int .i64 a.p.clk,.int .i64 a.p.ver,.slice Aba nba cba] 28) = wk5 at *
 rw [hbxa] at xa
 try rw [hbxa]
 clear hbxa
 by_cases hq0:q = 0
 rotate_left
 ·skip
  have hq1:(q != 0) = true:=by simpa using hq0
  have hsa:s = a:=by
   rw [← HA.out]
   have e1:=adv_same (p:=s.p) (now:=now) (by rw [HQ.out]; exact hq0)
   have e2:advG s.p now = []:=by
    unfold advG
    rw [if_neg (fun hi => hq0 (by rw [← HQ.out]; unfold advQ; rw [if_pos hi]))]
   unfold advS
   rw [e1,e2]
   unfold Kb.dropL
   exact (congrArg (St.mk s.p) (List.filter_eq_self.2 fun x _ => by unfold Kb.inL; simp)).symm
  subst hsa
  try clear hsxa
  have xa_c0:=(xa.cell 0:wk5.cell? ⟨bxa,0,none⟩ = some (.slice A1a n1a c1a))
  have xa_c1:=(xa.cell 1:wk5.cell? ⟨bxa,1,none⟩ = some (.slice Aa na ca))
  have xa_c2:=(xa.cell 2:wk5.cell? ⟨bxa,2,none⟩ = some (.int .i64 s.p.clk))
  have xa_c3:=(xa.cell 3:wk5.cell? ⟨bxa,3,none⟩ = some (.int .i64 s.p.ver))
  have xa_c4:=(xa.cell 4:wk5.cell? ⟨bxa,4,none⟩ = some (.slice Aba nba cba))
  have xa_lt:=xa.lt
  have xs_c0:=(xs.cell 0:wk5.cell? ⟨bxs,0,none⟩ = some (.slice A1 n1 c1))
  have xs_c1:=(xs.cell 1:wk5.cell? ⟨bxs,1,none⟩ = some (.slice A n c))
  have xs_c2:=(xs.cell 2:wk5.cell? ⟨bxs,2,none⟩ = some (.int .i64 s.p.clk))
  have xs_c3:=(xs.cell 3:wk5.cell? ⟨bxs,3,none⟩ = some (.int .i64 s.p.ver))
  have xs_c4:=(xs.cell 4:wk5.cell? ⟨bxs,4,none⟩ = some (.slice Ab nb cb))
  have xs_lt:=xs.lt
  go_wp2_with fail
  try clear xa_c0 xa_c1 xa_c2 xa_c3 xa_c4 xa_lt xs_c0 xs_c1 xs_c2 xs_c3 xs_c4 xs_lt
  refine (ssame_any A1a n1a c1a Aa na ca s.p.clk s.p.ver Aba nba cba s A1 n1 c1 A n c s.p.clk s.p.ver Ab nb cb s wk5 fa fs true (sameSB_refl _)).mono ?_
  rintro e wk6 ⟨rfl,hb⟩
  replace fs:=fs.up hb
  replace fa:=fa.up hb
  replace xs:=xs.below hb xs.lt
  replace xa:=xa.below hb xa.lt
  replace hB:=hB.trans (hb.mono hB.size)
  clear hb
  go_wp2_with fail
  go_ret
  exact ⟨rfl,hB⟩
 subst hq0
 have hlt2:now ≤ later:=by omega
 have HF:Hid (advQ a.p later = advQ s.p later):=by rw [← HA.out]; exact later_q HQ.out hlt2
 obtain ⟨b,hb0⟩:∃ z,advS a later = z:=⟨_,rfl⟩
 obtain ⟨d,hd0⟩:∃ z,advS s later = z:=⟨_,rfl⟩
 obtain ⟨g,hg0⟩:∃ z,advQ s.p later = z:=⟨_,rfl⟩
 have HBB:=Lib.hid hb0
 have HDD:=Lib.hid hd0
 have HG:=Lib.hid hg0
 clear hb0 hd0 hg0
 try clear hsxa
 have xa_c0:=(xa.cell 0:wk5.cell? ⟨bxa,0,none⟩ = some (.slice A1a n1a c1a))
 have xa_c1:=(xa.cell 1:wk5.cell? ⟨bxa,1,none⟩ = some (.slice Aa na ca))
 have xa_c2:=(xa.cell 2:wk5.cell? ⟨bxa,2,none⟩ = some (.int .i64 a.p.clk))
 have xa_c3:=(xa.cell 3:wk5.cell? ⟨bxa,3,none⟩ = some (.int .i64 a.p.ver))
 have xa_c4:=(xa.cell 4:wk5.cell? ⟨bxa,4,none⟩ = some (.slice Aba nba cba))
 have xa_lt:=xa.lt
 go_wp2_with fail
 try clear xa_c0 xa_c1 xa_c2 xa_c3 xa_c4 xa_lt
 refine (sadv_any A1a n1a c1a Aa na ca a.p.clk a.p.ver Aba nba cba a later wk5 fa HRA.out b g HBB.out (HF.out.trans HG.out)).mono ?_
 rintro e wk6 h9
 obtain ⟨A1e,n1e,c1e,Ae,ne,ce,Abe,nbe,cbe,rfl,fe,hb⟩:=h9
 replace fe:=fe.at_
 replace fs:=fs.up hb
 replace fa:=fa.up hb
 replace xs:=xs.below hb xs.lt
 replace xa:=xa.below hb xa.lt
 replace hB:=hB.trans (hb.mono hB.size)
 clear hb
 go_upto_region 9 with fail
 have hb:Below wk6.heap.size wk6 (wk6.alloc (.cells #[.slice A1e n1e c1e,.slice Ae ne ce,.int .i64 b.p.clk,.int .i64 b.p.ver,.slice Abe nbe cbe] 28)):=(Below.refl _ _).alloc (Nat.le_refl _) _
 have xe:=Blok.new wk6 28 #[.slice A1e n1e c1e,.slice Ae ne ce,.int .i64 b.p.clk,.int .i64 b.p.ver,.slice Abe nbe cbe]
 obtain ⟨bxe,hbxe⟩:∃ q,wk6.heap.size = q:=⟨_,rfl⟩
 have hsxe:(wk6.alloc (.cells #[.slice A1e n1e c1e,.slice Ae ne ce,.int .i64 b.p.clk,.int .i64 b.p.ver,.slice Abe nbe cbe] 28)).heap.size = bxe + 1:=by rw [← hbxe]; simp
 replace fs:=fs.up hb
 replace fa:=fa.up hb
 replace fe:=fe.up hb
 replace xs:=xs.below hb xs.lt
 replace xa:=xa.below hb xa.lt
 replace hB:=hB.trans (hb.mono hB.size)
 clear hb
 generalize wk6.alloc (.cells #[.slice A1e n1e c1e,.slice Ae ne ce,.int .i64 b.p.clk,.int .i64 b.p.ver,.slice Abe nbe cbe] 28) = wk7 at *
 rw [hbxe] at xe
 try rw [hbxe]
 clear hbxe
 try clear hsxe
 have xs_c0:=(xs.cell 0:wk7.cell? ⟨bxs,0,none⟩ = some (.slice A1 n1 c1))
 have xs_c1:=(xs.cell 1:wk7.cell? ⟨bxs,1,none⟩ = some (.slice A n c))
 have xs_c2:=(xs.cell 2:wk7.cell? ⟨bxs,2,none⟩ = some (.int .i64 s.p.clk))
 have xs_c3:=(xs.cell 3:wk7.cell? ⟨bxs,3,none⟩ = some (.int .i64 s.p.ver))
 have xs_c4:=(xs.cell 4:wk7.cell? ⟨bxs,4,none⟩ = some (.slice Ab nb cb))
 have xs_lt:=xs.lt
 go_wp2_with fail
 try clear xs_c0 xs_c1 xs_c2 xs_c3 xs_c4 xs_lt
 refine (sadv_any A1 n1 c1 A n c s.p.clk s.p.ver Ab nb cb s later wk7 fs HR.out d g HDD.out HG.out).mono ?_
 rintro e wk8 h9
 obtain ⟨A1d,n1d,c1d,Ad,nd,cd,Abd,nbd,cbd,rfl,fd,hb⟩:=h9
 replace fd:=fd.at_
 replace fs:=fs.up hb
 replace fa:=fa.up hb
 replace fe:=fe.up hb
 replace xs:=xs.below hb xs.lt
 replace xa:=xa.below hb xa.lt
 replace xe:=xe.below hb xe.lt
 replace hB:=hB.trans (hb.mono hB.size)
 clear hb
 go_upto_region 10 with fail
 have hb:Below wk8.heap.size wk8 (wk8.alloc (.cells #[.slice A1d n1d c1d,.slice Ad nd cd,.int .i64 d.p.clk,.int .i64 d.p.ver,.slice Abd nbd cbd] 28)):=(Below.refl _ _).alloc (Nat.le_refl _) _
 have xd:=Blok.new wk8 28 #[.slice A1d n1d c1d,.slice Ad nd cd,.int .i64 d.p.clk,.int .i64 d.p.ver,.slice Abd nbd cbd]
 obtain ⟨bxd,hbxd⟩:∃ q,wk8.heap.size = q:=⟨_,rfl⟩
 have hsxd:(wk8.alloc (.cells #[.slice A1d n1d c1d,.slice Ad nd cd,.int .i64 d.p.clk,.int .i64 d.p.ver,.slice Abd nbd cbd] 28)).heap.size = bxd + 1:=by rw [← hbxd]; simp
 replace fs:=fs.up hb
 replace fa:=fa.up hb
 replace fe:=fe.up hb
 replace fd:=fd.up hb
 replace xs:=xs.below hb xs.lt
 replace xa:=xa.below hb xa.lt
 replace xe:=xe.below hb xe.lt
 replace hB:=hB.trans (hb.mono hB.size)
 clear hb
 generalize wk8.alloc (.cells #[.slice A1d n1d c1d,.slice Ad nd cd,.int .i64 d.p.clk,.int .i64 d.p.ver,.slice Abd nbd cbd] 28) = wk9 at *
 rw [hbxd] at xd
 try rw [hbxd]
 clear hbxd
 by_cases hg1:g = 0
 rotate_left
 ·skip
  have hg2:(g != 0) = true:=by simpa using hg1
  try clear hsxd
  go_wp2_with fail
  go_ret
  exact ⟨rfl,hB⟩
 subst hg1
 have hcs:b.p.cs = d.p.cs:=by rw [← HBB.out,← HDD.out,← HA.out]; exact later_cs HQ.out HG.out hlt2
 have hbs:b.b = d.b:=by rw [← HBB.out,← HDD.out,← HA.out]; exact later_b HQ.out HG.out hlt2
 have hck:b.p.clk = d.p.clk:=by
  rw [← HBB.out,← HDD.out]
  exact (adv_clk (HF.out.trans HG.out)).1.trans (adv_clk HG.out).1.symm
 have HCS:=Lib.hid hcs
 have HBS:=Lib.hid hbs
 rw [hck] at fe xe
 have hl1:=fe.pl.l1
 have hl2:=fd.pl.l1
 have hl3:=fe.lb
 have hl4:=fd.lb
 have hl5:=fe.pl.b1
 have hl6:=fd.pl.b1
 have hl7:=fe.bb
 have hl8:=fd.bb
 clear hcs hbs hck
 try clear hsxd
 have xe_c0:=(xe.cell 0:wk9.cell? ⟨bxe,0,none⟩ = some (.slice A1e n1e c1e))
 have xe_c1:=(xe.cell 1:wk9.cell? ⟨bxe,1,none⟩ = some (.slice Ae ne ce))
 have xe_c2:=(xe.cell 2:wk9.cell? ⟨bxe,2,none⟩ = some (.int .i64 d.p.clk))
 have xe_c3:=(xe.cell 3:wk9.cell? ⟨bxe,3,none⟩ = some (.int .i64 b.p.ver))
 have xe_c4:=(xe.cell 4:wk9.cell? ⟨bxe,4,none⟩ = some (.slice Abe nbe cbe))
 have xe_lt:=xe.lt
 have xd_c0:=(xd.cell 0:wk9.cell? ⟨bxd,0,none⟩ = some (.slice A1d n1d c1d))
 have xd_c1:=(xd.cell 1:wk9.cell? ⟨bxd,1,none⟩ = some (.slice Ad nd cd))
 have xd_c2:=(xd.cell 2:wk9.cell? ⟨bxd,2,none⟩ = some (.int .i64 d.p.clk))
 have xd_c3:=(xd.cell 3:wk9.cell? ⟨bxd,3,none⟩ = some (.int .i64 d.p.ver))
 have xd_c4:=(xd.cell 4:wk9.cell? ⟨bxd,4,none⟩ = some (.slice Abd nbd cbd))
 have xd_lt:=xd.lt
 go_wp2_with fail
 try clear xe_c0 xe_c1 xe_c2 xe_c3 xe_c4 xe_lt xd_c0 xd_c1 xd_c2 xd_c3 xd_c4 xd_lt
 refine (Kc.same_any A1e A1d n1e c1e n1d c1d b.p.cs d.p.cs wk9 hl1 hl2 (by omega) (by omega) fe.pl.s1 fd.pl.s1).mono ?_
 rintro e wk10 ⟨rfl,hb⟩
 replace fs:=fs.up hb
 replace fa:=fa.up hb
 replace fe:=fe.up hb
 replace fd:=fd.up hb
 replace xs:=xs.below hb xs.lt
 replace xa:=xa.below hb xa.lt
 replace xe:=xe.below hb xe.lt
 replace xd:=xd.below hb xd.lt
 replace hB:=hB.trans (hb.mono hB.size)
 clear hb
 rw [decide_eq_true HCS.out]
 have xe_c0:=(xe.cell 0:wk10.cell? ⟨bxe,0,none⟩ = some (.slice A1e n1e c1e))
 have xe_c1:=(xe.cell 1:wk10.cell? ⟨bxe,1,none⟩ = some (.slice Ae ne ce))
 have xe_c2:=(xe.cell 2:wk10.cell? ⟨bxe,2,none⟩ = some (.int .i64 d.p.clk))
 have xe_c3:=(xe.cell 3:wk10.cell? ⟨bxe,3,none⟩ = some (.int .i64 b.p.ver))
 have xe_c4:=(xe.cell 4:wk10.cell? ⟨bxe,4,none⟩ = some (.slice Abe nbe cbe))
 have xe_lt:=xe.lt
 have xd_c0:=(xd.cell 0:wk10.cell? ⟨bxd,0,none⟩ = some (.slice A1d n1d c1d))
 have xd_c1:=(xd.cell 1:wk10.cell? ⟨bxd,1,none⟩ = some (.slice Ad nd cd))
 have xd_c2:=(xd.cell 2:wk10.cell? ⟨bxd,2,none⟩ = some (.int .i64 d.p.clk))
 have xd_c3:=(xd.cell 3:wk10.cell? ⟨bxd,3,none⟩ = some (.int .i64 d.p.ver))
 have xd_c4:=(xd.cell 4:wk10.cell? ⟨bxd,4,none⟩ = some (.slice Abd nbd cbd))
 have xd_lt:=xd.lt
 go_wp2_with fail
 try clear xe_c0 xe_c1 xe_c2 xe_c3 xe_c4 xe_lt xd_c0 xd_c1 xd_c2 xd_c3 xd_c4 xd_lt
 refine (Kb.same_any Abe Abd nbe cbe nbd cbd b.b d.b wk10 hl3 hl4 (by omega) (by omega) fe.sb fd.sb).mono ?_
 rintro e wk11 ⟨rfl,hb⟩
 replace fs:=fs.up hb
 replace fa:=fa.up hb
 replace fe:=fe.up hb
 replace fd:=fd.up hb
 replace xs:=xs.below hb xs.lt
 replace xa:=xa.below hb xa.lt
 replace xe:=xe.below hb xe.lt
 replace xd:=xd.below hb xd.lt
 replace hB:=hB.trans (hb.mono hB.size)
 clear hb
 rw [decide_eq_true HBS.out]
 have xe_c0:=(xe.cell 0:wk11.cell? ⟨bxe,0,none⟩ = some (.slice A1e n1e c1e))
 have xe_c1:=(xe.cell 1:wk11.cell? ⟨bxe,1,none⟩ = some (.slice Ae ne ce))
 have xe_c2:=(xe.cell 2:wk11.cell? ⟨bxe,2,none⟩ = some (.int .i64 d.p.clk))
 have xe_c3:=(xe.cell 3:wk11.cell? ⟨bxe,3,none⟩ = some (.int .i64 b.p.ver))
 have xe_c4:=(xe.cell 4:wk11.cell? ⟨bxe,4,none⟩ = some (.slice Abe nbe cbe))
 have xe_lt:=xe.lt
 have xd_c0:=(xd.cell 0:wk11.cell? ⟨bxd,0,none⟩ = some (.slice A1d n1d c1d))
 have xd_c1:=(xd.cell 1:wk11.cell? ⟨bxd,1,none⟩ = some (.slice Ad nd cd))
 have xd_c2:=(xd.cell 2:wk11.cell? ⟨bxd,2,none⟩ = some (.int .i64 d.p.clk))
 have xd_c3:=(xd.cell 3:wk11.cell? ⟨bxd,3,none⟩ = some (.int .i64 d.p.ver))
 have xd_c4:=(xd.cell 4:wk11.cell? ⟨bxd,4,none⟩ = some (.slice Abd nbd cbd))
 have xd_lt:=xd.lt
 go_wp2_with fail
 try clear xe_c0 xe_c1 xe_c2 xe_c3 xe_c4 xe_lt xd_c0 xd_c1 xd_c2 xd_c3 xd_c4 xd_lt
 go_ret
 exact ⟨rfl,hB⟩
theorem stateTime_walk (A1:Option Addr) (n1 c1:Nat) (ns1:List Int) (A:Option Addr) (n c:Nat) (ns:List Int) (clk ver:Int) (Ab:Option Addr) (nb cb:Nat) (os:List Int) (now later:Int) (hnl1:ns1.length = n1 * 6) (_:∀ m ∈ ns1,(Lit.int .i64 m).wf = true) (hnl:ns.length = n * 5) (_:∀ m ∈ ns,(Lit.int .i64 m).wf = true) (_:(Lit.int .i64 clk).wf = true) (_:(Lit.int .i64 ver).wf = true) (hol:os.length = nb * 4) (_:∀ m ∈ os,(Lit.int .i64 m).wf = true) (_:(Lit.int .i64 now).wf = true) (_:(Lit.int .i64 later).wf = true) (w:World) (hm:MaxAt w)
  (h1:Sl w w.heap.size 6 A1 n1 c1 (ns1.map (Value.int .i64))) (h:Sl w w.heap.size 5 A n c (ns.map (Value.int .i64))) (h3:Sl w w.heap.size 4 Ab nb cb (os.map (Value.int .i64)))  :
  Calls Tryz.prog 8 #[.agg #[.slice A1 n1 c1,.slice A n c,.int .i64 clk,.int .i64 ver,.slice Ab nb cb],.int .i64 now,.int .i64 later] w fun e w' => e = .returned (.bool true) ∧ Below w.heap.size w w':=by
 obtain ⟨cs,hd1,hf1⟩:=rowsCo_of n1 ns1 hnl1
 obtain ⟨rs,hd,hf⟩:=rowsRg_of n ns hnl
 obtain ⟨bs,hdb,hfb⟩:=rowsBk_of nb os hol
 rw [hf1] at h1
 rw [hf] at h
 rw [hfb] at h3
 exact stateTime_w A1 n1 c1 A n c Ab nb cb ⟨⟨cs,rs,clk,ver⟩,bs⟩ now later w hd1 hd hdb h1 h h3 hm 
theorem stateTime_own:ownKnob Tryz.prog.godebug = none:=by kernel_rfl
theorem stateTime_laidOut:laidOutB Tryz.prog = true:=by kernel_rfl
set_option maxHeartbeats 1000000 in
set_option maxRecDepth 100000 in
theorem stateTime_lifted (os:Os) (started:os.Started) (H:Type) (enc:TypeId × Value → H) :
  ReturnsInHanded {} Tryz.checked os 8 .any (fun w args => (Rows.stateTimeSpec.pre enc Tryz.prog Tryz.f8 [] false w args ∧ laidMetH Tryz.prog Rows.stateTimeRow.laid w) ∧ sizedMet enc Tryz.prog Tryz.f8 (OpenSpec.ofChange Rows.stateTimeSpec) false w args)
   (Rows.stateTimeSpec.post enc Tryz.prog Tryz.f8 false true false false):=by
 refine returnsInHanded_of_change_and_shaped (C:=Tryz.checked) (X:=fun w _ => laidMetH Tryz.prog Rows.stateTimeRow.laid w) (fun _ _ _ hh h => h.of_heap hh) stateTime_own started (by kernel_rfl) Tryz.func8
  (ChangeSpec.witness_shaped (enc:=enc) (C:=Tryz.checked) (os:=os) (X:=fun w _ => laidMetH Tryz.prog Rows.stateTimeRow.laid w) false (World.laidAll Tryz.prog os Rows.stateTimeRow.laid) #[.agg #[.slice none 0 0,.slice none 0 0,.int .i64 0,.int .i64 0,.slice none 0 0],.int .i64 0,.int .i64 0] 8 (World.laidAll_os _ _ _) (World.shaped_of_ZipB (by kernel_rfl) (by kernel_rfl)) (by kernel_rfl) (by kernel_rfl) (by kernel_rfl) (by rw [MakeChecks.laidMetH_plain _ _ _ (by kernel_rfl)]; exact laidMet_laidAll _ (by kernel_rfl) (by kernel_rfl))) ?_
 intro W base args ds gs before hval0 hW _ _ _ hL _
 have hval:∀ (j:Nat) t v,Tryz.f8.params[j]? = some t → args[j]? = some v → Value.okWide Tryz.prog W .any base t v:=hval0
 have hW':=hW
 obtain ⟨p,q,hA0,hV,rfl,hfz,hnd⟩:=hW
 have hA:DataW.TrodAll enc Tryz.prog W 0 (fun _ => true) true Tryz.f8.params.toList args.toList ds p:=hA0
 rw [Tryz.params8] at hA hval
 obtain ⟨v0,vs0,d0,ds0,p0,q0,hargs,rfl,rfl,h0,r0⟩:=trodAll_cons hA
 obtain ⟨v1,vs1,d1,ds1,p1,q1,rfl,rfl,rfl,h1,r1⟩:=trodAll_cons r0
 obtain ⟨v2,vs2,d2,ds2,p2,q2,rfl,rfl,rfl,h2,r2⟩:=trodAll_cons r1
 obtain ⟨rfl,rfl,rfl⟩:=trodAll_nil r2
 obtain rfl:args = #[v0,v1,v2]:=by cases args; simp_all
 obtain ⟨rfl,rfl⟩:=trodVars_none hV
 obtain ⟨A0,n0,c0,ns0,B0,m0,k0,ms0,x0,y0,E0,z0,u0,os0,rfl,hl0,nl0,w0,hm0,ml0,wm0,wx0,wy0,ho0,ol0,wo0⟩:=open_state 4 (t:=25) (e0:=34) (e1:=36) (e2:=50) (K0:=6) (K1:=5) (K2:=4) Tryz.underlying28 (by kernel_rfl) (by kernel_rfl) Tryz.underlying25 (by kernel_rfl) (by kernel_rfl) (by kernel_rfl) (by kernel_rfl) (by kernel_rfl) (by kernel_rfl) (by kernel_rfl) (by kernel_rfl) (by kernel_rfl) (by kernel_rfl) (by omega) (by kernel_rfl) (by omega) (by kernel_rfl) (by omega) (hval 0 28 v0 rfl rfl) h0
 obtain ⟨a1,rfl,rfl,rfl,w1⟩:=open_int Tryz.underlying3 (hval 1 3 v1 rfl rfl) h1
 obtain ⟨a2,rfl,rfl,rfl,w2⟩:=open_int Tryz.underlying3 (hval 2 3 v2 rfl rfl) h2
 clear hA0 hval0
 refine (stateTime_walk A0 n0 c0 ns0 B0 m0 k0 ms0 x0 y0 E0 z0 u0 os0 a1 a2 nl0 w0 ml0 wm0 wx0 wy0 ol0 wo0 w1 w2 W (max_of_shaped hL) hl0 hm0 ho0).mono fun e W' ⟨he,bel⟩ => ?_
 subst he
 exact ⟨_,rfl,law_post stateTime_laidOut (by kernel_rfl) rfl Tryz.underlying4 rfl rfl hW' bel⟩

theorem stateTime_holds:Rows.StateTimeSaid:=
 OpenClaim.holds_of_wide 8 Tryz.f8 rfl rfl rfl rfl rfl rfl rfl ⟨rfl,rfl,rfl,rfl,rfl⟩ rfl rfl rfl rfl rfl (by kernel_rfl) Tryz.func8 (by kernel_rfl)
  (of_decide_eq_true (by kernel_rfl)) (by unfold Func.isWrapper; first | (rw [if_pos (by decide +kernel)]; kernel_rfl) | (rw [if_neg (by decide +kernel)]; exact ⟨rfl,rfl⟩))
  (fun os started H enc _ => stateTime_lifted os started H enc)

theorem stateTime_proved:Rows.StateTimeCardSaid:=
 Claim7.holds_tied_plain_at .later [] Rows.stateTimeCard.laidKinds true Rows.stateTimeCard.stood.harness false
  stateTime_holds (fun _ h => by cases h) (by kernel_rfl) (fun _ h => by cases h) stateTime_row_tie rfl ⟨rfl,rfl⟩ (by kernel_rfl) rfl
  (fun f fn hf hfn => by
   obtain rfl : f = 8 := Option.some.inj ((show Tryz.prog.funcNamed "felucca/feluccalaw21.StateTime" = some 8 by kernel_rfl).symm.trans hf) |>.symm
   obtain rfl:fn = Tryz.f8:=(Option.some.inj (Tryz.func8.symm.trans hfn)).symm
   exact ⟨by kernel_rfl,fun j t ht => by
    rw [Tryz.params8] at ht
    have hm:t ∈ [28,3,3]:=by simpa using Array.mem_of_getElem? ht
    have hall:([28,3,3].all fun u => !Tryz.prog.wantsStandIn u) = true:=by kernel_rfl
    exact (show Tryz.prog.wantsStandIn t = false by simpa using List.all_eq_true.1 hall t hm)⟩)
  (by kernel_rfl)
#print axioms stateTime_proved
end Go.Proofs.YtjldgcebadojiaaGreatDoor
