/- Several texts of mine in one: St7, St10, Sm21, Few21. No condition. -/
import Derived.Test.YtjldgcebadojiaaGreatDoorSt6
import Derived.Test.YtjldgcebadojiaaGreatDoorSt9
import Derived.Test.YtjldgcebadojiaaGreatDoorGQ10
import Derived.Test.YtjldgcebadojiaaGreatDoorGQ7
namespace Go.Proofs.YtjldgcebadojiaaGreatDoor
open Go.ChangeShapes Go.WideShapes Go.ChangeAt Go.RowKit Go.Sort
set_option linter.unusedSimpArgs false
set_option linter.unusedVariables false
set_option maxHeartbeats 8000000 in
set_option maxRecDepth 100000 in
theorem book1_any (A:Option Addr) (n c:Nat) (l:List Bk) (k:Co) (bC bZ:Nat) (tC tZ:TypeId) (cl sz:Int) (w:World) (hl:l.length = n) (hn:n ≤ 100000) (h:Sl w w.heap.size 4 A n c (flatBk l)) (hr:Kb.rightB l = true) (hC:Blok w bC tC #[.int .i64 cl]) (hZ:Blok w bZ tZ #[.int .i64 sz]) :
  Calls Tryz.prog 52 #[.slice A n c,.agg #[.int .i64 k.id,.int .i64 k.fr,.int .i64 k.tn,.int .i64 k.st,.int .i64 k.en,.int .i64 k.rt],.pointer (some ⟨bC,0,none⟩),.pointer (some ⟨bZ,0,none⟩)] w fun e w' => ∃ v,e = .returned (.tuple #[v,.bool (bookFn cl sz l k).2]) ∧ w'.ownsRow w.heap.size 50 4 v (bookFn cl sz l k).1.length (flatBk (bookFn cl sz l k).1) ∧ Below w.heap.size w w':=by
 have hB:Below w.heap.size w (w.alloc (.cells #[.int .i64 k.id,.int .i64 k.fr,.int .i64 k.tn,.int .i64 k.st,.int .i64 k.en,.int .i64 k.rt] 34)):=by (repeat (first | exact Below.refl _ _ | refine Below.alloc ?_ (by first | omega | (simp; done) | (simp; omega)) _ | refine Below.setCell ?_ (by first | omega | (simp; done) | (simp; omega)) _ | refine Below.drew ?_))
 have hK:=Blok.new w 34 #[.int .i64 k.id,.int .i64 k.fr,.int .i64 k.tn,.int .i64 k.st,.int .i64 k.en,.int .i64 k.rt]
 replace hC:=hC.below hB hC.lt
 replace hZ:=hZ.below hB hZ.lt
 replace h:=h.up hB
 have hs:=hB.size
 obtain ⟨l2,hl2⟩:∃ z,(bookFn cl sz l k).1 = z:=⟨_,rfl⟩
 obtain ⟨o2,ho2⟩:∃ z,(bookFn cl sz l k).2 = z:=⟨_,rfl⟩
 rw [hl2,ho2]
 have HO2:=Lib.hid ho2
 have HL2:=Lib.hid hl2
 have HL:=Lib.hid hl
 have HR:=Lib.hid hr
 clear ho2 hl2 hl hr
 go_enter Tryz.func52,Tryz.ntmps52
 go_upto_region 1 with fail
 generalize w.alloc (.cells #[.int .i64 k.id,.int .i64 k.fr,.int .i64 k.tn,.int .i64 k.st,.int .i64 k.en,.int .i64 k.rt] 34) = w1 at *
 obtain ⟨bK,hbK⟩:∃ z,w.heap.size = z:=⟨_,rfl⟩
 rw [hbK] at hK
 try rw [hbK]
 clear hbK
 have k0:w1.cell? ⟨bK,0,none⟩ = some (.int .i64 k.id):=hK.cell 0
 have k1:w1.cell? ⟨bK,1,none⟩ = some (.int .i64 k.fr):=hK.cell 1
 have k2:w1.cell? ⟨bK,2,none⟩ = some (.int .i64 k.tn):=hK.cell 2
 have k3:w1.cell? ⟨bK,3,none⟩ = some (.int .i64 k.st):=hK.cell 3
 have k4:w1.cell? ⟨bK,4,none⟩ = some (.int .i64 k.en):=hK.cell 4
 have k5:w1.cell? ⟨bK,5,none⟩ = some (.int .i64 k.rt):=hK.cell 5
 have lt_k:=hK.lt
 have c0:w1.cell? ⟨bC,0,none⟩ = some (.int .i64 cl):=hC.cell 0
 have lt_c:=hC.lt
 have z0:w1.cell? ⟨bZ,0,none⟩ = some (.int .i64 sz):=hZ.cell 0
 have lt_z:=hZ.lt
 have HCON:=Lib.hid (Kb.book_any A n c l (ctK k) cl sz w1 HL.out (by omega) h HR.out o2 HO2.out l2 HL2.out)
 clear hK hC hZ h
 go_wp2_with fail
 refine HCON.out.mono ?_
 rintro e w2 ⟨v,rfl,hown,hb⟩
 clear k0 k1 k2 k3 k4 k5 lt_k c0 lt_c z0 lt_z HCON
 go_wp2
 first | go_ret2 | go_ret
 exact ⟨v,rfl,own_down hown hs,hB.trans (hb.mono hs)⟩
theorem do_book (bC bZ:Nat) (tC tZ:TypeId) (cl sz:Int) (w:World) (hC:Blok w bC tC #[.int .i64 cl]) (hZ:Blok w bZ tZ #[.int .i64 sz]):DoC 52 #[.pointer (some ⟨bC,0,none⟩),.pointer (some ⟨bZ,0,none⟩)] (bookFn cl sz) w:=
 ⟨enter_run Tryz.func52 rfl rfl,fun w' hb A n c l k hl hn h hr => book1_any A n c l k bC bZ tC tZ cl sz w' hl hn h hr (hC.below hb hC.lt) (hZ.below hb hZ.lt)⟩
set_option maxHeartbeats 8000000 in
set_option maxRecDepth 100000 in
theorem sbook_any (A1:Option Addr) (n1 c1:Nat) (A:Option Addr) (n c:Nat) (clk ver:Int) (Ab:Option Addr) (nb cb:Nat) (Ai:Option Addr) (mi ci:Nat) (ids:List Int) (cl sz:Int) (s:St) (w:World) (h:StAt w A1 n1 c1 A n c clk ver Ab nb cb s) (hn2:nb ≤ 90000) (hr:rightS s = true) (hmi:ids.length = mi) (hm:mi ≤ 1000) (hi:Sl w w.heap.size 1 Ai mi ci (ids.map (Value.int .i64))) (hiw:∀ k,k < mi → (Lit.int .i64 (ids.getD k 0)).wf = true) (s':St) (q:Int) (hs':eachS (bookFn cl sz) s ids cl sz = s') (hq:eachQ (bookFn cl sz) s ids cl sz = q) :
  Calls Tryz.prog 19 #[.agg #[.slice A1 n1 c1,.slice A n c,.int .i64 clk,.int .i64 ver,.slice Ab nb cb],.slice Ai mi ci,.int .i64 cl,.int .i64 sz] w (SRet s' q w):=by
 have hB:Below w.heap.size w ((((w.alloc (.cells #[.slice A1 n1 c1,.slice A n c,.int .i64 clk,.int .i64 ver,.slice Ab nb cb] 28)).alloc (.cells #[.int .i64 cl] 3)).alloc (.cells #[.int .i64 sz] 3)).alloc (.cells #[.slice none 0 0,.slice none 0 0,.int .i64 0,.int .i64 0,.slice none 0 0] 28)):=by (repeat (first | exact Below.refl _ _ | refine Below.alloc ?_ (by first | omega | (simp; done) | (simp; omega)) _ | refine Below.setCell ?_ (by first | omega | (simp; done) | (simp; omega)) _ | refine Below.drew ?_))
 have hP:=(((Blok.new w 28 #[.slice A1 n1 c1,.slice A n c,.int .i64 clk,.int .i64 ver,.slice Ab nb cb]).alloc (.cells #[.int .i64 cl] 3)).alloc (.cells #[.int .i64 sz] 3)).alloc (.cells #[.slice none 0 0,.slice none 0 0,.int .i64 0,.int .i64 0,.slice none 0 0] 28)
 have hC:=((Blok.new (w.alloc (.cells #[.slice A1 n1 c1,.slice A n c,.int .i64 clk,.int .i64 ver,.slice Ab nb cb] 28)) 3 #[.int .i64 cl]).alloc (.cells #[.int .i64 sz] 3)).alloc (.cells #[.slice none 0 0,.slice none 0 0,.int .i64 0,.int .i64 0,.slice none 0 0] 28)
 have hZ:=(Blok.new ((w.alloc (.cells #[.slice A1 n1 c1,.slice A n c,.int .i64 clk,.int .i64 ver,.slice Ab nb cb] 28)).alloc (.cells #[.int .i64 cl] 3)) 3 #[.int .i64 sz]).alloc (.cells #[.slice none 0 0,.slice none 0 0,.int .i64 0,.int .i64 0,.slice none 0 0] 28)
 have hX:=Blok.new (((w.alloc (.cells #[.slice A1 n1 c1,.slice A n c,.int .i64 clk,.int .i64 ver,.slice Ab nb cb] 28)).alloc (.cells #[.int .i64 cl] 3)).alloc (.cells #[.int .i64 sz] 3)) 28 #[.slice none 0 0,.slice none 0 0,.int .i64 0,.int .i64 0,.slice none 0 0]
 simp only [World.size_alloc] at hX hC hZ
 have hs:=hB.size
 replace h:=h.up hB
 replace hi:=hi.up hB
 have HR:=Lib.hid hr
 have HMI:=Lib.hid hmi
 have HIW:=Lib.hid hiw
 have HSE:=Lib.hid hs'
 have HQE:=Lib.hid hq
 clear hr hmi hiw hs' hq
 go_enter Tryz.func19,Tryz.ntmps19
 go_upto_region 1 with fail
 generalize (((w.alloc (.cells #[.slice A1 n1 c1,.slice A n c,.int .i64 clk,.int .i64 ver,.slice Ab nb cb] 28)).alloc (.cells #[.int .i64 cl] 3)).alloc (.cells #[.int .i64 sz] 3)).alloc (.cells #[.slice none 0 0,.slice none 0 0,.int .i64 0,.int .i64 0,.slice none 0 0] 28) = w0 at *
 obtain ⟨bR,hbR⟩:∃ z,w.heap.size + 1 + 1 + 1 = z:=⟨_,rfl⟩
 obtain ⟨bZ,hbZ⟩:∃ z,w.heap.size + 1 + 1 = z:=⟨_,rfl⟩
 obtain ⟨bC,hbC⟩:∃ z,w.heap.size + 1 = z:=⟨_,rfl⟩
 obtain ⟨bS,hbS⟩:∃ z,w.heap.size = z:=⟨_,rfl⟩
 rw [hbR] at hX
 rw [hbZ] at hZ
 rw [hbC] at hC
 rw [hbS] at hP
 try rw [hbR]
 try rw [hbZ]
 try rw [hbC]
 try rw [hbS]
 have hbo:w.heap.size ≤ bR:=by omega
 have HXX:=Lib.hid (fun (w':World) (hb:Below w0.heap.size w0 w') => (hX.below hb hX.lt))
 have HB:=Lib.hid hB
 have hlX:=hX.lt
 obtain ⟨p0,p1,p2,p3,p4,lt_p⟩:=blok5 hP
 have c0:w0.cell? ⟨bC,0,none⟩ = some (.int .i64 cl):=hC.cell 0
 have lt_c:=hC.lt
 have z0:w0.cell? ⟨bZ,0,none⟩ = some (.int .i64 sz):=hZ.cell 0
 have lt_z:=hZ.lt
 have HCON:=Lib.hid (seach_any (bookFn cl sz) (bookFn_ok cl sz) 52 #[.pointer (some ⟨bC,0,none⟩),.pointer (some ⟨bZ,0,none⟩)] A1 n1 c1 A n c clk ver Ab nb cb Ai mi ci ids cl sz s w0 h hn2 HR.out HMI.out hm hi HIW.out (do_book bC bZ _ _ cl sz w0 hC hZ) s' q HSE.out HQE.out)
 clear hX hP hC hZ h hi hB hbS hbR hbZ hbC
 go_wp2_with fail
 refine HCON.out.mono ?_
 rintro e w2 ⟨A6,n6,c6,A7,n7,c7,A8,n8,c8,rfl,hv,hb⟩
 clear p0 p1 p2 p3 p4 lt_p c0 lt_c z0 lt_z HCON
 obtain ⟨r0,r1,r2,r3,r4,lt_r⟩:=blok5 (HXX.out _ hb)
 obtain ⟨f0,f1,f2,f3,f4⟩:=free5 (HXX.out _ hb)
 have hX2:=HXX.out _ hb
 have hB2:=HB.out.trans (hb.mono hs)
 have HOF:Hid (StOwn w2 (bR + 1) A6 n6 c6 A7 n7 c7 s'.p.clk s'.p.ver A8 n8 c8 s'):=hv.down (by omega)
 clear hv hb
 go_wp2
 obtain ⟨hF,hWf,hgw⟩:=ret5 hX2 hB2 (by omega) (.slice A6 n6 c6) (.slice A7 n7 c7) (.int .i64 s'.p.clk) (.int .i64 s'.p.ver) (.slice A8 n8 c8)
 unfold set5 at hF hWf hgw
 have HO:=Lib.hid (StOwn.far HOF.out hgw (fun q hq => by injection hq with hq; omega))
 clear hgw hX2 hB2 HOF r0 r1 r2 r3 r4 lt_r f0 f1 f2 f3 f4
 generalize ((((w2.setCell ⟨bR,0,none⟩ (.slice A6 n6 c6)).setCell ⟨bR,1,none⟩ (.slice A7 n7 c7)).setCell ⟨bR,2,none⟩ (.int .i64 s'.p.clk)).setCell ⟨bR,3,none⟩ (.int .i64 s'.p.ver)).setCell ⟨bR,4,none⟩ (.slice A8 n8 c8) = wf at *
 obtain ⟨r0,r1,r2,r3,r4,hlF⟩:=blok5 hF
 go_wp2_with fail
 refine bodyPost_ret (v:=.tuple #[.agg #[.slice A6 n6 c6,.slice A7 n7 c7,.int .i64 s'.p.clk,.int .i64 s'.p.ver,.slice A8 n8 c8],.int .i64 q]) (by simp [results,Tryz.results19,go_sem,r0,r1,r2,r3,r4,hlF]) rfl ?_
 exact ⟨_,_,_,_,_,_,_,_,_,rfl,HO.out.down (show w.heap.size ≤ bR + 1 by omega),hWf⟩
set_option maxHeartbeats 8000000 in
set_option maxRecDepth 100000 in
theorem release1_any (A:Option Addr) (n c:Nat) (l:List Bk) (k:Co) (bC bZ:Nat) (tC tZ:TypeId) (cl sz:Int) (w:World) (hl:l.length = n) (hn:n ≤ 100000) (h:Sl w w.heap.size 4 A n c (flatBk l)) (hr:Kb.rightB l = true) (hC:Blok w bC tC #[.int .i64 cl]) (hZ:Blok w bZ tZ #[.int .i64 sz]) :
  Calls Tryz.prog 58 #[.slice A n c,.agg #[.int .i64 k.id,.int .i64 k.fr,.int .i64 k.tn,.int .i64 k.st,.int .i64 k.en,.int .i64 k.rt],.pointer (some ⟨bC,0,none⟩),.pointer (some ⟨bZ,0,none⟩)] w fun e w' => ∃ v,e = .returned (.tuple #[v,.bool (relFn cl sz l k).2]) ∧ w'.ownsRow w.heap.size 50 4 v (relFn cl sz l k).1.length (flatBk (relFn cl sz l k).1) ∧ Below w.heap.size w w':=by
 have hB:Below w.heap.size w (w.alloc (.cells #[.int .i64 k.id,.int .i64 k.fr,.int .i64 k.tn,.int .i64 k.st,.int .i64 k.en,.int .i64 k.rt] 34)):=by (repeat (first | exact Below.refl _ _ | refine Below.alloc ?_ (by first | omega | (simp; done) | (simp; omega)) _ | refine Below.setCell ?_ (by first | omega | (simp; done) | (simp; omega)) _ | refine Below.drew ?_))
 have hK:=Blok.new w 34 #[.int .i64 k.id,.int .i64 k.fr,.int .i64 k.tn,.int .i64 k.st,.int .i64 k.en,.int .i64 k.rt]
 replace hC:=hC.below hB hC.lt
 replace hZ:=hZ.below hB hZ.lt
 replace h:=h.up hB
 have hs:=hB.size
 obtain ⟨l2,hl2⟩:∃ z,(relFn cl sz l k).1 = z:=⟨_,rfl⟩
 obtain ⟨o2,ho2⟩:∃ z,(relFn cl sz l k).2 = z:=⟨_,rfl⟩
 rw [hl2,ho2]
 have HO2:=Lib.hid ho2
 have HL2:=Lib.hid hl2
 have HL:=Lib.hid hl
 have HR:=Lib.hid hr
 clear ho2 hl2 hl hr
 go_enter Tryz.func58,Tryz.ntmps58
 go_upto_region 1 with fail
 generalize w.alloc (.cells #[.int .i64 k.id,.int .i64 k.fr,.int .i64 k.tn,.int .i64 k.st,.int .i64 k.en,.int .i64 k.rt] 34) = w1 at *
 obtain ⟨bK,hbK⟩:∃ z,w.heap.size = z:=⟨_,rfl⟩
 rw [hbK] at hK
 try rw [hbK]
 clear hbK
 have k0:w1.cell? ⟨bK,0,none⟩ = some (.int .i64 k.id):=hK.cell 0
 have k1:w1.cell? ⟨bK,1,none⟩ = some (.int .i64 k.fr):=hK.cell 1
 have k2:w1.cell? ⟨bK,2,none⟩ = some (.int .i64 k.tn):=hK.cell 2
 have k3:w1.cell? ⟨bK,3,none⟩ = some (.int .i64 k.st):=hK.cell 3
 have k4:w1.cell? ⟨bK,4,none⟩ = some (.int .i64 k.en):=hK.cell 4
 have k5:w1.cell? ⟨bK,5,none⟩ = some (.int .i64 k.rt):=hK.cell 5
 have lt_k:=hK.lt
 have c0:w1.cell? ⟨bC,0,none⟩ = some (.int .i64 cl):=hC.cell 0
 have lt_c:=hC.lt
 have z0:w1.cell? ⟨bZ,0,none⟩ = some (.int .i64 sz):=hZ.cell 0
 have lt_z:=hZ.lt
 have HCON:=Lib.hid (Kb.rel_any A n c l k.id cl sz w1 HL.out (by omega) h HR.out o2 HO2.out l2 HL2.out)
 clear hK hC hZ h
 go_wp2_with fail
 refine HCON.out.mono ?_
 rintro e w2 ⟨v,rfl,hown,hb⟩
 clear k0 k1 k2 k3 k4 k5 lt_k c0 lt_c z0 lt_z HCON
 go_wp2
 first | go_ret2 | go_ret
 exact ⟨v,rfl,own_down hown hs,hB.trans (hb.mono hs)⟩
theorem do_release (bC bZ:Nat) (tC tZ:TypeId) (cl sz:Int) (w:World) (hC:Blok w bC tC #[.int .i64 cl]) (hZ:Blok w bZ tZ #[.int .i64 sz]):DoC 58 #[.pointer (some ⟨bC,0,none⟩),.pointer (some ⟨bZ,0,none⟩)] (relFn cl sz) w:=
 ⟨enter_run Tryz.func58 rfl rfl,fun w' hb A n c l k hl hn h hr => release1_any A n c l k bC bZ tC tZ cl sz w' hl hn h hr (hC.below hb hC.lt) (hZ.below hb hZ.lt)⟩
set_option maxHeartbeats 8000000 in
set_option maxRecDepth 100000 in
theorem srelease_any (A1:Option Addr) (n1 c1:Nat) (A:Option Addr) (n c:Nat) (clk ver:Int) (Ab:Option Addr) (nb cb:Nat) (Ai:Option Addr) (mi ci:Nat) (ids:List Int) (cl sz:Int) (s:St) (w:World) (h:StAt w A1 n1 c1 A n c clk ver Ab nb cb s) (hn2:nb ≤ 90000) (hr:rightS s = true) (hmi:ids.length = mi) (hm:mi ≤ 1000) (hi:Sl w w.heap.size 1 Ai mi ci (ids.map (Value.int .i64))) (hiw:∀ k,k < mi → (Lit.int .i64 (ids.getD k 0)).wf = true) (s':St) (q:Int) (hs':eachS (relFn cl sz) s ids cl sz = s') (hq:eachQ (relFn cl sz) s ids cl sz = q) :
  Calls Tryz.prog 22 #[.agg #[.slice A1 n1 c1,.slice A n c,.int .i64 clk,.int .i64 ver,.slice Ab nb cb],.slice Ai mi ci,.int .i64 cl,.int .i64 sz] w (SRet s' q w):=by
 have hB:Below w.heap.size w ((((w.alloc (.cells #[.slice A1 n1 c1,.slice A n c,.int .i64 clk,.int .i64 ver,.slice Ab nb cb] 28)).alloc (.cells #[.int .i64 cl] 3)).alloc (.cells #[.int .i64 sz] 3)).alloc (.cells #[.slice none 0 0,.slice none 0 0,.int .i64 0,.int .i64 0,.slice none 0 0] 28)):=by (repeat (first | exact Below.refl _ _ | refine Below.alloc ?_ (by first | omega | (simp; done) | (simp; omega)) _ | refine Below.setCell ?_ (by first | omega | (simp; done) | (simp; omega)) _ | refine Below.drew ?_))
 have hP:=(((Blok.new w 28 #[.slice A1 n1 c1,.slice A n c,.int .i64 clk,.int .i64 ver,.slice Ab nb cb]).alloc (.cells #[.int .i64 cl] 3)).alloc (.cells #[.int .i64 sz] 3)).alloc (.cells #[.slice none 0 0,.slice none 0 0,.int .i64 0,.int .i64 0,.slice none 0 0] 28)
 have hC:=((Blok.new (w.alloc (.cells #[.slice A1 n1 c1,.slice A n c,.int .i64 clk,.int .i64 ver,.slice Ab nb cb] 28)) 3 #[.int .i64 cl]).alloc (.cells #[.int .i64 sz] 3)).alloc (.cells #[.slice none 0 0,.slice none 0 0,.int .i64 0,.int .i64 0,.slice none 0 0] 28)
 have hZ:=(Blok.new ((w.alloc (.cells #[.slice A1 n1 c1,.slice A n c,.int .i64 clk,.int .i64 ver,.slice Ab nb cb] 28)).alloc (.cells #[.int .i64 cl] 3)) 3 #[.int .i64 sz]).alloc (.cells #[.slice none 0 0,.slice none 0 0,.int .i64 0,.int .i64 0,.slice none 0 0] 28)
 have hX:=Blok.new (((w.alloc (.cells #[.slice A1 n1 c1,.slice A n c,.int .i64 clk,.int .i64 ver,.slice Ab nb cb] 28)).alloc (.cells #[.int .i64 cl] 3)).alloc (.cells #[.int .i64 sz] 3)) 28 #[.slice none 0 0,.slice none 0 0,.int .i64 0,.int .i64 0,.slice none 0 0]
 simp only [World.size_alloc] at hX hC hZ
 have hs:=hB.size
 replace h:=h.up hB
 replace hi:=hi.up hB
 have HR:=Lib.hid hr
 have HMI:=Lib.hid hmi
 have HIW:=Lib.hid hiw
 have HSE:=Lib.hid hs'
 have HQE:=Lib.hid hq
 clear hr hmi hiw hs' hq
 go_enter Tryz.func22,Tryz.ntmps22
 go_upto_region 1 with fail
 generalize (((w.alloc (.cells #[.slice A1 n1 c1,.slice A n c,.int .i64 clk,.int .i64 ver,.slice Ab nb cb] 28)).alloc (.cells #[.int .i64 cl] 3)).alloc (.cells #[.int .i64 sz] 3)).alloc (.cells #[.slice none 0 0,.slice none 0 0,.int .i64 0,.int .i64 0,.slice none 0 0] 28) = w0 at *
 obtain ⟨bR,hbR⟩:∃ z,w.heap.size + 1 + 1 + 1 = z:=⟨_,rfl⟩
 obtain ⟨bZ,hbZ⟩:∃ z,w.heap.size + 1 + 1 = z:=⟨_,rfl⟩
 obtain ⟨bC,hbC⟩:∃ z,w.heap.size + 1 = z:=⟨_,rfl⟩
 obtain ⟨bS,hbS⟩:∃ z,w.heap.size = z:=⟨_,rfl⟩
 rw [hbR] at hX
 rw [hbZ] at hZ
 rw [hbC] at hC
 rw [hbS] at hP
 try rw [hbR]
 try rw [hbZ]
 try rw [hbC]
 try rw [hbS]
 have hbo:w.heap.size ≤ bR:=by omega
 have HXX:=Lib.hid (fun (w':World) (hb:Below w0.heap.size w0 w') => (hX.below hb hX.lt))
 have HB:=Lib.hid hB
 have hlX:=hX.lt
 obtain ⟨p0,p1,p2,p3,p4,lt_p⟩:=blok5 hP
 have c0:w0.cell? ⟨bC,0,none⟩ = some (.int .i64 cl):=hC.cell 0
 have lt_c:=hC.lt
 have z0:w0.cell? ⟨bZ,0,none⟩ = some (.int .i64 sz):=hZ.cell 0
 have lt_z:=hZ.lt
 have HCON:=Lib.hid (seach_any (relFn cl sz) (relFn_ok cl sz) 58 #[.pointer (some ⟨bC,0,none⟩),.pointer (some ⟨bZ,0,none⟩)] A1 n1 c1 A n c clk ver Ab nb cb Ai mi ci ids cl sz s w0 h hn2 HR.out HMI.out hm hi HIW.out (do_release bC bZ _ _ cl sz w0 hC hZ) s' q HSE.out HQE.out)
 clear hX hP hC hZ h hi hB hbS hbR hbZ hbC
 go_wp2_with fail
 refine HCON.out.mono ?_
 rintro e w2 ⟨A6,n6,c6,A7,n7,c7,A8,n8,c8,rfl,hv,hb⟩
 clear p0 p1 p2 p3 p4 lt_p c0 lt_c z0 lt_z HCON
 obtain ⟨r0,r1,r2,r3,r4,lt_r⟩:=blok5 (HXX.out _ hb)
 obtain ⟨f0,f1,f2,f3,f4⟩:=free5 (HXX.out _ hb)
 have hX2:=HXX.out _ hb
 have hB2:=HB.out.trans (hb.mono hs)
 have HOF:Hid (StOwn w2 (bR + 1) A6 n6 c6 A7 n7 c7 s'.p.clk s'.p.ver A8 n8 c8 s'):=hv.down (by omega)
 clear hv hb
 go_wp2
 obtain ⟨hF,hWf,hgw⟩:=ret5 hX2 hB2 (by omega) (.slice A6 n6 c6) (.slice A7 n7 c7) (.int .i64 s'.p.clk) (.int .i64 s'.p.ver) (.slice A8 n8 c8)
 unfold set5 at hF hWf hgw
 have HO:=Lib.hid (StOwn.far HOF.out hgw (fun q hq => by injection hq with hq; omega))
 clear hgw hX2 hB2 HOF r0 r1 r2 r3 r4 lt_r f0 f1 f2 f3 f4
 generalize ((((w2.setCell ⟨bR,0,none⟩ (.slice A6 n6 c6)).setCell ⟨bR,1,none⟩ (.slice A7 n7 c7)).setCell ⟨bR,2,none⟩ (.int .i64 s'.p.clk)).setCell ⟨bR,3,none⟩ (.int .i64 s'.p.ver)).setCell ⟨bR,4,none⟩ (.slice A8 n8 c8) = wf at *
 obtain ⟨r0,r1,r2,r3,r4,hlF⟩:=blok5 hF
 go_wp2_with fail
 refine bodyPost_ret (v:=.tuple #[.agg #[.slice A6 n6 c6,.slice A7 n7 c7,.int .i64 s'.p.clk,.int .i64 s'.p.ver,.slice A8 n8 c8],.int .i64 q]) (by simp [results,Tryz.results22,go_sem,r0,r1,r2,r3,r4,hlF]) rfl ?_
 exact ⟨_,_,_,_,_,_,_,_,_,rfl,HO.out.down (show w.heap.size ≤ bR + 1 by omega),hWf⟩
set_option maxHeartbeats 4000000 in
set_option maxRecDepth 100000 in
theorem snew_any (w:World):Calls Tryz.prog 33 #[] w fun e w' => e = .returned (.agg #[.slice none 0 0,.slice none 0 0,.int .i64 0,.int .i64 0,.slice none 0 0]) ∧ Below w.heap.size w w':=by
 have hB:Below w.heap.size w (w.alloc (.cells #[.slice none 0 0,.slice none 0 0,.int .i64 0,.int .i64 0,.slice none 0 0] 28)):=by (repeat (first | exact Below.refl _ _ | refine Below.alloc ?_ (by first | omega | (simp; done) | (simp; omega)) _ | refine Below.setCell ?_ (by first | omega | (simp; done) | (simp; omega)) _ | refine Below.drew ?_))
 have hX:=Blok.new w 28 #[.slice none 0 0,.slice none 0 0,.int .i64 0,.int .i64 0,.slice none 0 0]
 have hs:=hB.size
 go_enter Tryz.func33,Tryz.ntmps33
 go_upto_region 1 with fail
 generalize w.alloc (.cells #[.slice none 0 0,.slice none 0 0,.int .i64 0,.int .i64 0,.slice none 0 0] 28) = w0 at *
 obtain ⟨bR,hbR⟩:∃ z,w.heap.size = z:=⟨_,rfl⟩
 rw [hbR] at hX
 try rw [hbR]
 go_wp2_with fail
 refine (pnew_any w0).mono ?_
 rintro e w1 ⟨rfl,hb⟩
 have hX1:=hX.below hb hX.lt
 have hB1:=hB.trans (hb.mono hs)
 obtain ⟨q0,q1,q2,q3,q4,lq⟩:=blok5 hX1
 obtain ⟨qf0,qf1,qf2,qf3,qf4⟩:=free5 hX1
 obtain ⟨hF,hWf,hgw⟩:=ret5 hX1 hB1 (by omega) (.slice none 0 0) (.slice none 0 0) (.int .i64 0) (.int .i64 0) (.slice none 0 0)
 unfold set5 at hF hWf
 go_wp2
 clear q0 q1 q2 q3 q4 lq qf0 qf1 qf2 qf3 qf4 hgw hX1 hB1 hX hB hb
 generalize ((((w1.setCell ⟨bR,0,none⟩ (.slice none 0 0)).setCell ⟨bR,1,none⟩ (.slice none 0 0)).setCell ⟨bR,2,none⟩ (.int .i64 0)).setCell ⟨bR,3,none⟩ (.int .i64 0)).setCell ⟨bR,4,none⟩ (.slice none 0 0) = wf at *
 obtain ⟨r0,r1,r2,r3,r4,hlF⟩:=blok5 hF
 go_wp2_with fail
 refine bodyPost_ret (v:=.agg #[.slice none 0 0,.slice none 0 0,.int .i64 0,.int .i64 0,.slice none 0 0]) (by simp [results,Tryz.results33,go_sem,r0,r1,r2,r3,r4,hlF]) rfl ?_
 exact ⟨rfl,hWf⟩
theorem SRet.is {s':St} {q:Int} {w w':World} {e:Ending} (h:SRet s' q w e w') {n1 n nb:Nat} {clk ver:Int} (h1:s'.p.cs.length = n1) (h2:s'.p.rs.length = n) (h3:s'.b.length = nb) (h4:s'.p.clk = clk) (h5:s'.p.ver = ver) :
  ∃ A1 c1 A c Ab cb,e = .returned (.tuple #[.agg #[.slice A1 n1 c1,.slice A n c,.int .i64 clk,.int .i64 ver,.slice Ab nb cb],.int .i64 q]) ∧ StAt w' A1 n1 c1 A n c clk ver Ab nb cb s' ∧ Below w.heap.size w w':=by
 obtain ⟨A1,m1,c1,A,m,c,Ab,mb,cb,rfl,hv,hb⟩:=h
 obtain rfl:n1 = m1:=h1.symm.trans hv.pl.l1
 obtain rfl:n = m:=h2.symm.trans hv.pl.l
 obtain rfl:nb = mb:=h3.symm.trans hv.lb
 subst h4 h5
 exact ⟨A1,c1,A,c,Ab,cb,rfl,hv.at_,hb⟩
theorem LRet.is {s':St} {ln cd:Int} {w w':World} {e:Ending} (h:LRet s' ln cd w e w') {n1 n nb:Nat} {clk ver:Int} (h1:s'.p.cs.length = n1) (h2:s'.p.rs.length = n) (h3:s'.b.length = nb) (h4:s'.p.clk = clk) (h5:s'.p.ver = ver) :
  ∃ A1 c1 A c Ab cb,e = .returned (.tuple #[.agg #[.slice A1 n1 c1,.slice A n c,.int .i64 clk,.int .i64 ver,.slice Ab nb cb],.agg #[.int .i64 ln,.int .i64 cd]]) ∧ StAt w' A1 n1 c1 A n c clk ver Ab nb cb s' ∧ Below w.heap.size w w':=by
 obtain ⟨A1,m1,c1,A,m,c,Ab,mb,cb,rfl,hv,hb⟩:=h
 obtain rfl:n1 = m1:=h1.symm.trans hv.pl.l1
 obtain rfl:n = m:=h2.symm.trans hv.pl.l
 obtain rfl:nb = mb:=h3.symm.trans hv.lb
 subst h4 h5
 exact ⟨A1,c1,A,c,Ab,cb,rfl,hv.at_,hb⟩
def s21_0:St:=⟨⟨[],[],0,0⟩,[]⟩
def s21_s:St:=⟨⟨[⟨7,1,2,10,20,3⟩],[⟨1,2,0,90,4⟩],0,2⟩,[]⟩
def s21_a:St:=⟨⟨[⟨7,1,2,10,20,3⟩],[⟨1,2,0,90,4⟩],0,2⟩,[⟨7,0,0,30⟩]⟩
def s21_c:St:=advS s21_a 20
def s21_p:St:=editS s21_a ⟨2,1,7,0,0,0,0,0,0,0,0,0,0⟩
theorem s21_r0:rightS s21_0 = true:=by decide +kernel
theorem s21_rs:rightS s21_s = true:=by decide +kernel
theorem s21_ra:rightS s21_a = true:=by decide +kernel
theorem s21_ld:loadF s21_0 (⟨#[97,32,114,97,110,103,101,32,49,32,50,32,48,32,57,48,32,52,10,97,32,99,111,110,116,97,99,116,32,55,32,49,32,50,32,49,48,32,50,48,32,51,10]⟩:ByteArray).data.toList = (s21_s,0,0):=by kernel_rfl
theorem s21_ld2:loadF s21_a (⟨#[100,32,99,111,110,116,97,99,116,32,55,10,100,32,99,111,110,116,97,99,116,32,55,10]⟩:ByteArray).data.toList = (s21_a,2,6):=by kernel_rfl
theorem s21_w7:∀ k,k < 1 → (Lit.int .i64 (([7]:List Int).getD k 0)).wf = true:=by decide
theorem s21_w8:∀ k,k < 1 → (Lit.int .i64 (([8]:List Int).getD k 0)).wf = true:=by decide
theorem s21_w77:∀ k,k < 2 → (Lit.int .i64 (([7,7]:List Int).getD k 0)).wf = true:=by decide
theorem s21_b1:eachS (bookFn 2 30) s21_s [7] 2 30 = s21_a:=by kernel_rfl
theorem s21_b2:eachQ (bookFn 2 30) s21_s [7] 2 30 = 0:=by kernel_rfl
theorem s21_g1:eachS (bookFn 2 1) s21_a [7] 2 1 = s21_a:=by kernel_rfl
theorem s21_g2:eachQ (bookFn 2 1) s21_a [7] 2 1 = 8:=by kernel_rfl
theorem s21_h1:eachS (bookFn 2 1) s21_a [8] 2 1 = s21_a:=by kernel_rfl
theorem s21_h2:eachQ (bookFn 2 1) s21_a [8] 2 1 = 6:=by kernel_rfl
theorem s21_i1:eachS (bookFn 0 0) s21_a [7,7] 0 0 = s21_a:=by kernel_rfl
theorem s21_i2:eachQ (bookFn 0 0) s21_a [7,7] 0 0 = 1:=by kernel_rfl
theorem s21_k1:editS s21_a ⟨3,1,7,0,0,0,0,2,0,0,0,0,0⟩ = s21_a:=by kernel_rfl
theorem s21_k2:editQ s21_a ⟨3,1,7,0,0,0,0,2,0,0,0,0,0⟩ = 8:=by kernel_rfl
theorem s21_m1:eachS (relFn 2 30) s21_a [7] 2 30 = s21_s:=by kernel_rfl
theorem s21_m2:eachQ (relFn 2 30) s21_a [7] 2 30 = 0:=by kernel_rfl
theorem s21_n2:advQ s21_a.p 20 = 0:=by kernel_rfl
theorem s21_c1:s21_c.p.cs.length = 0 ∧ s21_c.p.rs.length = 1 ∧ s21_c.b.length = 0 ∧ s21_c.p.clk = 20 ∧ s21_c.p.ver = 3:=by decide +kernel
theorem s21_q2:editQ s21_a ⟨2,1,7,0,0,0,0,0,0,0,0,0,0⟩ = 0:=by kernel_rfl
theorem s21_p1:s21_p.p.cs.length = 0 ∧ s21_p.p.rs.length = 1 ∧ s21_p.b.length = 0 ∧ s21_p.p.clk = 0 ∧ s21_p.p.ver = 3:=by decide +kernel
theorem s21_ss:sameSB s21_s s21_s = true:=by decide +kernel
theorem s21_aa:sameSB s21_a s21_a = true:=by decide +kernel
theorem s21_as:sameSB s21_a s21_s = false:=by decide +kernel
set_option maxHeartbeats 4000000 in
set_option maxRecDepth 100000 in
theorem few21_any (A1:Option Addr) (n1 c1:Nat) (A:Option Addr) (n c:Nat) (clk ver:Int) (Ab:Option Addr) (nb cb:Nat) (w:World) (b:Bool) (hb:decide (n1 ≤ 50 ∧ n ≤ 50 ∧ nb ≤ 50) = b) :
  Calls Tryz.prog 11 #[.agg #[.slice A1 n1 c1,.slice A n c,.int .i64 clk,.int .i64 ver,.slice Ab nb cb]] w fun e w' => e = .returned (.bool b) ∧ Below w.heap.size w w':=by
 have hB:Below w.heap.size w (w.alloc (.cells #[.slice A1 n1 c1,.slice A n c,.int .i64 clk,.int .i64 ver,.slice Ab nb cb] 28)):=by (repeat (first | exact Below.refl _ _ | refine Below.alloc ?_ (by first | omega | (simp; done) | (simp; omega)) _ | refine Below.setCell ?_ (by first | omega | (simp; done) | (simp; omega)) _ | refine Below.drew ?_))
 have hP:=Blok.new w 28 #[.slice A1 n1 c1,.slice A n c,.int .i64 clk,.int .i64 ver,.slice Ab nb cb]
 have hs:=hB.size
 go_enter Tryz.func11,Tryz.ntmps11
 go_upto_region 1 with fail
 generalize w.alloc (.cells #[.slice A1 n1 c1,.slice A n c,.int .i64 clk,.int .i64 ver,.slice Ab nb cb] 28) = w0 at *
 obtain ⟨bS,hbS⟩:∃ z,w.heap.size = z:=⟨_,rfl⟩
 rw [hbS] at hP
 try rw [hbS]
 clear hbS
 obtain ⟨p0,p1,p2,p3,p4,lt_p⟩:=blok5 hP
 go_wp2_with fail
 obtain ⟨b1,hb1⟩:∃ z,decide (n1 ≤ 50 ∧ n ≤ 50) = z:=⟨_,rfl⟩
 refine (few_any A1 n1 c1 A n c clk ver w0 b1 hb1).mono ?_
 rintro e w1 ⟨rfl,hb0⟩
 have hP1:=hP.below hb0 hP.lt
 have hB1:=hB.trans (hb0.mono hs)
 clear p0 p1 p2 p3 p4 lt_p hP hB hb0
 obtain ⟨p0,p1,p2,p3,p4,lt_p⟩:=blok5 hP1
 cases b1 with
 | false =>
  obtain rfl:b = false:=by
   rw [← hb]
   refine decide_eq_false fun h => ?_
   exact of_decide_eq_false hb1 ⟨h.1,h.2.1⟩
  clear hb hb1
  go_wp2_with fail
  go_ret
  exact ⟨rfl,hB1⟩
 | true =>
  have h1:=of_decide_eq_true hb1
  by_cases h2:nb ≤ 50
  ·obtain rfl:b = true:=by rw [← hb]; exact decide_eq_true ⟨h1.1,h1.2,h2⟩
   have g2:decide ((nb:Int) ≤ 50) = true:=decide_eq_true (by omega)
   clear hb hb1
   go_wp2_with fail
   go_ret
   exact ⟨rfl,hB1⟩
  ·obtain rfl:b = false:=by rw [← hb]; exact decide_eq_false (fun h => h2 h.2.2)
   have g2:decide ((nb:Int) ≤ 50) = false:=decide_eq_false (by omega)
   clear hb hb1
   go_wp2_with fail
   go_ret
   exact ⟨rfl,hB1⟩
end Go.Proofs.YtjldgcebadojiaaGreatDoor
