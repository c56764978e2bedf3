/- Package ledger: Book, Release. No condition. -/
import Derived.Test.YtjldgcebadojiaaGreatDoorLedger3
namespace Go.Proofs.YtjldgcebadojiaaGreatDoor.Kb
open Go.ChangeShapes Go.WideShapes Go.ChangeAt Go.RowKit Go.Sort
set_option linter.unusedSimpArgs false
set_option linter.unusedVariables false
def getU (x:Bk) (cl:Int):Int:=if cl = 0 then x.ua else if cl = 1 then x.ub else x.uc
set_option maxRecDepth 100000 in
theorem index3 (a b c:Int) (k:Nat) (hk:k < 3) (w:World):(Instr.index 48 (.agg #[.int .i64 a,.int .i64 b,.int .i64 c]) (.int .i64 k)).run Tryz.prog w = .ok (if k = 0 then .int .i64 a else if k = 1 then .int .i64 b else .int .i64 c) w:=by
 have u3:=Tryz.underlying48
 have z3:=Tryz.sizeOf3
 have a3:=Tryz.isAgg3
 rcases (by omega:k = 0 ∨ k = 1 ∨ k = 2) with rfl | rfl | rfl
 all_goals
  unfold Instr.index
  go_simp
theorem index3_0 (a b c:Int) (w:World):(Instr.index 48 (.agg #[.int .i64 a,.int .i64 b,.int .i64 c]) (.int .i64 0)).run Tryz.prog w = .ok (.int .i64 a) w:=index3 a b c 0 (by decide) w
theorem index3_1 (a b c:Int) (w:World):(Instr.index 48 (.agg #[.int .i64 a,.int .i64 b,.int .i64 c]) (.int .i64 1)).run Tryz.prog w = .ok (.int .i64 b) w:=index3 a b c 1 (by decide) w
theorem index3_2 (a b c:Int) (w:World):(Instr.index 48 (.agg #[.int .i64 a,.int .i64 b,.int .i64 c]) (.int .i64 2)).run Tryz.prog w = .ok (.int .i64 c) w:=index3 a b c 2 (by decide) w
theorem class_cases {cl:Int} (h:inB cl 0 2 = true):cl = 0 ∨ cl = 1 ∨ cl = 2:=by
 unfold inB at h
 simp at h
 omega
theorem more_any (A:Option Addr) (n c:Nat) (d:List Bk) (id cl sz:Int) (w:World) (hd:d.length = n) (hn:n ≤ 1000000 - 1) (h:Sl w w.heap.size 4 A n c (flatBk d)) (hs:SortB d) (x:Bk) (hx:rowB d id = x) (hc:inB cl 0 2 = true) (ho1 : -9223372036854775808 ≤ getU x cl + sz) (ho2:getU x cl + sz ≤ 9223372036854775807) (l:List Bk) (hl:moreB d id (bump x cl sz) = l) :
  Calls Tryz.prog 98 #[.slice A n c,.int .i64 id,.int .i64 cl,.int .i64 sz] w fun e w' => ∃ v,e = .returned v ∧ w'.ownsRow w.heap.size 50 4 v l.length (flatBk l) ∧ Below w.heap.size w w':=by
 have hid:x.id = id:=by rw [← hx]; exact rowB_id hs
 rcases class_cases hc with rfl | rfl | rfl
 ·rw [← hl,show bump x 0 sz = ⟨id,x.ua + sz,x.ub,x.uc⟩ from by simp [bump,hid]]
  exact more0 A n c d id sz w hd hn h hs x hx ho1 ho2
 ·rw [← hl,show bump x 1 sz = ⟨id,x.ua,x.ub + sz,x.uc⟩ from by simp [bump,hid]]
  exact more1 A n c d id sz w hd hn h hs x hx ho1 ho2
 ·rw [← hl,show bump x 2 sz = ⟨id,x.ua,x.ub,x.uc + sz⟩ from by simp [bump,hid]]
  exact more2 A n c d id sz w hd hn h hs x hx ho1 ho2
def bookB (d:List Bk) (c:Ct) (cl sz:Int):Bool:=okC c && (inB cl 0 2 && inB sz 0 (roomF c (rowB d c.id) cl))
theorem capAdd_ge {t n:Int} (h1:0 ≤ t) (h2:t ≤ 4611686018427387904) (h3:0 ≤ n) (h4:n ≤ 4611686018427387904):t ≤ capAdd t n ∧ n ≤ capAdd t n:=by unfold capAdd; omega
theorem back_ge {x:Bk} (h:okU x) {cl:Int} (hc:inB cl 0 2 = true):getU x cl ≤ backF x cl:=by
 obtain ⟨h1,h2,h3,h4,h5,h6⟩:=h
 have a0:=capAdd_ok (t:=0) (n:=x.ua) (by omega) (by omega) h1
 have a1:=capAdd_ok (t:=0) (n:=x.ub) (by omega) (by omega) h3
 have b1:=capAdd_ok a0.1 a0.2 h3
 have g0:=capAdd_ge (t:=0) (n:=x.ua) (by omega) (by omega) h1 h2
 have g1:=capAdd_ge (t:=0) (n:=x.ub) (by omega) (by omega) h3 h4
 have g2:=capAdd_ge (t:=0) (n:=x.uc) (by omega) (by omega) h5 h6
 have g3:=capAdd_ge a0.1 a0.2 h3 h4
 have g4:=capAdd_ge b1.1 b1.2 h5 h6
 have g5:=capAdd_ge a1.1 a1.2 h5 h6
 rcases class_cases hc with rfl | rfl | rfl
 ·simp only [getU,backF,if_true]; omega
 ·simp [getU,backF]; omega
 ·simp [getU,backF]; omega
theorem getU_ok {x:Bk} (h:okU x) (cl:Int):0 ≤ getU x cl ∧ getU x cl ≤ 4611686018427387904:=by
 obtain ⟨h1,h2,h3,h4,h5,h6⟩:=h
 unfold getU
 split
 ·omega
 ·split <;> omega
set_option maxHeartbeats 4000000 in
set_option maxRecDepth 100000 in
theorem book_no (A:Option Addr) (n k:Nat) (d:List Bk) (c:Ct) (cl sz:Int) (w:World) (hd:d.length = n) (hn:n ≤ 1000000) (h:Sl w w.heap.size 4 A n k (flatBk d)) (hs:SortB d) (hok:okU (rowB d c.id)) (hb:bookB d c cl sz = false) :
  Calls Tryz.prog 53 #[.slice A n k,.agg #[.int .i64 c.id,.int .i64 c.fr,.int .i64 c.tn,.int .i64 c.st,.int .i64 c.en,.int .i64 c.rt],.int .i64 cl,.int .i64 sz] w fun e w' => ∃ v,e = .returned (.tuple #[v,.bool false]) ∧ w'.ownsRow w.heap.size 50 4 v n (flatBk d) ∧ Below w.heap.size w w':=by
 have hBa:Below w.heap.size w (w.alloc (.cells #[.int .i64 c.id,.int .i64 c.fr,.int .i64 c.tn,.int .i64 c.st,.int .i64 c.en,.int .i64 c.rt] 34)):=by (repeat (first | exact Below.refl _ _ | refine Below.alloc ?_ (by first | omega | (simp; done) | (simp; omega)) _ | refine Below.setCell ?_ (by first | omega | (simp; done) | (simp; omega)) _ | refine Below.drew ?_))
 have hX:=Blok.new w 34 #[.int .i64 c.id,.int .i64 c.fr,.int .i64 c.tn,.int .i64 c.st,.int .i64 c.en,.int .i64 c.rt]
 have hl:=h.up hBa
 have HD:=Lib.hid hd
 obtain ⟨b1,h1⟩:∃ b,okC c = b:=⟨_,rfl⟩
 obtain ⟨b2,h2⟩:∃ b,inB cl 0 2 = b:=⟨_,rfl⟩
 obtain ⟨r,hr⟩:∃ r,roomF c (rowB d c.id) cl = r:=⟨_,rfl⟩
 obtain ⟨b3,h3⟩:∃ b,inB sz 0 r = b:=⟨_,rfl⟩
 have hcase:b1 = false ∨ (b1 = true ∧ b2 = false) ∨ (b1 = true ∧ b2 = true ∧ b3 = false):=by
  unfold bookB at hb
  rw [hr,h1,h2,h3] at hb
  cases b1 <;> cases b2 <;> cases b3 <;> simp_all
 have h1':contactB c.id c.fr c.tn c.st c.en c.rt = b1:=h1
 have H1:=Lib.hid h1'
 have H2:=Lib.hid h2
 have H3:=Lib.hid h3
 have hrm:∀ w',Sl w' w'.heap.size 4 A n k (flatBk d) → Calls Tryz.prog 21 #[.slice A n k,.agg #[.int .i64 c.id,.int .i64 c.fr,.int .i64 c.tn,.int .i64 c.st,.int .i64 c.en,.int .i64 c.rt],.int .i64 cl] w' fun e w'' => e = .returned (.int .i64 r) ∧ Below w'.heap.size w' w'':=fun w' hl' => room_any A n k d c cl w' hd hn hl' hs _ rfl hok r hr
 have HRM:=Lib.hid hrm
 clear hb h1 h1' h2 h3 hr hd h hs hok hrm
 rcases hcase with rfl | ⟨rfl,rfl⟩ | ⟨rfl,rfl,rfl⟩

 ·skip
  go_enter Tryz.func53,Tryz.ntmps53
  go_wp2_with fail
  generalize w.alloc (.cells #[.int .i64 c.id,.int .i64 c.fr,.int .i64 c.tn,.int .i64 c.st,.int .i64 c.en,.int .i64 c.rt] 34) = w2 at *
  refine (contact_is false H1.out w2).mono ?_
  rintro e w3 ⟨rfl,hb3⟩
  replace hl:=hl.up hb3
  replace hX:=hX.below hb3 hX.lt
  replace hBa:=hBa.trans (hb3.mono hBa.size)
  clear hb3
  go_wp2_with fail
  refine (cloneBk A n k d w3 HD.out hn hl).mono ?_
  rintro e w9 ⟨v,rfl,hown,hb9⟩
  have hown5:=own_down (base':=w.heap.size) hown hBa.size
  replace hBa:=hBa.trans (hb9.mono hBa.size)
  clear hown hb9 hl hX
  obtain ⟨A5,c5,rfl⟩:=slice_of_own hown5
  go_wp2
  go_ret2
  exact ⟨_,rfl,hown5,hBa⟩
 ·skip
  go_enter Tryz.func53,Tryz.ntmps53
  go_wp2_with fail
  generalize w.alloc (.cells #[.int .i64 c.id,.int .i64 c.fr,.int .i64 c.tn,.int .i64 c.st,.int .i64 c.en,.int .i64 c.rt] 34) = w2 at *
  refine (contact_is true H1.out w2).mono ?_
  rintro e w3 ⟨rfl,hb3⟩
  replace hl:=hl.up hb3
  replace hX:=hX.below hb3 hX.lt
  replace hBa:=hBa.trans (hb3.mono hBa.size)
  clear hb3
  go_wp2_with fail
  refine (class_any cl w3 false H2.out).mono ?_
  rintro e w4 ⟨rfl,rfl⟩
  go_wp2_with fail
  refine (cloneBk A n k d w3 HD.out hn hl).mono ?_
  rintro e w9 ⟨v,rfl,hown,hb9⟩
  have hown5:=own_down (base':=w.heap.size) hown hBa.size
  replace hBa:=hBa.trans (hb9.mono hBa.size)
  clear hown hb9 hl hX
  obtain ⟨A5,c5,rfl⟩:=slice_of_own hown5
  go_wp2
  go_ret2
  exact ⟨_,rfl,hown5,hBa⟩
 ·skip
  go_enter Tryz.func53,Tryz.ntmps53
  go_wp2_with fail
  generalize w.alloc (.cells #[.int .i64 c.id,.int .i64 c.fr,.int .i64 c.tn,.int .i64 c.st,.int .i64 c.en,.int .i64 c.rt] 34) = w2 at *
  refine (contact_is true H1.out w2).mono ?_
  rintro e w3 ⟨rfl,hb3⟩
  replace hl:=hl.up hb3
  replace hX:=hX.below hb3 hX.lt
  replace hBa:=hBa.trans (hb3.mono hBa.size)
  clear hb3
  have x0:w3.cell? ⟨w.heap.size,0,none⟩ = some (.int .i64 c.id):=hX.cell 0
  have x1:w3.cell? ⟨w.heap.size,1,none⟩ = some (.int .i64 c.fr):=hX.cell 1
  have x2:w3.cell? ⟨w.heap.size,2,none⟩ = some (.int .i64 c.tn):=hX.cell 2
  have x3:w3.cell? ⟨w.heap.size,3,none⟩ = some (.int .i64 c.st):=hX.cell 3
  have x4:w3.cell? ⟨w.heap.size,4,none⟩ = some (.int .i64 c.en):=hX.cell 4
  have x5:w3.cell? ⟨w.heap.size,5,none⟩ = some (.int .i64 c.rt):=hX.cell 5
  have hlt:=hX.lt
  go_wp2_with fail
  refine (class_any cl w3 true H2.out).mono ?_
  rintro e w4 ⟨rfl,rfl⟩
  go_wp2_with fail
  clear x0 x1 x2 x3 x4 x5
  refine (HRM.out w3 hl).mono ?_
  rintro e w5 ⟨rfl,hb5⟩
  replace hl:=hl.up hb5
  replace hX:=hX.below hb5 hX.lt
  replace hBa:=hBa.trans (hb5.mono hBa.size)
  clear hb5 HRM
  go_wp2_with fail
  refine (in_is false H3.out w5).mono ?_
  rintro e w6 ⟨rfl,rfl⟩
  go_wp2_with fail
  refine (cloneBk A n k d w5 HD.out hn hl).mono ?_
  rintro e w9 ⟨v,rfl,hown,hb9⟩
  have hown5:=own_down (base':=w.heap.size) hown hBa.size
  replace hBa:=hBa.trans (hb9.mono hBa.size)
  clear hown hb9 hl hX
  obtain ⟨A5,c5,rfl⟩:=slice_of_own hown5
  go_wp2
  go_ret2
  exact ⟨_,rfl,hown5,hBa⟩
set_option maxHeartbeats 4000000 in
set_option maxRecDepth 100000 in
theorem book_yes (A:Option Addr) (n k:Nat) (d:List Bk) (c:Ct) (cl sz:Int) (w:World) (hd:d.length = n) (hn:n ≤ 1000000 - 1) (h:Sl w w.heap.size 4 A n k (flatBk d)) (hs:SortB d) (hok:okU (rowB d c.id)) (hb:bookB d c cl sz = true) (l:List Bk) (hml:moreB d c.id (bump (rowB d c.id) cl sz) = l) :
  Calls Tryz.prog 53 #[.slice A n k,.agg #[.int .i64 c.id,.int .i64 c.fr,.int .i64 c.tn,.int .i64 c.st,.int .i64 c.en,.int .i64 c.rt],.int .i64 cl,.int .i64 sz] w fun e w' => ∃ v,e = .returned (.tuple #[v,.bool true]) ∧ w'.ownsRow w.heap.size 50 4 v l.length (flatBk l) ∧ Below w.heap.size w w':=by
 have hBa:Below w.heap.size w (w.alloc (.cells #[.int .i64 c.id,.int .i64 c.fr,.int .i64 c.tn,.int .i64 c.st,.int .i64 c.en,.int .i64 c.rt] 34)):=by (repeat (first | exact Below.refl _ _ | refine Below.alloc ?_ (by first | omega | (simp; done) | (simp; omega)) _ | refine Below.setCell ?_ (by first | omega | (simp; done) | (simp; omega)) _ | refine Below.drew ?_))
 have hX:=Blok.new w 34 #[.int .i64 c.id,.int .i64 c.fr,.int .i64 c.tn,.int .i64 c.st,.int .i64 c.en,.int .i64 c.rt]
 have hl:=h.up hBa
 obtain ⟨r,hr⟩:∃ r,roomF c (rowB d c.id) cl = r:=⟨_,rfl⟩
 unfold bookB at hb
 simp only [Bool.and_eq_true] at hb
 obtain ⟨h1,h2,h3⟩:=hb
 rw [hr] at h3
 have hvc:=volC_ok c
 have hbk:=backF_ok hok cl
 have hge:=back_ge hok h2
 have hgu:=getU_ok hok cl
 have hsz:0 ≤ sz ∧ sz ≤ r:=by unfold inB at h3; simpa using h3
 have hrr:r ≤ 4611686014132420609:=by rw [← hr]; unfold roomF; rw [if_pos h2]; omega
 have h1':contactB c.id c.fr c.tn c.st c.en c.rt = true:=h1
 have H1:=Lib.hid h1'
 have H2:=Lib.hid h2
 have H3:=Lib.hid h3
 have hrm:∀ w',Sl w' w'.heap.size 4 A n k (flatBk d) → Calls Tryz.prog 21 #[.slice A n k,.agg #[.int .i64 c.id,.int .i64 c.fr,.int .i64 c.tn,.int .i64 c.st,.int .i64 c.en,.int .i64 c.rt],.int .i64 cl] w' fun e w'' => e = .returned (.int .i64 r) ∧ Below w'.heap.size w' w'':=fun w' hl' => room_any A n k d c cl w' hd (by omega) hl' hs _ rfl hok r hr
 have hmr:∀ w',Sl w' w'.heap.size 4 A n k (flatBk d) → Calls Tryz.prog 98 #[.slice A n k,.int .i64 c.id,.int .i64 cl,.int .i64 sz] w' fun e w'' => ∃ v,e = .returned v ∧ w''.ownsRow w'.heap.size 50 4 v l.length (flatBk l) ∧ Below w'.heap.size w' w'':=fun w' hl' => more_any A n k d c.id cl sz w' hd hn hl' hs _ rfl h2 (by omega) (by omega) l hml
 have HRM:=Lib.hid hrm
 have HMR:=Lib.hid hmr
 clear h1 h1' h2 h3 hr hd h hs hok hrm hmr hml hvc hbk hge hgu hsz hrr
 go_enter Tryz.func53,Tryz.ntmps53
 go_wp2_with fail
 generalize w.alloc (.cells #[.int .i64 c.id,.int .i64 c.fr,.int .i64 c.tn,.int .i64 c.st,.int .i64 c.en,.int .i64 c.rt] 34) = w2 at *
 refine (contact_is true H1.out w2).mono ?_
 rintro e w3 ⟨rfl,hb3⟩
 replace hl:=hl.up hb3
 replace hX:=hX.below hb3 hX.lt
 replace hBa:=hBa.trans (hb3.mono hBa.size)
 clear hb3
 have x0:w3.cell? ⟨w.heap.size,0,none⟩ = some (.int .i64 c.id):=hX.cell 0
 have x1:w3.cell? ⟨w.heap.size,1,none⟩ = some (.int .i64 c.fr):=hX.cell 1
 have x2:w3.cell? ⟨w.heap.size,2,none⟩ = some (.int .i64 c.tn):=hX.cell 2
 have x3:w3.cell? ⟨w.heap.size,3,none⟩ = some (.int .i64 c.st):=hX.cell 3
 have x4:w3.cell? ⟨w.heap.size,4,none⟩ = some (.int .i64 c.en):=hX.cell 4
 have x5:w3.cell? ⟨w.heap.size,5,none⟩ = some (.int .i64 c.rt):=hX.cell 5
 have hlt:=hX.lt
 go_wp2_with fail
 refine (class_any cl w3 true H2.out).mono ?_
 rintro e w4 ⟨rfl,rfl⟩
 go_wp2_with fail
 clear x0 x1 x2 x3 x4 x5
 refine (HRM.out w3 hl).mono ?_
 rintro e w5 ⟨rfl,hb5⟩
 replace hl:=hl.up hb5
 replace hX:=hX.below hb5 hX.lt
 replace hBa:=hBa.trans (hb5.mono hBa.size)
 clear hb5 HRM
 go_wp2_with fail
 refine (in_is true H3.out w5).mono ?_
 rintro e w6 ⟨rfl,rfl⟩
 have x0:w5.cell? ⟨w.heap.size,0,none⟩ = some (.int .i64 c.id):=hX.cell 0
 have hlt5:=hX.lt
 go_wp2_with fail
 refine (HMR.out w5 hl).mono ?_
 rintro e w9 ⟨v,rfl,hown,hb9⟩
 have hown5:=own_down (base':=w.heap.size) hown hBa.size
 replace hBa:=hBa.trans (hb9.mono hBa.size)
 clear hown hb9 hl hX x0
 obtain ⟨ln,hln⟩:∃ ln,l.length = ln:=⟨_,rfl⟩
 rw [hln] at hown5
 have HLN:=Lib.hid hln
 clear hln
 obtain ⟨A5,c5,rfl⟩:=slice_of_own hown5
 go_wp2
 go_ret2
 exact ⟨_,rfl,by rw [HLN.out]; exact hown5,hBa⟩
def relB (d:List Bk) (id cl sz:Int):Bool:=inB cl 0 2 && inB sz 0 (getU (rowB d id) cl)
set_option maxHeartbeats 4000000 in
set_option maxRecDepth 100000 in
theorem rel_no0 (A:Option Addr) (n k:Nat) (d:List Bk) (id sz:Int) (w:World) (hd:d.length = n) (hn:n ≤ 1000000) (h:Sl w w.heap.size 4 A n k (flatBk d)) (hs:SortB d) (x:Bk) (hx:rowB d id = x) (hb:inB sz 0 x.ua = false) :
  Calls Tryz.prog 59 #[.slice A n k,.int .i64 id,.int .i64 0,.int .i64 sz] w fun e w' => ∃ v,e = .returned (.tuple #[v,.bool false]) ∧ w'.ownsRow w.heap.size 50 4 v n (flatBk d) ∧ Below w.heap.size w w':=by
 have HU:=Lib.hid (used_any A n k d id w hd hn h hs x hx)
 have HD:=Lib.hid hd
 have HL:=Lib.hid h
 have HB:=Lib.hid hb
 clear hb hd h hs hx
 go_enter Tryz.func59,Tryz.ntmps59
 go_wp2_with fail
 refine (class_any 0 w true (by decide +kernel)).mono ?_
 rintro e w1 ⟨rfl,rfl⟩
 go_wp2_with fail
 refine HU.out.mono ?_
 rintro e w2 ⟨rfl,hB⟩
 have hl2:=HL.out.up hB
 go_wp2_with fail
 rw [index3_0]
 go_wp2_with fail
 refine (in_is false HB.out w2).mono ?_
 rintro e w3 ⟨rfl,rfl⟩
 go_wp2_with fail
 refine (cloneBk A n k d w2 HD.out hn hl2).mono ?_
 rintro e w9 ⟨v,rfl,hown,hb9⟩
 have hown5:=own_down (base':=w.heap.size) hown hB.size
 replace hB:=hB.trans (hb9.mono hB.size)
 clear hown hb9 hl2 HU HL
 obtain ⟨A5,c5,rfl⟩:=slice_of_own hown5
 go_wp2
 go_ret2
 exact ⟨_,rfl,hown5,hB⟩
set_option maxHeartbeats 4000000 in
set_option maxRecDepth 100000 in
theorem rel_yes0 (A:Option Addr) (n k:Nat) (d:List Bk) (id sz:Int) (w:World) (hd:d.length = n) (hn:n ≤ 1000000 - 1) (h:Sl w w.heap.size 4 A n k (flatBk d)) (hs:SortB d) (x:Bk) (hx:rowB d id = x) (hok:okU x) (hb:inB sz 0 x.ua = true) (l:List Bk) (hml:moreB d id (bump x 0 (-sz)) = l) :
  Calls Tryz.prog 59 #[.slice A n k,.int .i64 id,.int .i64 0,.int .i64 sz] w fun e w' => ∃ v,e = .returned (.tuple #[v,.bool true]) ∧ w'.ownsRow w.heap.size 50 4 v l.length (flatBk l) ∧ Below w.heap.size w w':=by
 have HU:=Lib.hid (used_any A n k d id w hd (by omega) h hs x hx)
 have HL:=Lib.hid h
 have HB:=Lib.hid hb
 have hsz:0 ≤ sz ∧ sz ≤ x.ua:=by unfold inB at hb; simpa using hb
 obtain ⟨a0,a1,b0,b1,c0,c1⟩:=hok
 have hmr:∀ w',Sl w' w'.heap.size 4 A n k (flatBk d) → Calls Tryz.prog 98 #[.slice A n k,.int .i64 id,.int .i64 0,.int .i64 (-sz)] w' fun e w'' => ∃ v,e = .returned v ∧ w''.ownsRow w'.heap.size 50 4 v l.length (flatBk l) ∧ Below w'.heap.size w' w'':=fun w' hl' => more_any A n k d id 0 (-sz) w' hd hn hl' hs x hx (by decide +kernel) (by simp [getU]; omega) (by simp [getU]; omega) l hml
 have HMR:=Lib.hid hmr
 obtain ⟨s0,s1⟩:=hsz
 have s2:sz ≤ 4611686018427387904:=by omega
 clear hb hd h hs hx hmr hml a0 a1 b0 b1 c0 c1 s1
 go_enter Tryz.func59,Tryz.ntmps59
 go_wp2_with fail
 refine (class_any 0 w true (by decide +kernel)).mono ?_
 rintro e w1 ⟨rfl,rfl⟩
 go_wp2_with fail
 refine HU.out.mono ?_
 rintro e w2 ⟨rfl,hB⟩
 have hl2:=HL.out.up hB
 go_wp2_with fail
 rw [index3_0]
 go_wp2_with fail
 refine (in_is true HB.out w2).mono ?_
 rintro e w3 ⟨rfl,rfl⟩
 go_wp2_with fail
 refine (HMR.out w2 hl2).mono ?_
 rintro e w9 ⟨v,rfl,hown,hb9⟩
 have hown5:=own_down (base':=w.heap.size) hown hB.size
 replace hB:=hB.trans (hb9.mono hB.size)
 clear hown hb9 hl2 HU HL
 obtain ⟨ln,hln⟩:∃ ln,l.length = ln:=⟨_,rfl⟩
 rw [hln] at hown5
 have HLN:=Lib.hid hln
 clear hln
 obtain ⟨A5,c5,rfl⟩:=slice_of_own hown5
 go_wp2
 go_ret2
 exact ⟨_,rfl,by rw [HLN.out]; exact hown5,hB⟩
set_option maxHeartbeats 4000000 in
set_option maxRecDepth 100000 in
theorem rel_no1 (A:Option Addr) (n k:Nat) (d:List Bk) (id sz:Int) (w:World) (hd:d.length = n) (hn:n ≤ 1000000) (h:Sl w w.heap.size 4 A n k (flatBk d)) (hs:SortB d) (x:Bk) (hx:rowB d id = x) (hb:inB sz 0 x.ub = false) :
  Calls Tryz.prog 59 #[.slice A n k,.int .i64 id,.int .i64 1,.int .i64 sz] w fun e w' => ∃ v,e = .returned (.tuple #[v,.bool false]) ∧ w'.ownsRow w.heap.size 50 4 v n (flatBk d) ∧ Below w.heap.size w w':=by
 have HU:=Lib.hid (used_any A n k d id w hd hn h hs x hx)
 have HD:=Lib.hid hd
 have HL:=Lib.hid h
 have HB:=Lib.hid hb
 clear hb hd h hs hx
 go_enter Tryz.func59,Tryz.ntmps59
 go_wp2_with fail
 refine (class_any 1 w true (by decide +kernel)).mono ?_
 rintro e w1 ⟨rfl,rfl⟩
 go_wp2_with fail
 refine HU.out.mono ?_
 rintro e w2 ⟨rfl,hB⟩
 have hl2:=HL.out.up hB
 go_wp2_with fail
 rw [index3_1]
 go_wp2_with fail
 refine (in_is false HB.out w2).mono ?_
 rintro e w3 ⟨rfl,rfl⟩
 go_wp2_with fail
 refine (cloneBk A n k d w2 HD.out hn hl2).mono ?_
 rintro e w9 ⟨v,rfl,hown,hb9⟩
 have hown5:=own_down (base':=w.heap.size) hown hB.size
 replace hB:=hB.trans (hb9.mono hB.size)
 clear hown hb9 hl2 HU HL
 obtain ⟨A5,c5,rfl⟩:=slice_of_own hown5
 go_wp2
 go_ret2
 exact ⟨_,rfl,hown5,hB⟩
set_option maxHeartbeats 4000000 in
set_option maxRecDepth 100000 in
theorem rel_yes1 (A:Option Addr) (n k:Nat) (d:List Bk) (id sz:Int) (w:World) (hd:d.length = n) (hn:n ≤ 1000000 - 1) (h:Sl w w.heap.size 4 A n k (flatBk d)) (hs:SortB d) (x:Bk) (hx:rowB d id = x) (hok:okU x) (hb:inB sz 0 x.ub = true) (l:List Bk) (hml:moreB d id (bump x 1 (-sz)) = l) :
  Calls Tryz.prog 59 #[.slice A n k,.int .i64 id,.int .i64 1,.int .i64 sz] w fun e w' => ∃ v,e = .returned (.tuple #[v,.bool true]) ∧ w'.ownsRow w.heap.size 50 4 v l.length (flatBk l) ∧ Below w.heap.size w w':=by
 have HU:=Lib.hid (used_any A n k d id w hd (by omega) h hs x hx)
 have HL:=Lib.hid h
 have HB:=Lib.hid hb
 have hsz:0 ≤ sz ∧ sz ≤ x.ub:=by unfold inB at hb; simpa using hb
 obtain ⟨a0,a1,b0,b1,c0,c1⟩:=hok
 have hmr:∀ w',Sl w' w'.heap.size 4 A n k (flatBk d) → Calls Tryz.prog 98 #[.slice A n k,.int .i64 id,.int .i64 1,.int .i64 (-sz)] w' fun e w'' => ∃ v,e = .returned v ∧ w''.ownsRow w'.heap.size 50 4 v l.length (flatBk l) ∧ Below w'.heap.size w' w'':=fun w' hl' => more_any A n k d id 1 (-sz) w' hd hn hl' hs x hx (by decide +kernel) (by simp [getU]; omega) (by simp [getU]; omega) l hml
 have HMR:=Lib.hid hmr
 obtain ⟨s0,s1⟩:=hsz
 have s2:sz ≤ 4611686018427387904:=by omega
 clear hb hd h hs hx hmr hml a0 a1 b0 b1 c0 c1 s1
 go_enter Tryz.func59,Tryz.ntmps59
 go_wp2_with fail
 refine (class_any 1 w true (by decide +kernel)).mono ?_
 rintro e w1 ⟨rfl,rfl⟩
 go_wp2_with fail
 refine HU.out.mono ?_
 rintro e w2 ⟨rfl,hB⟩
 have hl2:=HL.out.up hB
 go_wp2_with fail
 rw [index3_1]
 go_wp2_with fail
 refine (in_is true HB.out w2).mono ?_
 rintro e w3 ⟨rfl,rfl⟩
 go_wp2_with fail
 refine (HMR.out w2 hl2).mono ?_
 rintro e w9 ⟨v,rfl,hown,hb9⟩
 have hown5:=own_down (base':=w.heap.size) hown hB.size
 replace hB:=hB.trans (hb9.mono hB.size)
 clear hown hb9 hl2 HU HL
 obtain ⟨ln,hln⟩:∃ ln,l.length = ln:=⟨_,rfl⟩
 rw [hln] at hown5
 have HLN:=Lib.hid hln
 clear hln
 obtain ⟨A5,c5,rfl⟩:=slice_of_own hown5
 go_wp2
 go_ret2
 exact ⟨_,rfl,by rw [HLN.out]; exact hown5,hB⟩
set_option maxHeartbeats 4000000 in
set_option maxRecDepth 100000 in
theorem rel_no2 (A:Option Addr) (n k:Nat) (d:List Bk) (id sz:Int) (w:World) (hd:d.length = n) (hn:n ≤ 1000000) (h:Sl w w.heap.size 4 A n k (flatBk d)) (hs:SortB d) (x:Bk) (hx:rowB d id = x) (hb:inB sz 0 x.uc = false) :
  Calls Tryz.prog 59 #[.slice A n k,.int .i64 id,.int .i64 2,.int .i64 sz] w fun e w' => ∃ v,e = .returned (.tuple #[v,.bool false]) ∧ w'.ownsRow w.heap.size 50 4 v n (flatBk d) ∧ Below w.heap.size w w':=by
 have HU:=Lib.hid (used_any A n k d id w hd hn h hs x hx)
 have HD:=Lib.hid hd
 have HL:=Lib.hid h
 have HB:=Lib.hid hb
 clear hb hd h hs hx
 go_enter Tryz.func59,Tryz.ntmps59
 go_wp2_with fail
 refine (class_any 2 w true (by decide +kernel)).mono ?_
 rintro e w1 ⟨rfl,rfl⟩
 go_wp2_with fail
 refine HU.out.mono ?_
 rintro e w2 ⟨rfl,hB⟩
 have hl2:=HL.out.up hB
 go_wp2_with fail
 rw [index3_2]
 go_wp2_with fail
 refine (in_is false HB.out w2).mono ?_
 rintro e w3 ⟨rfl,rfl⟩
 go_wp2_with fail
 refine (cloneBk A n k d w2 HD.out hn hl2).mono ?_
 rintro e w9 ⟨v,rfl,hown,hb9⟩
 have hown5:=own_down (base':=w.heap.size) hown hB.size
 replace hB:=hB.trans (hb9.mono hB.size)
 clear hown hb9 hl2 HU HL
 obtain ⟨A5,c5,rfl⟩:=slice_of_own hown5
 go_wp2
 go_ret2
 exact ⟨_,rfl,hown5,hB⟩
set_option maxHeartbeats 4000000 in
set_option maxRecDepth 100000 in
theorem rel_yes2 (A:Option Addr) (n k:Nat) (d:List Bk) (id sz:Int) (w:World) (hd:d.length = n) (hn:n ≤ 1000000 - 1) (h:Sl w w.heap.size 4 A n k (flatBk d)) (hs:SortB d) (x:Bk) (hx:rowB d id = x) (hok:okU x) (hb:inB sz 0 x.uc = true) (l:List Bk) (hml:moreB d id (bump x 2 (-sz)) = l) :
  Calls Tryz.prog 59 #[.slice A n k,.int .i64 id,.int .i64 2,.int .i64 sz] w fun e w' => ∃ v,e = .returned (.tuple #[v,.bool true]) ∧ w'.ownsRow w.heap.size 50 4 v l.length (flatBk l) ∧ Below w.heap.size w w':=by
 have HU:=Lib.hid (used_any A n k d id w hd (by omega) h hs x hx)
 have HL:=Lib.hid h
 have HB:=Lib.hid hb
 have hsz:0 ≤ sz ∧ sz ≤ x.uc:=by unfold inB at hb; simpa using hb
 obtain ⟨a0,a1,b0,b1,c0,c1⟩:=hok
 have hmr:∀ w',Sl w' w'.heap.size 4 A n k (flatBk d) → Calls Tryz.prog 98 #[.slice A n k,.int .i64 id,.int .i64 2,.int .i64 (-sz)] w' fun e w'' => ∃ v,e = .returned v ∧ w''.ownsRow w'.heap.size 50 4 v l.length (flatBk l) ∧ Below w'.heap.size w' w'':=fun w' hl' => more_any A n k d id 2 (-sz) w' hd hn hl' hs x hx (by decide +kernel) (by simp [getU]; omega) (by simp [getU]; omega) l hml
 have HMR:=Lib.hid hmr
 obtain ⟨s0,s1⟩:=hsz
 have s2:sz ≤ 4611686018427387904:=by omega
 clear hb hd h hs hx hmr hml a0 a1 b0 b1 c0 c1 s1
 go_enter Tryz.func59,Tryz.ntmps59
 go_wp2_with fail
 refine (class_any 2 w true (by decide +kernel)).mono ?_
 rintro e w1 ⟨rfl,rfl⟩
 go_wp2_with fail
 refine HU.out.mono ?_
 rintro e w2 ⟨rfl,hB⟩
 have hl2:=HL.out.up hB
 go_wp2_with fail
 rw [index3_2]
 go_wp2_with fail
 refine (in_is true HB.out w2).mono ?_
 rintro e w3 ⟨rfl,rfl⟩
 go_wp2_with fail
 refine (HMR.out w2 hl2).mono ?_
 rintro e w9 ⟨v,rfl,hown,hb9⟩
 have hown5:=own_down (base':=w.heap.size) hown hB.size
 replace hB:=hB.trans (hb9.mono hB.size)
 clear hown hb9 hl2 HU HL
 obtain ⟨ln,hln⟩:∃ ln,l.length = ln:=⟨_,rfl⟩
 rw [hln] at hown5
 have HLN:=Lib.hid hln
 clear hln
 obtain ⟨A5,c5,rfl⟩:=slice_of_own hown5
 go_wp2
 go_ret2
 exact ⟨_,rfl,by rw [HLN.out]; exact hown5,hB⟩
set_option maxRecDepth 100000 in
theorem rel_bad (A:Option Addr) (n k:Nat) (d:List Bk) (id cl sz:Int) (w:World) (hd:d.length = n) (hn:n ≤ 1000000) (h:Sl w w.heap.size 4 A n k (flatBk d)) (hb:inB cl 0 2 = false) :
  Calls Tryz.prog 59 #[.slice A n k,.int .i64 id,.int .i64 cl,.int .i64 sz] w fun e w' => ∃ v,e = .returned (.tuple #[v,.bool false]) ∧ w'.ownsRow w.heap.size 50 4 v n (flatBk d) ∧ Below w.heap.size w w':=by
 have HD:=Lib.hid hd
 have HL:=Lib.hid h
 have HB:=Lib.hid hb
 clear hb hd h
 go_enter Tryz.func59,Tryz.ntmps59
 go_wp2_with fail
 refine (class_any cl w false HB.out).mono ?_
 rintro e w1 ⟨rfl,rfl⟩
 go_wp2_with fail
 refine (cloneBk A n k d w HD.out hn HL.out).mono ?_
 rintro e w9 ⟨v,rfl,hown,hb9⟩
 clear HL
 obtain ⟨A5,c5,rfl⟩:=slice_of_own hown
 go_wp2
 go_ret2
 exact ⟨_,rfl,hown,hb9⟩
theorem rel_no (A:Option Addr) (n k:Nat) (d:List Bk) (id cl sz:Int) (w:World) (hd:d.length = n) (hn:n ≤ 1000000) (h:Sl w w.heap.size 4 A n k (flatBk d)) (hs:SortB d) (hb:relB d id cl sz = false) :
  Calls Tryz.prog 59 #[.slice A n k,.int .i64 id,.int .i64 cl,.int .i64 sz] w fun e w' => ∃ v,e = .returned (.tuple #[v,.bool false]) ∧ w'.ownsRow w.heap.size 50 4 v n (flatBk d) ∧ Below w.heap.size w w':=by
 cases hc:inB cl 0 2 with
 | false => exact rel_bad A n k d id cl sz w hd hn h hc
 | true =>
  unfold relB at hb
  rw [hc,Bool.true_and] at hb
  rcases class_cases hc with rfl | rfl | rfl
  ·exact rel_no0 A n k d id sz w hd hn h hs _ rfl hb
  ·exact rel_no1 A n k d id sz w hd hn h hs _ rfl hb
  ·exact rel_no2 A n k d id sz w hd hn h hs _ rfl hb
theorem rel_yes (A:Option Addr) (n k:Nat) (d:List Bk) (id cl sz:Int) (w:World) (hd:d.length = n) (hn:n ≤ 1000000 - 1) (h:Sl w w.heap.size 4 A n k (flatBk d)) (hs:SortB d) (hok:okU (rowB d id)) (hb:relB d id cl sz = true) (l:List Bk) (hml:moreB d id (bump (rowB d id) cl (-sz)) = l) :
  Calls Tryz.prog 59 #[.slice A n k,.int .i64 id,.int .i64 cl,.int .i64 sz] w fun e w' => ∃ v,e = .returned (.tuple #[v,.bool true]) ∧ w'.ownsRow w.heap.size 50 4 v l.length (flatBk l) ∧ Below w.heap.size w w':=by
 unfold relB at hb
 simp only [Bool.and_eq_true] at hb
 obtain ⟨hc,hb⟩:=hb
 rcases class_cases hc with rfl | rfl | rfl
 ·exact rel_yes0 A n k d id sz w hd hn h hs _ rfl hok hb l hml
 ·exact rel_yes1 A n k d id sz w hd hn h hs _ rfl hok hb l hml
 ·exact rel_yes2 A n k d id sz w hd hn h hs _ rfl hok hb l hml
end Go.Proofs.YtjldgcebadojiaaGreatDoor.Kb
