/- Several texts of mine in one: Ledger4, Ledger5, StBk, Ledger6, LedgerMath, Ref03, Ref10, Ref12b, Ref09, Ref09b. No condition. -/
import Derived.Test.YtodcoockhkghdaaGreatLedger3
import Derived.Test.YtodcoockhkghdaaGreatGQ1
import Derived.Test.YtodcoockhkghdaaGreatGQ4
import Derived.Test.YtodcoockhkghdaaGreatGQ8
import Derived.Test.YtodcoockhkghdaaGreatGQ31
namespace Go.Proofs.YtodcoockhkghdaaGreat.Kb
open Go.ChangeShapes Go.WideShapes Go.ChangeAt Go.RowKit Go.Sort
set_option linter.unusedSimpArgs false
set_option linter.unusedVariables false
def getU (x:Bk) (cl:Int):Int:=if cl = 0 then x.ua else if cl = 1 then x.ub else x.uc
theorem class_cases {cl:Int} (h:inB cl 0 2 = true):cl = 0 ∨ cl = 1 ∨ cl = 2:=by
 unfold inB at h
 simp at h
 omega
theorem more_any (A:Option Addr) (n c:Nat) (d:List Bk) (id cl sz:Int) (w:World) (hd:d.length = n) (hn:n ≤ 1000000 - 1) (h:Sl w w.heap.size 4 A n c (flatBk d)) (hs:SortB d) (x:Bk) (hx:rowB d id = x) (hc:inB cl 0 2 = true) (ho1 : -9223372036854775808 ≤ getU x cl + sz) (ho2:getU x cl + sz ≤ 9223372036854775807) (l:List Bk) (hl:moreB d id (bump x cl sz) = l) :
  Calls Tryz.prog 62 #[.slice A n c,.int .i64 id,.int .i64 cl,.int .i64 sz] w fun e w' => ∃ v,e = .returned v ∧ w'.ownsRow w.heap.size 65 4 v l.length (flatBk l) ∧ Below w.heap.size w w':=by
 have hid:x.id = id:=by rw [← hx]; exact rowB_id hs
 rcases class_cases hc with rfl | rfl | rfl
 ·rw [← hl,show bump x 0 sz = ⟨id,x.ua + sz,x.ub,x.uc⟩ from by simp [bump,hid]]
  exact more0 A n c d id sz w hd hn h hs x hx ho1 ho2
 ·rw [← hl,show bump x 1 sz = ⟨id,x.ua,x.ub + sz,x.uc⟩ from by simp [bump,hid]]
  exact more1 A n c d id sz w hd hn h hs x hx ho1 ho2
 ·rw [← hl,show bump x 2 sz = ⟨id,x.ua,x.ub,x.uc + sz⟩ from by simp [bump,hid]]
  exact more2 A n c d id sz w hd hn h hs x hx ho1 ho2
def bookB (d:List Bk) (c:Ct) (cl sz:Int):Bool:=okC c && (inB cl 0 2 && inB sz 0 (roomF c (rowB d c.id) cl))
theorem capAdd_ge {t n:Int} (h1:0 ≤ t) (h2:t ≤ 4611686018427387904) (h3:0 ≤ n) (h4:n ≤ 4611686018427387904):t ≤ capAdd t n ∧ n ≤ capAdd t n:=by unfold capAdd; omega
theorem back_ge {x:Bk} (h:okU x) {cl:Int} (hc:inB cl 0 2 = true):getU x cl ≤ backF x cl:=by
 obtain ⟨h1,h2,h3,h4,h5,h6⟩:=h
 have a0:=capAdd_ok (t:=0) (n:=x.ua) (by omega) (by omega) h1
 have a1:=capAdd_ok (t:=0) (n:=x.ub) (by omega) (by omega) h3
 have b1:=capAdd_ok a0.1 a0.2 h3
 have g0:=capAdd_ge (t:=0) (n:=x.ua) (by omega) (by omega) h1 h2
 have g1:=capAdd_ge (t:=0) (n:=x.ub) (by omega) (by omega) h3 h4
 have g2:=capAdd_ge (t:=0) (n:=x.uc) (by omega) (by omega) h5 h6
 have g3:=capAdd_ge a0.1 a0.2 h3 h4
 have g4:=capAdd_ge b1.1 b1.2 h5 h6
 have g5:=capAdd_ge a1.1 a1.2 h5 h6
 rcases class_cases hc with rfl | rfl | rfl
 ·simp only [getU,backF,if_true]; omega
 ·simp [getU,backF]; omega
 ·simp [getU,backF]; omega
theorem getU_ok {x:Bk} (h:okU x) (cl:Int):0 ≤ getU x cl ∧ getU x cl ≤ 4611686018427387904:=by
 obtain ⟨h1,h2,h3,h4,h5,h6⟩:=h
 unfold getU
 split
 ·omega
 ·split <;> omega
set_option maxHeartbeats 4000000 in
set_option maxRecDepth 100000 in
theorem book_no (A:Option Addr) (n k:Nat) (d:List Bk) (c:Ct) (cl sz:Int) (w:World) (hd:d.length = n) (hn:n ≤ 1000000) (h:Sl w w.heap.size 4 A n k (flatBk d)) (hs:SortB d) (hok:okU (rowB d c.id)) (hb:bookB d c cl sz = false) :
  Calls Tryz.prog 26 #[.slice A n k,.agg #[.int .i64 c.id,.int .i64 c.fr,.int .i64 c.tn,.int .i64 c.st,.int .i64 c.en,.int .i64 c.rt],.int .i64 cl,.int .i64 sz] w fun e w' => ∃ v,e = .returned (.tuple #[v,.bool false]) ∧ w'.ownsRow w.heap.size 65 4 v n (flatBk d) ∧ Below w.heap.size w w':=by
 have hBa:Below w.heap.size w (w.alloc (.cells #[.int .i64 c.id,.int .i64 c.fr,.int .i64 c.tn,.int .i64 c.st,.int .i64 c.en,.int .i64 c.rt] 59)):=by (repeat (first | exact Below.refl _ _ | refine Below.alloc ?_ (by first | omega | (simp; done) | (simp; omega)) _ | refine Below.setCell ?_ (by first | omega | (simp; done) | (simp; omega)) _ | refine Below.drew ?_))
 have hX:=Blok.new w 59 #[.int .i64 c.id,.int .i64 c.fr,.int .i64 c.tn,.int .i64 c.st,.int .i64 c.en,.int .i64 c.rt]
 have hl:=h.up hBa
 have HD:=Lib.hid hd
 obtain ⟨b1,h1⟩:∃ b,okC c = b:=⟨_,rfl⟩
 obtain ⟨b2,h2⟩:∃ b,inB cl 0 2 = b:=⟨_,rfl⟩
 obtain ⟨r,hr⟩:∃ r,roomF c (rowB d c.id) cl = r:=⟨_,rfl⟩
 obtain ⟨b3,h3⟩:∃ b,inB sz 0 r = b:=⟨_,rfl⟩
 have hcase:b1 = false ∨ (b1 = true ∧ b2 = false) ∨ (b1 = true ∧ b2 = true ∧ b3 = false):=by
  unfold bookB at hb
  rw [hr,h1,h2,h3] at hb
  cases b1 <;> cases b2 <;> cases b3 <;> simp_all
 have h1':contactB c.id c.fr c.tn c.st c.en c.rt = b1:=h1
 have H1:=Lib.hid h1'
 have H2:=Lib.hid h2
 have H3:=Lib.hid h3
 have hrm:∀ w',Sl w' w'.heap.size 4 A n k (flatBk d) → Calls Tryz.prog 60 #[.slice A n k,.agg #[.int .i64 c.id,.int .i64 c.fr,.int .i64 c.tn,.int .i64 c.st,.int .i64 c.en,.int .i64 c.rt],.int .i64 cl] w' fun e w'' => e = .returned (.int .i64 r) ∧ Below w'.heap.size w' w'':=fun w' hl' => room_any A n k d c cl w' hd hn hl' hs _ rfl hok r hr
 have HRM:=Lib.hid hrm
 clear hb h1 h1' h2 h3 hr hd h hs hok hrm
 rcases hcase with rfl | ⟨rfl,rfl⟩ | ⟨rfl,rfl,rfl⟩

 ·skip
  go_enter Tryz.func26,Tryz.ntmps26
  go_wp2_with fail
  generalize w.alloc (.cells #[.int .i64 c.id,.int .i64 c.fr,.int .i64 c.tn,.int .i64 c.st,.int .i64 c.en,.int .i64 c.rt] 59) = w2 at *
  refine (contact_is false H1.out w2).mono ?_
  rintro e w3 ⟨rfl,hb3⟩
  replace hl:=hl.up hb3
  replace hX:=hX.below hb3 hX.lt
  replace hBa:=hBa.trans (hb3.mono hBa.size)
  clear hb3
  go_wp2_with fail
  refine (cloneBk A n k d w3 HD.out hn hl).mono ?_
  rintro e w9 ⟨v,rfl,hown,hb9⟩
  have hown5:=own_down (base':=w.heap.size) hown hBa.size
  replace hBa:=hBa.trans (hb9.mono hBa.size)
  clear hown hb9 hl hX
  obtain ⟨A5,c5,rfl⟩:=slice_of_own hown5
  go_wp2
  go_ret2
  exact ⟨_,rfl,hown5,hBa⟩
 ·skip
  go_enter Tryz.func26,Tryz.ntmps26
  go_wp2_with fail
  generalize w.alloc (.cells #[.int .i64 c.id,.int .i64 c.fr,.int .i64 c.tn,.int .i64 c.st,.int .i64 c.en,.int .i64 c.rt] 59) = w2 at *
  refine (contact_is true H1.out w2).mono ?_
  rintro e w3 ⟨rfl,hb3⟩
  replace hl:=hl.up hb3
  replace hX:=hX.below hb3 hX.lt
  replace hBa:=hBa.trans (hb3.mono hBa.size)
  clear hb3
  go_wp2_with fail
  refine (class_any cl w3 false H2.out).mono ?_
  rintro e w4 ⟨rfl,rfl⟩
  go_wp2_with fail
  refine (cloneBk A n k d w3 HD.out hn hl).mono ?_
  rintro e w9 ⟨v,rfl,hown,hb9⟩
  have hown5:=own_down (base':=w.heap.size) hown hBa.size
  replace hBa:=hBa.trans (hb9.mono hBa.size)
  clear hown hb9 hl hX
  obtain ⟨A5,c5,rfl⟩:=slice_of_own hown5
  go_wp2
  go_ret2
  exact ⟨_,rfl,hown5,hBa⟩
 ·skip
  go_enter Tryz.func26,Tryz.ntmps26
  go_wp2_with fail
  generalize w.alloc (.cells #[.int .i64 c.id,.int .i64 c.fr,.int .i64 c.tn,.int .i64 c.st,.int .i64 c.en,.int .i64 c.rt] 59) = w2 at *
  refine (contact_is true H1.out w2).mono ?_
  rintro e w3 ⟨rfl,hb3⟩
  replace hl:=hl.up hb3
  replace hX:=hX.below hb3 hX.lt
  replace hBa:=hBa.trans (hb3.mono hBa.size)
  clear hb3
  have x0:w3.cell? ⟨w.heap.size,0,none⟩ = some (.int .i64 c.id):=hX.cell 0
  have x1:w3.cell? ⟨w.heap.size,1,none⟩ = some (.int .i64 c.fr):=hX.cell 1
  have x2:w3.cell? ⟨w.heap.size,2,none⟩ = some (.int .i64 c.tn):=hX.cell 2
  have x3:w3.cell? ⟨w.heap.size,3,none⟩ = some (.int .i64 c.st):=hX.cell 3
  have x4:w3.cell? ⟨w.heap.size,4,none⟩ = some (.int .i64 c.en):=hX.cell 4
  have x5:w3.cell? ⟨w.heap.size,5,none⟩ = some (.int .i64 c.rt):=hX.cell 5
  have hlt:=hX.lt
  go_wp2_with fail
  refine (class_any cl w3 true H2.out).mono ?_
  rintro e w4 ⟨rfl,rfl⟩
  go_wp2_with fail
  clear x0 x1 x2 x3 x4 x5
  refine (HRM.out w3 hl).mono ?_
  rintro e w5 ⟨rfl,hb5⟩
  replace hl:=hl.up hb5
  replace hX:=hX.below hb5 hX.lt
  replace hBa:=hBa.trans (hb5.mono hBa.size)
  clear hb5 HRM
  go_wp2_with fail
  refine (in_is false H3.out w5).mono ?_
  rintro e w6 ⟨rfl,rfl⟩
  go_wp2_with fail
  refine (cloneBk A n k d w5 HD.out hn hl).mono ?_
  rintro e w9 ⟨v,rfl,hown,hb9⟩
  have hown5:=own_down (base':=w.heap.size) hown hBa.size
  replace hBa:=hBa.trans (hb9.mono hBa.size)
  clear hown hb9 hl hX
  obtain ⟨A5,c5,rfl⟩:=slice_of_own hown5
  go_wp2
  go_ret2
  exact ⟨_,rfl,hown5,hBa⟩
set_option maxHeartbeats 4000000 in
set_option maxRecDepth 100000 in
theorem book_yes (A:Option Addr) (n k:Nat) (d:List Bk) (c:Ct) (cl sz:Int) (w:World) (hd:d.length = n) (hn:n ≤ 1000000 - 1) (h:Sl w w.heap.size 4 A n k (flatBk d)) (hs:SortB d) (hok:okU (rowB d c.id)) (hb:bookB d c cl sz = true) (l:List Bk) (hml:moreB d c.id (bump (rowB d c.id) cl sz) = l) :
  Calls Tryz.prog 26 #[.slice A n k,.agg #[.int .i64 c.id,.int .i64 c.fr,.int .i64 c.tn,.int .i64 c.st,.int .i64 c.en,.int .i64 c.rt],.int .i64 cl,.int .i64 sz] w fun e w' => ∃ v,e = .returned (.tuple #[v,.bool true]) ∧ w'.ownsRow w.heap.size 65 4 v l.length (flatBk l) ∧ Below w.heap.size w w':=by
 have hBa:Below w.heap.size w (w.alloc (.cells #[.int .i64 c.id,.int .i64 c.fr,.int .i64 c.tn,.int .i64 c.st,.int .i64 c.en,.int .i64 c.rt] 59)):=by (repeat (first | exact Below.refl _ _ | refine Below.alloc ?_ (by first | omega | (simp; done) | (simp; omega)) _ | refine Below.setCell ?_ (by first | omega | (simp; done) | (simp; omega)) _ | refine Below.drew ?_))
 have hX:=Blok.new w 59 #[.int .i64 c.id,.int .i64 c.fr,.int .i64 c.tn,.int .i64 c.st,.int .i64 c.en,.int .i64 c.rt]
 have hl:=h.up hBa
 obtain ⟨r,hr⟩:∃ r,roomF c (rowB d c.id) cl = r:=⟨_,rfl⟩
 unfold bookB at hb
 simp only [Bool.and_eq_true] at hb
 obtain ⟨h1,h2,h3⟩:=hb
 rw [hr] at h3
 have hvc:=volC_ok c
 have hbk:=backF_ok hok cl
 have hge:=back_ge hok h2
 have hgu:=getU_ok hok cl
 have hsz:0 ≤ sz ∧ sz ≤ r:=by unfold inB at h3; simpa using h3
 have hrr:r ≤ 4611686014132420609:=by rw [← hr]; unfold roomF; rw [if_pos h2]; omega
 have h1':contactB c.id c.fr c.tn c.st c.en c.rt = true:=h1
 have H1:=Lib.hid h1'
 have H2:=Lib.hid h2
 have H3:=Lib.hid h3
 have hrm:∀ w',Sl w' w'.heap.size 4 A n k (flatBk d) → Calls Tryz.prog 60 #[.slice A n k,.agg #[.int .i64 c.id,.int .i64 c.fr,.int .i64 c.tn,.int .i64 c.st,.int .i64 c.en,.int .i64 c.rt],.int .i64 cl] w' fun e w'' => e = .returned (.int .i64 r) ∧ Below w'.heap.size w' w'':=fun w' hl' => room_any A n k d c cl w' hd (by omega) hl' hs _ rfl hok r hr
 have hmr:∀ w',Sl w' w'.heap.size 4 A n k (flatBk d) → Calls Tryz.prog 62 #[.slice A n k,.int .i64 c.id,.int .i64 cl,.int .i64 sz] w' fun e w'' => ∃ v,e = .returned v ∧ w''.ownsRow w'.heap.size 65 4 v l.length (flatBk l) ∧ Below w'.heap.size w' w'':=fun w' hl' => more_any A n k d c.id cl sz w' hd hn hl' hs _ rfl h2 (by omega) (by omega) l hml
 have HRM:=Lib.hid hrm
 have HMR:=Lib.hid hmr
 clear h1 h1' h2 h3 hr hd h hs hok hrm hmr hml hvc hbk hge hgu hsz hrr
 go_enter Tryz.func26,Tryz.ntmps26
 go_wp2_with fail
 generalize w.alloc (.cells #[.int .i64 c.id,.int .i64 c.fr,.int .i64 c.tn,.int .i64 c.st,.int .i64 c.en,.int .i64 c.rt] 59) = w2 at *
 refine (contact_is true H1.out w2).mono ?_
 rintro e w3 ⟨rfl,hb3⟩
 replace hl:=hl.up hb3
 replace hX:=hX.below hb3 hX.lt
 replace hBa:=hBa.trans (hb3.mono hBa.size)
 clear hb3
 have x0:w3.cell? ⟨w.heap.size,0,none⟩ = some (.int .i64 c.id):=hX.cell 0
 have x1:w3.cell? ⟨w.heap.size,1,none⟩ = some (.int .i64 c.fr):=hX.cell 1
 have x2:w3.cell? ⟨w.heap.size,2,none⟩ = some (.int .i64 c.tn):=hX.cell 2
 have x3:w3.cell? ⟨w.heap.size,3,none⟩ = some (.int .i64 c.st):=hX.cell 3
 have x4:w3.cell? ⟨w.heap.size,4,none⟩ = some (.int .i64 c.en):=hX.cell 4
 have x5:w3.cell? ⟨w.heap.size,5,none⟩ = some (.int .i64 c.rt):=hX.cell 5
 have hlt:=hX.lt
 go_wp2_with fail
 refine (class_any cl w3 true H2.out).mono ?_
 rintro e w4 ⟨rfl,rfl⟩
 go_wp2_with fail
 clear x0 x1 x2 x3 x4 x5
 refine (HRM.out w3 hl).mono ?_
 rintro e w5 ⟨rfl,hb5⟩
 replace hl:=hl.up hb5
 replace hX:=hX.below hb5 hX.lt
 replace hBa:=hBa.trans (hb5.mono hBa.size)
 clear hb5 HRM
 go_wp2_with fail
 refine (in_is true H3.out w5).mono ?_
 rintro e w6 ⟨rfl,rfl⟩
 have x0:w5.cell? ⟨w.heap.size,0,none⟩ = some (.int .i64 c.id):=hX.cell 0
 have hlt5:=hX.lt
 go_wp2_with fail
 refine (HMR.out w5 hl).mono ?_
 rintro e w9 ⟨v,rfl,hown,hb9⟩
 have hown5:=own_down (base':=w.heap.size) hown hBa.size
 replace hBa:=hBa.trans (hb9.mono hBa.size)
 clear hown hb9 hl hX x0
 obtain ⟨ln,hln⟩:∃ ln,l.length = ln:=⟨_,rfl⟩
 rw [hln] at hown5
 have HLN:=Lib.hid hln
 clear hln
 obtain ⟨A5,c5,rfl⟩:=slice_of_own hown5
 go_wp2
 go_ret2
 exact ⟨_,rfl,by rw [HLN.out]; exact hown5,hBa⟩
def inM (v:Int):Bool:=inB v 0 4611686018427387904
def stepR (d:List Bk) (i:Nat):Bool:=inB (gBk d i).id 1 1048576 && ((i == 0 || decide ((gBk d (i - 1)).id < (gBk d i).id)) && (!zeroU (gBk d i) && (inM (gBk d i).ua && (inM (gBk d i).ub && inM (gBk d i).uc))))
def rightB (d:List Bk):Bool:=(List.range d.length).all (stepR d)
theorem rightB_true {d:List Bk}:rightB d = true ↔ ∀ i,i < d.length → stepR d i = true:=by
 simp [rightB,List.all_eq_true]
theorem rightB_false {d:List Bk} {i:Nat} (hi:i < d.length) (h:stepR d i = false):rightB d = false:=by
 rw [Bool.eq_false_iff]
 intro e
 rw [rightB_true.1 e i hi] at h
 cases h
theorem intAt {l:List Int} {k:Nat} (h:k < l.length):(l.map (Value.int .i64))[k]? = some (.int .i64 (l.getD k 0)):=by
 simp [List.getD_eq_getElem?_getD,List.getElem?_eq_getElem h]
theorem Lst.atI {w:World} {B:Nat} {A:Option Addr} {n:Nat} {l:List Int} (h:Lst w B 1 A n (l.map (Value.int .i64))) (hl:l.length = n) {k:Nat} (hk:k < n):∃ ad,A = some ad ∧ ad.block < B ∧ w.cell? (ad.add k) = some (.int .i64 (l.getD k 0)):=by
 obtain ⟨ad,e,hb,hc⟩:=h.at_ (by omega)
 exact ⟨ad,e,hb,hc _ _ (intAt (by omega))⟩
def okRow (x:Bk):Bool:=inB x.id 1 1048576 && (!zeroU x && (inM x.ua && (inM x.ub && inM x.uc)))
theorem okRow_ok {x:Bk} (h:okRow x = true):okU x ∧ (1 ≤ x.id ∧ x.id ≤ 1048576) ∧ zeroU x = false:=by
 unfold okRow inM inB at h
 simp only [Bool.and_eq_true,decide_eq_true_eq,Bool.not_eq_true'] at h
 unfold okU
 exact ⟨by omega,by omega,h.2.1⟩
theorem okRow_of {x:Bk} (h:okU x) (h1:1 ≤ x.id) (h2:x.id ≤ 1048576) (h3:zeroU x = false):okRow x = true:=by
 unfold okU at h
 unfold okRow inM inB
 simp only [Bool.and_eq_true,decide_eq_true_eq,Bool.not_eq_true']
 exact ⟨by omega,h3,by omega,by omega,by omega⟩
theorem right_iff {d:List Bk}:rightB d = true ↔ SortB d ∧ ∀ x ∈ d,okRow x = true:=by
 rw [rightB_true]
 constructor
 ·intro h
  have hstep:∀ i,i + 1 < d.length → (gBk d i).id < (gBk d (i + 1)).id:=fun i hi => by
   have:=h (i + 1) hi
   unfold stepR at this
   simp only [Bool.and_eq_true,Bool.or_eq_true,Nat.add_sub_cancel,decide_eq_true_eq,beq_iff_eq] at this
   rcases this.2.1 with e | e
   ·omega
   ·exact e
  have hlt:∀ k i,i + k + 1 < d.length → (gBk d i).id < (gBk d (i + k + 1)).id:=by
   intro k
   induction k with
   | zero => intro i hi; exact hstep i hi
   | succ k ih =>
    intro i hi
    have e1:=ih i (by omega)
    have e2:=hstep (i + k + 1) (by omega)
    rw [show i + (k + 1) + 1 = i + k + 1 + 1 from by omega]
    omega
  refine ⟨List.pairwise_iff_getElem.2 (fun i j hi hj hij => ?_),fun x hx => ?_⟩
  ·have:=hlt (j - i - 1) i (by omega)
   rw [show i + (j - i - 1) + 1 = j from by omega,gBk_eq hi,gBk_eq hj] at this
   exact this
  ·obtain ⟨j,hj,rfl⟩:=mem_gBk hx
   have:=h j hj
   unfold stepR at this
   unfold okRow
   simp only [Bool.and_eq_true] at this ⊢
   exact ⟨this.1,this.2.2⟩
 ·rintro ⟨hs,h⟩ i hi
  have:=h _ (gBk_mem hi)
  unfold okRow at this
  unfold stepR
  simp only [Bool.and_eq_true,Bool.or_eq_true,beq_iff_eq,decide_eq_true_eq] at this ⊢
  refine ⟨this.1,?_,this.2⟩
  by_cases e:i = 0
  ·exact .inl e
  ·exact .inr (hs.at_ (i:=i - 1) (j:=i) (by omega) hi)
theorem right_sort {d:List Bk} (h:rightB d = true):SortB d:=(right_iff.1 h).1
theorem rowB_none {d:List Bk} {j:Int} (h:∀ y ∈ d,y.id ≠ j):rowB d j = ⟨j,0,0,0⟩:=by
 have:hit d j = false:=by unfold hit; rw [List.any_eq_false]; intro y hy; simpa using h y hy
 unfold rowB
 rw [if_neg (by rw [this]; simp)]
theorem rowB_mem {d:List Bk} (hs:SortB d) {x:Bk} (hx:x ∈ d):rowB d x.id = x:=by
 have hh:hit d x.id = true:=by unfold hit; rw [List.any_eq_true]; exact ⟨x,hx,by simp⟩
 unfold rowB
 rw [if_pos hh]
 obtain ⟨h1,h2⟩:=hit_at hs hh
 obtain ⟨j,hj,e⟩:=mem_gBk hx
 by_cases e2:pl d x.id = j
 ·rw [e2,e]
 ·exfalso
  rcases Nat.lt_or_gt_of_ne e2 with h3 | h3
  ·have:=hs.at_ h3 hj; rw [e,h2] at this; omega
  ·have:=hs.at_ h3 h1; rw [e,h2] at this; omega
theorem rowB_cases {d:List Bk} (hs:SortB d) (j:Int):(rowB d j ∈ d ∧ (rowB d j).id = j) ∨ ((∀ y ∈ d,y.id ≠ j) ∧ rowB d j = ⟨j,0,0,0⟩):=by
 by_cases h:∃ y ∈ d,y.id = j
 ·obtain ⟨y,hy,rfl⟩:=h
  rw [rowB_mem hs hy]
  exact .inl ⟨hy,rfl⟩
 ·have h':∀ y ∈ d,y.id ≠ j:=fun y hy e => h ⟨y,hy,e⟩
  exact .inr ⟨h',rowB_none h'⟩
theorem right_ok {d:List Bk} (h:rightB d = true) (j:Int):okU (rowB d j):=by
 obtain ⟨hs,ho⟩:=right_iff.1 h
 rcases rowB_cases hs j with ⟨h1,_⟩ | ⟨_,h2⟩
 ·exact (okRow_ok (ho _ h1)).1
 ·rw [h2]; unfold okU; simp
theorem more_parts:∀ {d:List Bk} (id:Int),SortB d → d.take (pl d id) = d.filter (fun x => decide (x.id < id)) ∧ d.drop (pl d id + if hit d id = true then 1 else 0) = d.filter (fun x => decide (id < x.id))
 | [],id,_ => by simp [pl,hit]
 | a :: s,id,hd => by
  obtain ⟨d1,d2⟩:=List.pairwise_cons.1 hd
  obtain ⟨i1,i2⟩:=more_parts (d:=s) id d2
  by_cases h1:a.id < id
  ·have e1:pl (a :: s) id = pl s id + 1:=by simp [pl,h1]
   have e2:hit (a :: s) id = hit s id:=by
    have:(a.id == id) = false:=by simp; omega
    simp [hit,this]
   rw [e1,e2,List.take_succ_cons,i1,show pl s id + 1 + (if hit s id = true then 1 else 0) = (pl s id + if hit s id = true then 1 else 0) + 1 from by omega,List.drop_succ_cons,i2]
   refine ⟨?_,?_⟩
   ·rw [List.filter_cons_of_pos (by simpa using h1)]
   ·rw [List.filter_cons_of_neg (by simp; omega)]
  ·have hge:∀ x ∈ s,¬ x.id < id:=fun x hx => by have:=d1 x hx; omega
   have hgt:s.filter (fun x => decide (id < x.id)) = s:=List.filter_eq_self.2 (fun x hx => by have:=d1 x hx; simp; omega)
   have hf0:(a :: s).filter (fun x => decide (x.id < id)) = []:=List.filter_eq_nil_iff.2 (fun x hx => by
    rcases List.mem_cons.1 hx with rfl | hx
    ·simpa using h1
    ·simpa using hge x hx)
   have e1:pl (a :: s) id = 0:=by unfold pl; rw [hf0]; rfl
   rw [e1,hf0]
   refine ⟨rfl,?_⟩
   by_cases h2:a.id = id
   ·have e2:hit (a :: s) id = true:=by simp [hit,h2]
    rw [e2,List.filter_cons_of_neg (by simp; omega),hgt]
    rfl
   ·have e2:hit (a :: s) id = false:=by
     unfold hit
     rw [List.any_eq_false]
     intro x hx
     rcases List.mem_cons.1 hx with rfl | hx
     ·simpa using h2
     ·have:=d1 x hx; simp; omega
    rw [e2,List.filter_cons_of_pos (by simp; omega),hgt]
    rfl
theorem more_mem {d:List Bk} {id:Int} {y:Bk} (hs:SortB d) {x:Bk}:x ∈ moreB d id y ↔ (zeroU y = false ∧ x = y) ∨ (x ∈ d ∧ x.id ≠ id):=by
 obtain ⟨e1,e2⟩:=more_parts id hs
 unfold moreB
 rw [e1,e2]
 cases hz:zeroU y
 ·simp only [List.mem_append,List.mem_filter,decide_eq_true_eq,Bool.false_eq_true,if_false,List.mem_singleton]
  constructor
  ·rintro ((⟨h1,h2⟩ | h1) | ⟨h1,h2⟩)
   ·exact .inr ⟨h1,by omega⟩
   ·exact .inl ⟨trivial,h1⟩
   ·exact .inr ⟨h1,by omega⟩
  ·rintro (⟨_,h⟩ | ⟨h1,h2⟩)
   ·exact .inl (.inr h)
   ·rcases Int.lt_or_gt_of_ne h2 with h | h
    ·exact .inl (.inl ⟨h1,h⟩)
    ·exact .inr ⟨h1,h⟩
 ·simp only [List.mem_append,List.mem_filter,decide_eq_true_eq,if_true,List.append_nil]
  constructor
  ·rintro (⟨h1,h2⟩ | ⟨h1,h2⟩)
   ·exact .inr ⟨h1,by omega⟩
   ·exact .inr ⟨h1,by omega⟩
  ·rintro (⟨h,_⟩ | ⟨h1,h2⟩)
   ·cases h
   ·rcases Int.lt_or_gt_of_ne h2 with h | h
    ·exact .inl ⟨h1,h⟩
    ·exact .inr ⟨h1,h⟩
theorem more_sort {d:List Bk} {id:Int} {y:Bk} (hs:SortB d) (hy:y.id = id):SortB (moreB d id y):=by
 obtain ⟨e1,e2⟩:=more_parts id hs
 unfold moreB
 rw [e1,e2]
 have f1:SortB (d.filter (fun x => decide (x.id < id))):=List.Pairwise.filter _ hs
 have f2:SortB (d.filter (fun x => decide (id < x.id))):=List.Pairwise.filter _ hs
 unfold SortB at *
 cases hz:zeroU y
 ·simp only [Bool.false_eq_true,if_false]
  rw [List.pairwise_append,List.pairwise_append]
  refine ⟨⟨f1,by simp,fun a ha b hb => ?_⟩,f2,fun a ha b hb => ?_⟩
  ·have:=(List.mem_filter.1 ha).2
   obtain rfl:b = y:=by simpa using hb
   simp at this; omega
  ·have h2:=(List.mem_filter.1 hb).2
   simp at h2
   rcases List.mem_append.1 ha with ha | ha
   ·have:=(List.mem_filter.1 ha).2
    simp at this; omega
   ·obtain rfl:a = y:=by simpa using ha
    omega
 ·simp only [if_true,List.append_nil]
  rw [List.pairwise_append]
  refine ⟨f1,f2,fun a ha b hb => ?_⟩
  have h1:=(List.mem_filter.1 ha).2
  have h2:=(List.mem_filter.1 hb).2
  simp at h1 h2; omega
theorem more_right {d:List Bk} {id:Int} {y:Bk} (h:rightB d = true) (hy:y.id = id) (h1:zeroU y = true ∨ okRow y = true):rightB (moreB d id y) = true:=by
 obtain ⟨hs,ho⟩:=right_iff.1 h
 refine right_iff.2 ⟨more_sort hs hy,fun x hx => ?_⟩
 rcases (more_mem hs).1 hx with ⟨h2,rfl⟩ | ⟨h2,_⟩
 ·rcases h1 with h1 | h1
  ·rw [h1] at h2; cases h2
  ·exact h1
 ·exact ho x h2
theorem more_row {d:List Bk} {id:Int} {y:Bk} (hs:SortB d) (hy:y.id = id) (j:Int):rowB (moreB d id y) j = if j = id then y else rowB d j:=by
 have hm:=more_sort hs hy
 split
 ·rename_i e
  subst e
  cases hz:zeroU y
  ·have:y ∈ moreB d j y:=(more_mem hs).2 (.inl ⟨hz,rfl⟩)
   rw [← hy] at this ⊢
   exact rowB_mem (by rw [hy] at *; exact hm) this
  ·rw [rowB_none (fun x hx => by
    rcases (more_mem hs).1 hx with ⟨h2,_⟩ | ⟨_,h2⟩
    ·rw [hz] at h2; cases h2
    ·exact h2)]
   unfold zeroU at hz
   simp at hz
   cases y
   simp_all
 ·rename_i e
  rcases rowB_cases hs j with ⟨h1,h2⟩ | ⟨h1,h2⟩
  ·have:rowB d j ∈ moreB d id y:=(more_mem hs).2 (.inr ⟨h1,by rw [h2]; exact e⟩)
   have h3:=rowB_mem hm this
   rw [h2] at h3
   exact h3
  ·rw [h2]
   exact rowB_none (fun x hx => by
    rcases (more_mem hs).1 hx with ⟨_,rfl⟩ | ⟨h3,_⟩
    ·rw [hy]; exact fun e2 => e e2.symm
    ·exact h1 x h3)
theorem bump_id (x:Bk) (cl sz:Int):(bump x cl sz).id = x.id:=by
 unfold bump
 split
 ·rfl
 ·split <;> rfl
theorem more_len (d:List Bk) (id:Int) (y:Bk):(moreB d id y).length ≤ d.length + 1:=by
 unfold moreB
 have:=pl_le d id
 rw [List.length_append,List.length_append,List.length_take,List.length_drop]
 split <;> simp <;> omega
def bookL (d:List Bk) (c:Ct) (cl sz:Int):List Bk:=if bookB d c cl sz = true then moreB d c.id (bump (rowB d c.id) cl sz) else d
theorem bookL_len (d:List Bk) (c:Ct) (cl sz:Int):(bookL d c cl sz).length ≤ d.length + 1:=by
 unfold bookL
 split
 ·exact more_len _ _ _
 ·omega
theorem okC_id {c:Ct} (h:okC c = true):1 ≤ c.id ∧ c.id ≤ 1048576:=by
 unfold okC contactB inB at h
 simp only [Bool.and_eq_true,decide_eq_true_eq] at h
 omega
theorem bump_ok {x:Bk} {cl sz:Int} (hx:okU x) (hc:inB cl 0 2 = true) (h0:0 ≤ getU x cl + sz) (h1:getU x cl + sz ≤ 4611686018427387904):okU (bump x cl sz):=by
 unfold okU at hx
 unfold getU at h0 h1
 unfold bump
 rcases class_cases hc with rfl | rfl | rfl
 ·simp at h0 h1 ⊢; unfold okU; simp only; omega
 ·simp at h0 h1 ⊢; unfold okU; simp only; omega
 ·simp at h0 h1 ⊢; unfold okU; simp only; omega
theorem book_facts {d:List Bk} {c:Ct} {cl sz:Int} (hr:rightB d = true) (hb:bookB d c cl sz = true):okC c = true ∧ inB cl 0 2 = true ∧ 0 ≤ sz ∧ sz ≤ roomF c (rowB d c.id) cl ∧ roomF c (rowB d c.id) cl = max 0 (volC c - backF (rowB d c.id) cl):=by
 unfold bookB at hb
 simp only [Bool.and_eq_true] at hb
 obtain ⟨h1,h2,h3⟩:=hb
 have h4:0 ≤ sz ∧ sz ≤ roomF c (rowB d c.id) cl:=by unfold inB at h3; simpa using h3
 exact ⟨h1,h2,h4.1,h4.2,by unfold roomF; rw [if_pos h2]⟩
theorem book_bump {d:List Bk} {c:Ct} {cl sz:Int} (hr:rightB d = true) (hb:bookB d c cl sz = true):okU (bump (rowB d c.id) cl sz):=by
 obtain ⟨h1,h2,h3,h4,h5⟩:=book_facts hr hb
 have hok:=right_ok hr c.id
 have hvc:=volC_ok c
 have hge:=back_ge hok h2
 have hgu:=getU_ok hok cl
 exact bump_ok hok h2 (by omega) (by omega)
theorem book_right {d:List Bk} {c:Ct} {cl sz:Int} (hr:rightB d = true):rightB (bookL d c cl sz) = true:=by
 unfold bookL
 split
 ·rename_i hb
  have hok:=book_bump hr hb
  have hid:(bump (rowB d c.id) cl sz).id = c.id:=by rw [bump_id,rowB_id (right_sort hr)]
  have hci:=okC_id (book_facts hr hb).1
  refine more_right hr hid ?_
  cases hz:zeroU (bump (rowB d c.id) cl sz)
  ·exact .inr (okRow_of hok (by omega) (by omega) hz)
  ·exact .inl rfl
 ·exact hr
theorem book_row {d:List Bk} {c:Ct} {cl sz:Int} (hr:rightB d = true) (j:Int):rowB (bookL d c cl sz) j = if bookB d c cl sz = true ∧ j = c.id then bump (rowB d c.id) cl sz else rowB d j:=by
 unfold bookL
 split
 ·rename_i hb
  rw [more_row (right_sort hr) (by rw [bump_id,rowB_id (right_sort hr)])]
  simp [hb]
 ·rename_i hb
  rw [if_neg (fun h => hb h.1)]
theorem book_any (A:Option Addr) (n k:Nat) (d:List Bk) (c:Ct) (cl sz:Int) (w:World) (hd:d.length = n) (hn:n ≤ 1000000 - 1) (h:Sl w w.heap.size 4 A n k (flatBk d)) (hr:rightB d = true) (b:Bool) (hb:bookB d c cl sz = b) (l:List Bk) (hl:bookL d c cl sz = l) :
  Calls Tryz.prog 26 #[.slice A n k,.agg #[.int .i64 c.id,.int .i64 c.fr,.int .i64 c.tn,.int .i64 c.st,.int .i64 c.en,.int .i64 c.rt],.int .i64 cl,.int .i64 sz] w fun e w' => ∃ v,e = .returned (.tuple #[v,.bool b]) ∧ w'.ownsRow w.heap.size 65 4 v l.length (flatBk l) ∧ Below w.heap.size w w':=by
 have hs:=right_sort hr
 have hok:=right_ok hr c.id
 unfold bookL at hl
 cases b with
 | true =>
  rw [if_pos hb] at hl
  exact book_yes A n k d c cl sz w hd hn h hs hok hb l hl
 | false =>
  rw [if_neg (by rw [hb]; simp)] at hl
  subst hl
  rw [hd]
  exact book_no A n k d c cl sz w hd (by omega) h hs hok hb
end Go.Proofs.YtodcoockhkghdaaGreat.Kb
namespace Go.Proofs.YtodcoockhkghdaaGreat
open Go.ChangeShapes Go.WideShapes Go.ChangeAt Go.RowKit Go.Sort
set_option linter.unusedSimpArgs false
set_option linter.unusedVariables false

theorem ret_bool {a b:Bool} (h:a = b):Ending.returned (.bool a) = .returned (.bool b):=by rw [h]

theorem rnode_any (n:Int) (w:World) :
  Calls Tryz.prog 41 #[.int .i64 n] w fun e w' => e = .returned (.bool (nodeB n)) ∧ w = w':=by
 by_cases h1:1 ≤ n <;> by_cases h2:n ≤ 255 <;>
 ·go_enter Tryz.func41,Tryz.ntmps41
  go_wp2
  go_ret
  exact ⟨by simp [nodeB,inB,h1,h2],rfl⟩

def pairB (fr tn st en:Int):Bool:=wayB fr tn && spanB st en
theorem pairB_spec {fr tn st en:Int}:pairB fr tn st en = true ↔ (1 ≤ fr ∧ fr ≤ 255) ∧ (1 ≤ tn ∧ tn ≤ 255) ∧ fr ≠ tn ∧ 0 ≤ st ∧ st < en ∧ en ≤ 2147483647:=by
 simp [pairB,wayB,nodeB,spanB,inB,and_assoc]

theorem pair_any (fr tn st en:Int) (w:World) :
  Calls Tryz.prog 147 #[.int .i64 fr,.int .i64 tn,.int .i64 st,.int .i64 en] w fun e w' => e = .returned (.bool (pairB fr tn st en)) ∧ w = w':=by
 go_enter Tryz.func147,Tryz.ntmps147
 go_wp2_with (go_at_call 41; refine (rnode_any _ _).mono ?_; rintro e w' ⟨rfl,rfl⟩)
 all_goals go_ret
 all_goals refine ⟨ret_bool ?_,rfl⟩
 all_goals first
  | (simp [pairB,wayB,spanB, *]; done)
  | (simp [pairB,wayB,spanB, *]; omega)
theorem pair_is {fr tn st en:Int} (b:Bool) (h:pairB fr tn st en = b) (w:World) :
  Calls Tryz.prog 147 #[.int .i64 fr,.int .i64 tn,.int .i64 st,.int .i64 en] w fun e w' => e = .returned (.bool b) ∧ w = w':=h ▸ pair_any fr tn st en w
theorem rcontact_any (id fr tn st en ra:Int) (w:World) :
  Calls Tryz.prog 99 #[.agg #[.int .i64 id,.int .i64 fr,.int .i64 tn,.int .i64 st,.int .i64 en,.int .i64 ra]] w fun e w' => e = .returned (.bool (contactB id fr tn st en ra)) ∧ Below w.heap.size w w':=by
 by_cases hp:pairB fr tn st en = true
 ·have HP:=Lib.hid hp
  have Hp:=Lib.hid (pairB_spec.1 hp)
  clear hp
  go_enter Tryz.func99,Tryz.ntmps99
  go_wp2_with (go_at_call 147; refine (pair_is true HP.out _).mono ?_; rintro e w' ⟨rfl,rfl⟩)
  all_goals go_ret
  all_goals refine ⟨ret_bool ?_,(Below.refl _ _).alloc (Nat.le_refl _) _⟩
  all_goals
   have hp:=Hp.out
   rw [Bool.eq_iff_iff,contactB_spec]
   simp only [decide_eq_true_eq,Bool.false_eq_true,iff_true,false_iff,true_iff]
   omega
 ·have HP:=Lib.hid (show pairB fr tn st en = false by simpa using hp)
  rw [pairB_spec] at hp
  have Hp:=Lib.hid hp
  clear hp
  go_enter Tryz.func99,Tryz.ntmps99
  go_wp2_with (go_at_call 147; refine (pair_is false HP.out _).mono ?_; rintro e w' ⟨rfl,rfl⟩)
  go_ret
  have hp:=Hp.out
  exact ⟨ret_bool (by symm; rw [Bool.eq_false_iff,ne_eq,contactB_spec]; omega),(Below.refl _ _).alloc (Nat.le_refl _) _⟩
theorem rcontact_is {id fr tn st en ra:Int} (b:Bool) (h:contactB id fr tn st en ra = b) (w:World) :
  Calls Tryz.prog 99 #[.agg #[.int .i64 id,.int .i64 fr,.int .i64 tn,.int .i64 st,.int .i64 en,.int .i64 ra]] w fun e w' => e = .returned (.bool b) ∧ Below w.heap.size w w':=h ▸ rcontact_any id fr tn st en ra w
theorem rrange_any (fr tn st en ow:Int) (w:World) :
  Calls Tryz.prog 102 #[.agg #[.int .i64 fr,.int .i64 tn,.int .i64 st,.int .i64 en,.int .i64 ow]] w fun e w' => e = .returned (.bool (rangeB fr tn st en ow)) ∧ Below w.heap.size w w':=by
 by_cases hp:pairB fr tn st en = true
 ·have HP:=Lib.hid hp
  have Hp:=Lib.hid (pairB_spec.1 hp)
  clear hp
  go_enter Tryz.func102,Tryz.ntmps102
  go_wp2_with (go_at_call 147; refine (pair_is true HP.out _).mono ?_; rintro e w' ⟨rfl,rfl⟩)
  all_goals go_ret
  all_goals refine ⟨ret_bool ?_,(Below.refl _ _).alloc (Nat.le_refl _) _⟩
  all_goals
   have hp:=Hp.out
   rw [Bool.eq_iff_iff,rangeB_spec]
   simp only [decide_eq_true_eq,Bool.false_eq_true,iff_true,false_iff,true_iff]
   omega
 ·have HP:=Lib.hid (show pairB fr tn st en = false by simpa using hp)
  rw [pairB_spec] at hp
  have Hp:=Lib.hid hp
  clear hp
  go_enter Tryz.func102,Tryz.ntmps102
  go_wp2_with (go_at_call 147; refine (pair_is false HP.out _).mono ?_; rintro e w' ⟨rfl,rfl⟩)
  go_ret
  have hp:=Hp.out
  exact ⟨ret_bool (by symm; rw [Bool.eq_false_iff,ne_eq,rangeB_spec]; omega),(Below.refl _ _).alloc (Nat.le_refl _) _⟩
end Go.Proofs.YtodcoockhkghdaaGreat
namespace Go.Proofs.YtodcoockhkghdaaGreat.Kb
open Go.ChangeShapes Go.WideShapes Go.ChangeAt Go.RowKit Go.Sort
set_option linter.unusedSimpArgs false
set_option linter.unusedVariables false
end Go.Proofs.YtodcoockhkghdaaGreat.Kb
