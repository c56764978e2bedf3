/- Package ledger: Room, Same, more. No condition. -/
import Derived.Test.YtjldgcebadojiaaGreatDoorLedger2
import Derived.Deep.RegionLaw
namespace Go.Proofs.YtjldgcebadojiaaGreatDoor.Kb
open Go.ChangeShapes Go.WideShapes Go.ChangeAt Go.RowKit Go.Sort
set_option linter.unusedSimpArgs false
set_option linter.unusedVariables false
structure Ct where
 id:Int
 fr:Int
 tn:Int
 st:Int
 en:Int
 rt:Int
def volC (c:Ct):Int:=volumeF c.id c.fr c.tn c.st c.en c.rt
def okC (c:Ct):Bool:=contactB c.id c.fr c.tn c.st c.en c.rt
theorem volC_ok (c:Ct):0 ≤ volC c ∧ volC c ≤ 4611686014132420609:=by
 unfold volC volumeF
 split
 ·rename_i h
  have:=volume_bounds h
  omega
 ·omega
def roomF (c:Ct) (x:Bk) (cl:Int):Int:=if inB cl 0 2 = true then max 0 (volC c - backF x cl) else 0
set_option maxHeartbeats 2000000 in
set_option maxRecDepth 100000 in
theorem room_any (A:Option Addr) (n k:Nat) (d:List Bk) (c:Ct) (cl:Int) (w:World) (hd:d.length = n) (hn:n ≤ 1000000) (h:Sl w w.heap.size 4 A n k (flatBk d)) (hs:SortB d) (x:Bk) (hx:rowB d c.id = x) (hok:okU x) (v:Int) (hv:roomF c x cl = v) :
  Calls Tryz.prog 21 #[.slice A n k,.agg #[.int .i64 c.id,.int .i64 c.fr,.int .i64 c.tn,.int .i64 c.st,.int .i64 c.en,.int .i64 c.rt],.int .i64 cl] w fun e w' => e = .returned (.int .i64 v) ∧ Below w.heap.size w w':=by
 have hBa:Below w.heap.size w (w.alloc (.cells #[.int .i64 c.id,.int .i64 c.fr,.int .i64 c.tn,.int .i64 c.st,.int .i64 c.en,.int .i64 c.rt] 34)):=by (repeat (first | exact Below.refl _ _ | refine Below.alloc ?_ (by first | omega | (simp; done) | (simp; omega)) _ | refine Below.setCell ?_ (by first | omega | (simp; done) | (simp; omega)) _ | refine Below.drew ?_))
 have hX:=Blok.new w 34 #[.int .i64 c.id,.int .i64 c.fr,.int .i64 c.tn,.int .i64 c.st,.int .i64 c.en,.int .i64 c.rt]
 have hl:=h.up hBa
 obtain ⟨b,hb⟩:∃ b,inB cl 0 2 = b:=⟨_,rfl⟩
 have HC:=Lib.hid hb
 cases b with
 | false =>
  have hv0:v = 0:=by rw [← hv]; unfold roomF; rw [if_neg (by rw [hb]; simp)]
  subst hv0
  clear hv hb hl hX h hs hx
  go_enter Tryz.func21,Tryz.ntmps21
  go_wp2_with fail
  refine (class_any cl _ false HC.out).mono ?_
  rintro e w1 ⟨rfl,rfl⟩
  go_wp2
  go_ret
  exact ⟨rfl,hBa⟩
 | true =>
  obtain ⟨p,hp⟩:∃ p,volC c = p:=⟨_,rfl⟩
  obtain ⟨q,hq⟩:∃ q,backF x cl = q:=⟨_,rfl⟩
  have hp1:=volC_ok c
  have hq1:=backF_ok hok cl
  rw [hp] at hp1
  rw [hq] at hq1
  have hvm:v = max 0 (p - q):=by rw [← hv]; unfold roomF; rw [if_pos hb,hp,hq]
  obtain ⟨p1,p2⟩:=hp1
  obtain ⟨q1,q2⟩:=hq1
  have hvol:volumeF c.id c.fr c.tn c.st c.en c.rt = p:=hp
  have HP:=Lib.hid hvol
  clear hvol
  have HVM:=Lib.hid hvm
  have ht:∀ w',Below (w.alloc (.cells #[.int .i64 c.id,.int .i64 c.fr,.int .i64 c.tn,.int .i64 c.st,.int .i64 c.en,.int .i64 c.rt] 34)).heap.size (w.alloc (.cells #[.int .i64 c.id,.int .i64 c.fr,.int .i64 c.tn,.int .i64 c.st,.int .i64 c.en,.int .i64 c.rt] 34)) w' → Calls Tryz.prog 57 #[.slice A n k,.int .i64 c.id,.int .i64 cl] w' fun e w'' => e = .returned (.int .i64 q) ∧ Below w'.heap.size w' w'':=
   fun w' hb' => backlog_any A n k d c.id cl w' hd hn (hl.up hb') hs x hx hok q hq
  have HT:=Lib.hid ht
  clear hv hb hl h hs hx hp hq hvm ht hd
  go_enter Tryz.func21,Tryz.ntmps21
  go_wp2_with fail
  generalize w.alloc (.cells #[.int .i64 c.id,.int .i64 c.fr,.int .i64 c.tn,.int .i64 c.st,.int .i64 c.en,.int .i64 c.rt] 34) = w2 at *
  refine (class_any cl _ true HC.out).mono ?_
  rintro e w3 ⟨rfl,rfl⟩
  have hs2:=hBa.size
  have c0:w2.cell? ⟨w.heap.size,0,none⟩ = some (.int .i64 c.id):=hX.cell 0
  have c1:w2.cell? ⟨w.heap.size,1,none⟩ = some (.int .i64 c.fr):=hX.cell 1
  have c2:w2.cell? ⟨w.heap.size,2,none⟩ = some (.int .i64 c.tn):=hX.cell 2
  have c3:w2.cell? ⟨w.heap.size,3,none⟩ = some (.int .i64 c.st):=hX.cell 3
  have c4:w2.cell? ⟨w.heap.size,4,none⟩ = some (.int .i64 c.en):=hX.cell 4
  have c5:w2.cell? ⟨w.heap.size,5,none⟩ = some (.int .i64 c.rt):=hX.cell 5
  have hlt:=hX.lt
  clear hX
  go_wp2_with fail
  have q_c0:=fun d os => cell_regrown c0 d os
  have q_c1:=fun d os => cell_regrown c1 d os
  have q_c2:=fun d os => cell_regrown c2 d os
  have q_c3:=fun d os => cell_regrown c3 d os
  have q_c4:=fun d os => cell_regrown c4 d os
  have q_c5:=fun d os => cell_regrown c5 d os
  try simp only [List.append]
  first | refine wp_region_text_below ?_ | refine wp_region_quiet_below (by kernel_rfl) (by kernel_rfl) ?_
  repeat (go_big_quiet_step ((first | (go_at_call 29; with_reducible exact Calls.regrown_of (volume_is p HP.out _)) | (go_at_call 57; with_reducible exact Calls.regrown_of (HT.out _ (below_regrown _ _ _))))))
  refine wpQuiet_nil ?_
  intro _ hqw
  obtain ⟨pq,hqw⟩:=hqw
  subst hqw
  clear q_c0 q_c1 q_c2 q_c3 q_c4 q_c5
  have hB2:=hBa.trans ((below_regrown w2 pq.d pq.os).mono hs2)
  clear c0 c1 c2 c3 c4 c5 hBa HT
  generalize grow (redrawn w2 pq.d) pq.os = wq at *
  go_wp2
  all_goals go_ret
  all_goals exact ⟨congrArg (fun t => Ending.returned (.int .i64 t)) (by have:=HVM.out; omega),hB2⟩
set_option maxRecDepth 100000 in
theorem same_any (A A':Option Addr) (n c n' c':Nat) (d d':List Bk) (w:World) (hd:d.length = n) (hd':d'.length = n') (hn:n ≤ 1000000) (hn':n' ≤ 1000000) (h:Sl w w.heap.size 4 A n c (flatBk d)) (h':Sl w w.heap.size 4 A' n' c' (flatBk d')) :
  Calls Tryz.prog 32 #[.slice A n c,.slice A' n' c'] w fun e w' => e = .returned (.bool (decide (d = d'))) ∧ Below w.heap.size w w':=by
 have HD:=Lib.hid hd
 have HD':=Lib.hid hd'
 obtain ⟨b,hb⟩:∃ b,decide (d = d') = b:=⟨_,rfl⟩
 rw [hb]
 have HB:=Lib.hid hb
 clear hd hd' hb
 go_enter Tryz.func32,Tryz.ntmps32
 go_wp2_with fail
 refine (HB.out ▸ equalBk A A' n c n' c' d d' w HD.out HD'.out hn hn' h h').mono ?_
 rintro e w1 ⟨rfl,hB⟩
 go_wp2
 go_ret
 exact ⟨rfl,hB⟩

theorem concat2Bk (g cO:Nat) (T:TypeId) (A0 A1:Option Addr) (n0 n1 c0 c1:Nat) (d0 d1:List Bk) (w:World) (hd0:d0.length = n0) (hd1:d1.length = n1) (hn:n0 + n1 ≤ 1000000)
  (hO:Blok w g T #[.slice A0 n0 c0,.slice A1 n1 c1]) (h0:Sl w w.heap.size 4 A0 n0 c0 (flatBk d0)) (h1:Sl w w.heap.size 4 A1 n1 c1 (flatBk d1)) :
  Calls Tryz.prog 153 #[.slice (some ⟨g,0,none⟩) 2 cO] w fun e w' => ∃ v,e = .returned v ∧ w'.ownsRow w.heap.size 50 4 v (n0 + n1) (flatBk (d0 ++ d1)) ∧ Below w.heap.size w w':=by
 have e3:catBk (fun k => if k = 0 then d0 else d1) 2 = d0 ++ d1:=by simp [catBk]
 have h:=concatBk g 2 cO (fun k => if k = 0 then A0 else A1) (fun k => if k = 0 then n0 else n1) (fun k => if k = 0 then c0 else c1) (fun k => if k = 0 then d0 else d1) w (by omega)
  (fun k hk => by
   have h3:k = 0 ∨ k = 1:=by omega
   rcases h3 with rfl | rfl <;> simpa) (by rw [e3]; simp; omega)
  (fun k hk => by
   have h3:k = 0 ∨ k = 1:=by omega
   rcases h3 with rfl | rfl <;> (rw [hO.cell]; simp))
  (fun k hk => by
   have h3:k = 0 ∨ k = 1:=by omega
   rcases h3 with rfl | rfl <;> simpa)
 rw [e3] at h
 refine h.mono ?_
 rintro e w' ⟨v,rfl,ho,hb⟩
 have hl:(d0 ++ d1).length = n0 + n1:=by simp; omega
 rw [hl] at ho
 exact ⟨v,rfl,ho,hb⟩
theorem concat3Bk (g cO:Nat) (T:TypeId) (A0 A1 A2:Option Addr) (n0 n1 n2 c0 c1 c2:Nat) (d0 d1 d2:List Bk) (w:World) (hd0:d0.length = n0) (hd1:d1.length = n1) (hd2:d2.length = n2) (hn:n0 + n1 + n2 ≤ 1000000)
  (hO:Blok w g T #[.slice A0 n0 c0,.slice A1 n1 c1,.slice A2 n2 c2]) (h0:Sl w w.heap.size 4 A0 n0 c0 (flatBk d0)) (h1:Sl w w.heap.size 4 A1 n1 c1 (flatBk d1)) (h2:Sl w w.heap.size 4 A2 n2 c2 (flatBk d2)) :
  Calls Tryz.prog 153 #[.slice (some ⟨g,0,none⟩) 3 cO] w fun e w' => ∃ v,e = .returned v ∧ w'.ownsRow w.heap.size 50 4 v (n0 + n1 + n2) (flatBk (d0 ++ d1 ++ d2)) ∧ Below w.heap.size w w':=by
 have e3:catBk (fun k => if k = 0 then d0 else if k = 1 then d1 else d2) 3 = d0 ++ d1 ++ d2:=by simp [catBk]
 have h:=concatBk g 3 cO (fun k => if k = 0 then A0 else if k = 1 then A1 else A2) (fun k => if k = 0 then n0 else if k = 1 then n1 else n2) (fun k => if k = 0 then c0 else if k = 1 then c1 else c2) (fun k => if k = 0 then d0 else if k = 1 then d1 else d2) w (by omega)
  (fun k hk => by
   have h3:k = 0 ∨ k = 1 ∨ k = 2:=by omega
   rcases h3 with rfl | rfl | rfl <;> simpa) (by rw [e3]; simp; omega)
  (fun k hk => by
   have h3:k = 0 ∨ k = 1 ∨ k = 2:=by omega
   rcases h3 with rfl | rfl | rfl <;> (rw [hO.cell]; simp))
  (fun k hk => by
   have h3:k = 0 ∨ k = 1 ∨ k = 2:=by omega
   rcases h3 with rfl | rfl | rfl <;> simpa)
 rw [e3] at h
 refine h.mono ?_
 rintro e w' ⟨v,rfl,ho,hb⟩
 have hl:(d0 ++ d1 ++ d2).length = n0 + n1 + n2:=by simp; omega
 rw [hl] at ho
 exact ⟨v,rfl,ho,hb⟩
def bump (x:Bk) (cl sz:Int):Bk:=if cl = 0 then ⟨x.id,x.ua + sz,x.ub,x.uc⟩ else if cl = 1 then ⟨x.id,x.ua,x.ub + sz,x.uc⟩ else ⟨x.id,x.ua,x.ub,x.uc + sz⟩
def zeroU (y:Bk):Bool:=decide (y.ua = 0 ∧ y.ub = 0 ∧ y.uc = 0)
/-- The ledger with that row in its place, or without it, if it is of nothing. -/
def moreB (d:List Bk) (id:Int) (y:Bk):List Bk:=d.take (pl d id) ++ (if zeroU y = true then [] else [y]) ++ d.drop (pl d id + if hit d id = true then 1 else 0)
theorem rowB_id {d:List Bk} {id:Int} (hs:SortB d):(rowB d id).id = id:=by
 unfold rowB
 split
 ·rename_i h
  exact (hit_at hs h).2
 ·rfl
set_option maxHeartbeats 4000000 in
set_option maxRecDepth 100000 in
theorem more0 (A:Option Addr) (n c:Nat) (d:List Bk) (id sz:Int) (w:World) (hd:d.length = n) (hn:n ≤ 1000000 - 1) (h:Sl w w.heap.size 4 A n c (flatBk d)) (hs:SortB d) (x:Bk) (hx:rowB d id = x) (ho1 : -9223372036854775808 ≤ x.ua + sz) (ho2:x.ua + sz ≤ 9223372036854775807) :
  Calls Tryz.prog 98 #[.slice A n c,.int .i64 id,.int .i64 0,.int .i64 sz] w fun e w' => ∃ v,e = .returned v ∧ w'.ownsRow w.heap.size 50 4 v (moreB d id ⟨id,x.ua + sz,x.ub,x.uc⟩).length (flatBk (moreB d id ⟨id,x.ua + sz,x.ub,x.uc⟩)) ∧ Below w.heap.size w w':=by
 have HU:=Lib.hid (used_any A n c d id w hd (by omega) h hs x hx)
 have HSB:=Lib.hid hs
 obtain ⟨i,hi⟩:∃ i,pl d id = i:=⟨_,rfl⟩
 obtain ⟨b,hb⟩:∃ b,hit d id = b:=⟨_,rfl⟩
 obtain ⟨z,hz⟩:∃ z,zeroU ⟨id,x.ua + sz,x.ub,x.uc⟩ = z:=⟨_,rfl⟩
 have hle:i ≤ n:=by rw [← hi,← hd]; exact pl_le d id
 have hlt:b = true → i < n:=fun e => by rw [← hi,← hd]; exact (hit_at hs (by rw [hb,e])).1
 obtain ⟨res,hres⟩:∃ res,moreB d id ⟨id,x.ua + sz,x.ub,x.uc⟩ = res:=⟨_,rfl⟩
 have hre:res = d.take i ++ (if z = true then [] else [⟨id,x.ua + sz,x.ub,x.uc⟩]) ++ d.drop (i + if b = true then 1 else 0):=by rw [← hres]; unfold moreB; rw [hi,hb,hz]
 have HRE:=Lib.hid hre
 rw [hres]
 have hcap:=h.cap
 have hmax:=h.max
 unfold maxLen at hmax
 have HI:=Lib.hid hi
 have HB:=Lib.hid hb
 have HZ:=Lib.hid hz
 have HD:=Lib.hid hd
 have HL:=Lib.hid h
 clear hs hx hi hb hz hres hre hd h
 go_enter Tryz.func98,Tryz.ntmps98
 go_wp2_with fail
 refine HU.out.mono ?_
 rintro e w2 ⟨rfl,hB2⟩
 have hl2:=HL.out.up hB2
 have hXx:=Blok.new w2 50 #[.int .i64 id,.int .i64 (x.ua + sz),.int .i64 (x.ub),.int .i64 (x.uc)]
 have hb3:Below w2.heap.size w2 (w2.alloc (.cells #[.int .i64 id,.int .i64 (x.ua + sz),.int .i64 (x.ub),.int .i64 (x.uc)] 50)):=(Below.refl _ _).alloc (Nat.le_refl _) _
 have hl3:=hl2.up hb3
 have hB3:=hB2.trans (hb3.mono hB2.size)
 clear hb3 hl2 hB2 HU HL
 go_wp2_with fail
 generalize w2.alloc (.cells #[.int .i64 id,.int .i64 (x.ua + sz),.int .i64 (x.ub),.int .i64 (x.uc)] 50) = w3 at *
 generalize w2.heap.size = bb at *
 refine (find_any A n c d id w3 HD.out (by omega) hl3 HSB.out i b HI.out HB.out).mono ?_
 rintro e w4 ⟨rfl,hb4⟩
 have hX4:=hXx.below hb4 hXx.lt
 have hl4:=hl3.up hb4
 have hB4:=hB3.trans (hb4.mono hB3.size)
 clear hb4 hl3 hB3 hXx
 have hrun:=eql3 (x.ua + sz) (x.ub) (x.uc) 0 0 0
 have hzz:=HZ.out
 unfold zeroU at hzz
 simp only at hzz
 rw [hzz] at hrun
 have hx0:w4.cell? ⟨bb,0,none⟩ = some (.int .i64 id):=hX4.cell 0
 have hx1:w4.cell? ⟨bb,1,none⟩ = some (.int .i64 (x.ua + sz)):=hX4.cell 1
 have hx2:w4.cell? ⟨bb,2,none⟩ = some (.int .i64 (x.ub)):=hX4.cell 2
 have hx3:w4.cell? ⟨bb,3,none⟩ = some (.int .i64 (x.uc)):=hX4.cell 3
 have hbl:=hX4.lt
 have hsz4:=hB4.size
 clear hzz hX4
 have hdt:(d.take i).length = i:=by rw [List.length_take,HD.out]; omega
 have HDT:=Lib.hid hdt
 clear hdt
 cases b with
 | true =>
  have hin:i < n:=hlt rfl
  clear hlt
  by_cases hcE:c = i + 1
  ·skip
   obtain rfl:n = i + 1:=by omega
   obtain rfl:c = i + 1:=by omega
   clear hcE
   have hs1:=hl4.upto (m:=i) (by omega)
   rw [flatBk_take] at hs1
   have hdl:(d.drop (i + 1)).length = 0:=by rw [List.length_drop,HD.out] <;> omega
   have hii1:(i:Int) ≤ (i:Int) + 1:=by omega
   have hii2:i ≤ i + 1:=by omega
   have hii3:(i:Int) ≤ (i:Int):=by omega
   have hs2:Sl w4 w4.heap.size 4 A 0 0 (flatBk (d.drop (i + 1))):=by
    rw [List.drop_of_length_le (by have:=HD.out; omega)]
    exact ⟨⟨by simp [flatBk],fun h => by omega⟩,by omega,by simp [maxLen],fun _ => rfl⟩
   have HDL:=Lib.hid hdl
   have HS1:=Lib.hid hs1
   have HS2:=Lib.hid hs2
   clear hdl hs1 hs2 hl4
   cases z with
   | true =>
    go_wp2_with fail
    have hO:=Blok.new w4 26 #[.slice A i (i + 1),.slice A 0 0]
    refine Calls.mono (concat2Bk w4.heap.size 2 26 A _ i 0 (i + 1) 0 (d.take i) (d.drop (i + 1)) _ HDT.out HDL.out (by omega) hO (HS1.out.up ((Below.refl _ _).alloc (Nat.le_refl _) _)) (HS2.out.up ((Below.refl _ _).alloc (Nat.le_refl _) _))) ?_
    rintro e w5 ⟨v,rfl,hown,hb5⟩
    have hfin:Below w.heap.size w w5:=(hB4.trans (Below.mono ((Below.refl _ _).alloc (Nat.le_refl _) _) hsz4)).trans (hb5.mono (by simp; omega))
    have hown6:=own_down (base':=w.heap.size) hown (by simp; omega)
    obtain ⟨m6,hm6⟩:∃ m,i + 0 = m:=⟨_,rfl⟩
    rw [hm6] at hown6
    have HM6:=Lib.hid hm6
    clear hown hb5 HS1 HS2 hx0 hx1 hx2 hx3 hrun hO hm6
    obtain ⟨A6,c6,rfl⟩:=slice_of_own hown6
    go_wp2
    go_ret
    refine ⟨_,rfl,?_,hfin⟩
    have e1:res = d.take i ++ d.drop (i + 1):=by rw [HRE.out]; simp
    rw [e1,List.length_append,HDT.out,HDL.out,HM6.out]
    exact hown6
   | false =>
    go_wp2_with fail
    go_region_law (refine step_call rfl 153 #[.tmp 56] _ rfl #[.slice (some ⟨w4.heap.size + 1,0,none⟩) 3 3] (by simp [Act.eval,Act.put]) Tryz.func153 rfl rfl ?_; refine Calls.mono (concat3Bk (w4.heap.size + 1) 3 26 A (some ⟨w4.heap.size,0,none⟩) _ i 1 0 (i + 1) 1 0 (d.take i) [⟨id,x.ua + sz,x.ub,x.uc⟩] (d.drop (i + 1)) _ HDT.out rfl HDL.out (by omega) (by have h:=Blok.new (w4.alloc (.cells #[.int .i64 id,.int .i64 (x.ua + sz),.int .i64 (x.ub),.int .i64 (x.uc)] 50)) 26 #[.slice A i (i + 1),.slice (some ⟨w4.heap.size,0,none⟩) 1 1,.slice A 0 0]; rw [World.size_alloc] at h; exact h) (HS1.out.up (((Below.refl _ _).alloc (Nat.le_refl _) _).alloc (by simp) _).drew) (by exact Sl.of_own ((own_lit w4 0 50 4 1 #[.int .i64 id,.int .i64 (x.ua + sz),.int .i64 (x.ub),.int .i64 (x.uc)] (by omega) rfl (by simp [maxLen])).alloc _)) (HS2.out.up (((Below.refl _ _).alloc (Nat.le_refl _) _).alloc (by simp) _).drew)) ?_; rintro e w5 ⟨v,rfl,hown,hb5⟩; refine ⟨_,rfl,?_⟩)
    have hfin:Below w.heap.size w w5:=(hB4.trans (Below.mono (((Below.refl _ _).alloc (Nat.le_refl _) _).alloc (by simp) _).drew hsz4)).trans (hb5.mono (by simp; omega))
    have hown6:=own_down (base':=w.heap.size) hown (by simp; omega)
    clear hown hb5 HS1 HS2 hx0 hx1 hx2 hx3 hrun
    obtain ⟨A6,c6,rfl⟩:=slice_of_own hown6
    go_wp2
    go_ret
    refine ⟨_,rfl,?_,hfin⟩
    have e1:res = d.take i ++ [⟨id,x.ua + sz,x.ub,x.uc⟩] ++ d.drop (i + 1):=by rw [HRE.out]; simp
    rw [e1,List.length_append,List.length_append,HDT.out,HDL.out]
    exact hown6
  ·skip
   have hcE0:¬ c = i:=by omega
   have hs1:=hl4.upto (m:=i) (by omega)
   rw [flatBk_take] at hs1
   have hdl:(d.drop (i + 1)).length = (n - (i + 1)):=by rw [List.length_drop,HD.out] <;> omega
   have hiI:(i:Int) ≤ (n:Int):=by omega
   have hic:i ≤ c:=by omega
   have hicI:(i:Int) ≤ (c:Int):=by omega
   have hi1I:(i:Int) + 1 ≤ (n:Int):=by omega
   have hi1c:i + 1 ≤ c:=by omega
   have hi1cI:(i:Int) + 1 ≤ (c:Int):=by omega
   have hs2:=hl4.from_ (m:=i + 1) (by omega)
   rw [flatBk_drop,if_neg hcE] at hs2
   have HDL:=Lib.hid hdl
   have HS1:=Lib.hid hs1
   have HS2:=Lib.hid hs2
   clear hdl hs1 hs2 hl4
   cases z with
   | true =>
    go_wp2_with fail
    have hO:=Blok.new w4 26 #[.slice A i (c),.slice (Option.map (fun x => x.add ((i + 1) * 4)) A) (n - (i + 1)) (c - (i + 1))]
    refine Calls.mono (concat2Bk w4.heap.size 2 26 A _ i (n - (i + 1)) (c) (c - (i + 1)) (d.take i) (d.drop (i + 1)) _ HDT.out HDL.out (by omega) hO (HS1.out.up ((Below.refl _ _).alloc (Nat.le_refl _) _)) (HS2.out.up ((Below.refl _ _).alloc (Nat.le_refl _) _))) ?_
    rintro e w5 ⟨v,rfl,hown,hb5⟩
    have hfin:Below w.heap.size w w5:=(hB4.trans (Below.mono ((Below.refl _ _).alloc (Nat.le_refl _) _) hsz4)).trans (hb5.mono (by simp; omega))
    have hown6:=own_down (base':=w.heap.size) hown (by simp; omega)
    obtain ⟨m6,hm6⟩:∃ m,i + (n - (i + 1)) = m:=⟨_,rfl⟩
    rw [hm6] at hown6
    have HM6:=Lib.hid hm6
    clear hown hb5 HS1 HS2 hx0 hx1 hx2 hx3 hrun hO hm6
    obtain ⟨A6,c6,rfl⟩:=slice_of_own hown6
    go_wp2
    go_ret
    refine ⟨_,rfl,?_,hfin⟩
    have e1:res = d.take i ++ d.drop (i + 1):=by rw [HRE.out]; simp
    rw [e1,List.length_append,HDT.out,HDL.out,HM6.out]
    exact hown6
   | false =>
    go_wp2_with fail
    go_region_law (refine step_call rfl 153 #[.tmp 56] _ rfl #[.slice (some ⟨w4.heap.size + 1,0,none⟩) 3 3] (by simp [Act.eval,Act.put]) Tryz.func153 rfl rfl ?_; refine Calls.mono (concat3Bk (w4.heap.size + 1) 3 26 A (some ⟨w4.heap.size,0,none⟩) _ i 1 (n - (i + 1)) (c) 1 (c - (i + 1)) (d.take i) [⟨id,x.ua + sz,x.ub,x.uc⟩] (d.drop (i + 1)) _ HDT.out rfl HDL.out (by omega) (by have h:=Blok.new (w4.alloc (.cells #[.int .i64 id,.int .i64 (x.ua + sz),.int .i64 (x.ub),.int .i64 (x.uc)] 50)) 26 #[.slice A i (c),.slice (some ⟨w4.heap.size,0,none⟩) 1 1,.slice (Option.map (fun x => x.add ((i + 1) * 4)) A) (n - (i + 1)) (c - (i + 1))]; rw [World.size_alloc] at h; exact h) (HS1.out.up (((Below.refl _ _).alloc (Nat.le_refl _) _).alloc (by simp) _).drew) (by exact Sl.of_own ((own_lit w4 0 50 4 1 #[.int .i64 id,.int .i64 (x.ua + sz),.int .i64 (x.ub),.int .i64 (x.uc)] (by omega) rfl (by simp [maxLen])).alloc _)) (HS2.out.up (((Below.refl _ _).alloc (Nat.le_refl _) _).alloc (by simp) _).drew)) ?_; rintro e w5 ⟨v,rfl,hown,hb5⟩; refine ⟨_,rfl,?_⟩)
    have hfin:Below w.heap.size w w5:=(hB4.trans (Below.mono (((Below.refl _ _).alloc (Nat.le_refl _) _).alloc (by simp) _).drew hsz4)).trans (hb5.mono (by simp; omega))
    have hown6:=own_down (base':=w.heap.size) hown (by simp; omega)
    clear hown hb5 HS1 HS2 hx0 hx1 hx2 hx3 hrun
    obtain ⟨A6,c6,rfl⟩:=slice_of_own hown6
    go_wp2
    go_ret
    refine ⟨_,rfl,?_,hfin⟩
    have e1:res = d.take i ++ [⟨id,x.ua + sz,x.ub,x.uc⟩] ++ d.drop (i + 1):=by rw [HRE.out]; simp
    rw [e1,List.length_append,List.length_append,HDT.out,HDL.out]
    exact hown6
 | false =>
  have hin:i ≤ n:=hle
  clear hlt
  by_cases hcE:c = i
  ·skip
   have e1:i = n:=by omega
   subst e1
   have e2:i = c:=by omega
   subst e2
   clear hcE
   have hs1:=hl4.upto (m:=i) (by omega)
   rw [flatBk_take] at hs1
   have hdl:(d.drop (i)).length = 0:=by rw [List.length_drop,HD.out] <;> omega
   have hii1:(i:Int) ≤ (i:Int) + 1:=by omega
   have hii2:i ≤ i + 1:=by omega
   have hii3:(i:Int) ≤ (i:Int):=by omega
   have hs2:Sl w4 w4.heap.size 4 A 0 0 (flatBk (d.drop (i))):=by
    rw [List.drop_of_length_le (by have:=HD.out; omega)]
    exact ⟨⟨by simp [flatBk],fun h => by omega⟩,by omega,by simp [maxLen],fun _ => rfl⟩
   have HDL:=Lib.hid hdl
   have HS1:=Lib.hid hs1
   have HS2:=Lib.hid hs2
   clear hdl hs1 hs2 hl4
   cases z with
   | true =>
    go_wp2_with fail
    have hO:=Blok.new w4 26 #[.slice A i (i),.slice A 0 0]
    refine Calls.mono (concat2Bk w4.heap.size 2 26 A _ i 0 (i) 0 (d.take i) (d.drop (i)) _ HDT.out HDL.out (by omega) hO (HS1.out.up ((Below.refl _ _).alloc (Nat.le_refl _) _)) (HS2.out.up ((Below.refl _ _).alloc (Nat.le_refl _) _))) ?_
    rintro e w5 ⟨v,rfl,hown,hb5⟩
    have hfin:Below w.heap.size w w5:=(hB4.trans (Below.mono ((Below.refl _ _).alloc (Nat.le_refl _) _) hsz4)).trans (hb5.mono (by simp; omega))
    have hown6:=own_down (base':=w.heap.size) hown (by simp; omega)
    obtain ⟨m6,hm6⟩:∃ m,i + 0 = m:=⟨_,rfl⟩
    rw [hm6] at hown6
    have HM6:=Lib.hid hm6
    clear hown hb5 HS1 HS2 hx0 hx1 hx2 hx3 hrun hO hm6
    obtain ⟨A6,c6,rfl⟩:=slice_of_own hown6
    go_wp2
    go_ret
    refine ⟨_,rfl,?_,hfin⟩
    have e1:res = d.take i ++ d.drop (i):=by rw [HRE.out]; simp
    rw [e1,List.length_append,HDT.out,HDL.out,HM6.out]
    exact hown6
   | false =>
    go_wp2_with fail
    go_region_law (refine step_call rfl 153 #[.tmp 56] _ rfl #[.slice (some ⟨w4.heap.size + 1,0,none⟩) 3 3] (by simp [Act.eval,Act.put]) Tryz.func153 rfl rfl ?_; refine Calls.mono (concat3Bk (w4.heap.size + 1) 3 26 A (some ⟨w4.heap.size,0,none⟩) _ i 1 0 (i) 1 0 (d.take i) [⟨id,x.ua + sz,x.ub,x.uc⟩] (d.drop (i)) _ HDT.out rfl HDL.out (by omega) (by have h:=Blok.new (w4.alloc (.cells #[.int .i64 id,.int .i64 (x.ua + sz),.int .i64 (x.ub),.int .i64 (x.uc)] 50)) 26 #[.slice A i (i),.slice (some ⟨w4.heap.size,0,none⟩) 1 1,.slice A 0 0]; rw [World.size_alloc] at h; exact h) (HS1.out.up (((Below.refl _ _).alloc (Nat.le_refl _) _).alloc (by simp) _).drew) (by exact Sl.of_own ((own_lit w4 0 50 4 1 #[.int .i64 id,.int .i64 (x.ua + sz),.int .i64 (x.ub),.int .i64 (x.uc)] (by omega) rfl (by simp [maxLen])).alloc _)) (HS2.out.up (((Below.refl _ _).alloc (Nat.le_refl _) _).alloc (by simp) _).drew)) ?_; rintro e w5 ⟨v,rfl,hown,hb5⟩; refine ⟨_,rfl,?_⟩)
    have hfin:Below w.heap.size w w5:=(hB4.trans (Below.mono (((Below.refl _ _).alloc (Nat.le_refl _) _).alloc (by simp) _).drew hsz4)).trans (hb5.mono (by simp; omega))
    have hown6:=own_down (base':=w.heap.size) hown (by simp; omega)
    clear hown hb5 HS1 HS2 hx0 hx1 hx2 hx3 hrun
    obtain ⟨A6,c6,rfl⟩:=slice_of_own hown6
    go_wp2
    go_ret
    refine ⟨_,rfl,?_,hfin⟩
    have e1:res = d.take i ++ [⟨id,x.ua + sz,x.ub,x.uc⟩] ++ d.drop (i):=by rw [HRE.out]; simp
    rw [e1,List.length_append,List.length_append,HDT.out,HDL.out]
    exact hown6
  ·skip
   have hs1:=hl4.upto (m:=i) (by omega)
   rw [flatBk_take] at hs1
   have hdl:(d.drop (i)).length = (n - (i)):=by rw [List.length_drop,HD.out] <;> omega
   have hiI:(i:Int) ≤ (n:Int):=by omega
   have hic:i ≤ c:=by omega
   have hicI:(i:Int) ≤ (c:Int):=by omega
   have hs2:=hl4.from_ (m:=i) (by omega)
   rw [flatBk_drop,if_neg hcE] at hs2
   have HDL:=Lib.hid hdl
   have HS1:=Lib.hid hs1
   have HS2:=Lib.hid hs2
   clear hdl hs1 hs2 hl4
   cases z with
   | true =>
    go_wp2_with fail
    have hO:=Blok.new w4 26 #[.slice A i (c),.slice (Option.map (fun x => x.add ((i) * 4)) A) (n - (i)) (c - (i))]
    refine Calls.mono (concat2Bk w4.heap.size 2 26 A _ i (n - (i)) (c) (c - (i)) (d.take i) (d.drop (i)) _ HDT.out HDL.out (by omega) hO (HS1.out.up ((Below.refl _ _).alloc (Nat.le_refl _) _)) (HS2.out.up ((Below.refl _ _).alloc (Nat.le_refl _) _))) ?_
    rintro e w5 ⟨v,rfl,hown,hb5⟩
    have hfin:Below w.heap.size w w5:=(hB4.trans (Below.mono ((Below.refl _ _).alloc (Nat.le_refl _) _) hsz4)).trans (hb5.mono (by simp; omega))
    have hown6:=own_down (base':=w.heap.size) hown (by simp; omega)
    obtain ⟨m6,hm6⟩:∃ m,i + (n - (i)) = m:=⟨_,rfl⟩
    rw [hm6] at hown6
    have HM6:=Lib.hid hm6
    clear hown hb5 HS1 HS2 hx0 hx1 hx2 hx3 hrun hO hm6
    obtain ⟨A6,c6,rfl⟩:=slice_of_own hown6
    go_wp2
    go_ret
    refine ⟨_,rfl,?_,hfin⟩
    have e1:res = d.take i ++ d.drop (i):=by rw [HRE.out]; simp
    rw [e1,List.length_append,HDT.out,HDL.out,HM6.out]
    exact hown6
   | false =>
    go_wp2_with fail
    go_region_law (refine step_call rfl 153 #[.tmp 56] _ rfl #[.slice (some ⟨w4.heap.size + 1,0,none⟩) 3 3] (by simp [Act.eval,Act.put]) Tryz.func153 rfl rfl ?_; refine Calls.mono (concat3Bk (w4.heap.size + 1) 3 26 A (some ⟨w4.heap.size,0,none⟩) _ i 1 (n - (i)) (c) 1 (c - (i)) (d.take i) [⟨id,x.ua + sz,x.ub,x.uc⟩] (d.drop (i)) _ HDT.out rfl HDL.out (by omega) (by have h:=Blok.new (w4.alloc (.cells #[.int .i64 id,.int .i64 (x.ua + sz),.int .i64 (x.ub),.int .i64 (x.uc)] 50)) 26 #[.slice A i (c),.slice (some ⟨w4.heap.size,0,none⟩) 1 1,.slice (Option.map (fun x => x.add ((i) * 4)) A) (n - (i)) (c - (i))]; rw [World.size_alloc] at h; exact h) (HS1.out.up (((Below.refl _ _).alloc (Nat.le_refl _) _).alloc (by simp) _).drew) (by exact Sl.of_own ((own_lit w4 0 50 4 1 #[.int .i64 id,.int .i64 (x.ua + sz),.int .i64 (x.ub),.int .i64 (x.uc)] (by omega) rfl (by simp [maxLen])).alloc _)) (HS2.out.up (((Below.refl _ _).alloc (Nat.le_refl _) _).alloc (by simp) _).drew)) ?_; rintro e w5 ⟨v,rfl,hown,hb5⟩; refine ⟨_,rfl,?_⟩)
    have hfin:Below w.heap.size w w5:=(hB4.trans (Below.mono (((Below.refl _ _).alloc (Nat.le_refl _) _).alloc (by simp) _).drew hsz4)).trans (hb5.mono (by simp; omega))
    have hown6:=own_down (base':=w.heap.size) hown (by simp; omega)
    clear hown hb5 HS1 HS2 hx0 hx1 hx2 hx3 hrun
    obtain ⟨A6,c6,rfl⟩:=slice_of_own hown6
    go_wp2
    go_ret
    refine ⟨_,rfl,?_,hfin⟩
    have e1:res = d.take i ++ [⟨id,x.ua + sz,x.ub,x.uc⟩] ++ d.drop (i):=by rw [HRE.out]; simp
    rw [e1,List.length_append,List.length_append,HDT.out,HDL.out]
    exact hown6
set_option maxHeartbeats 4000000 in
set_option maxRecDepth 100000 in
theorem more1 (A:Option Addr) (n c:Nat) (d:List Bk) (id sz:Int) (w:World) (hd:d.length = n) (hn:n ≤ 1000000 - 1) (h:Sl w w.heap.size 4 A n c (flatBk d)) (hs:SortB d) (x:Bk) (hx:rowB d id = x) (ho1 : -9223372036854775808 ≤ x.ub + sz) (ho2:x.ub + sz ≤ 9223372036854775807) :
  Calls Tryz.prog 98 #[.slice A n c,.int .i64 id,.int .i64 1,.int .i64 sz] w fun e w' => ∃ v,e = .returned v ∧ w'.ownsRow w.heap.size 50 4 v (moreB d id ⟨id,x.ua,x.ub + sz,x.uc⟩).length (flatBk (moreB d id ⟨id,x.ua,x.ub + sz,x.uc⟩)) ∧ Below w.heap.size w w':=by
 have HU:=Lib.hid (used_any A n c d id w hd (by omega) h hs x hx)
 have HSB:=Lib.hid hs
 obtain ⟨i,hi⟩:∃ i,pl d id = i:=⟨_,rfl⟩
 obtain ⟨b,hb⟩:∃ b,hit d id = b:=⟨_,rfl⟩
 obtain ⟨z,hz⟩:∃ z,zeroU ⟨id,x.ua,x.ub + sz,x.uc⟩ = z:=⟨_,rfl⟩
 have hle:i ≤ n:=by rw [← hi,← hd]; exact pl_le d id
 have hlt:b = true → i < n:=fun e => by rw [← hi,← hd]; exact (hit_at hs (by rw [hb,e])).1
 obtain ⟨res,hres⟩:∃ res,moreB d id ⟨id,x.ua,x.ub + sz,x.uc⟩ = res:=⟨_,rfl⟩
 have hre:res = d.take i ++ (if z = true then [] else [⟨id,x.ua,x.ub + sz,x.uc⟩]) ++ d.drop (i + if b = true then 1 else 0):=by rw [← hres]; unfold moreB; rw [hi,hb,hz]
 have HRE:=Lib.hid hre
 rw [hres]
 have hcap:=h.cap
 have hmax:=h.max
 unfold maxLen at hmax
 have HI:=Lib.hid hi
 have HB:=Lib.hid hb
 have HZ:=Lib.hid hz
 have HD:=Lib.hid hd
 have HL:=Lib.hid h
 clear hs hx hi hb hz hres hre hd h
 go_enter Tryz.func98,Tryz.ntmps98
 go_wp2_with fail
 refine HU.out.mono ?_
 rintro e w2 ⟨rfl,hB2⟩
 have hl2:=HL.out.up hB2
 have hXx:=Blok.new w2 50 #[.int .i64 id,.int .i64 (x.ua),.int .i64 (x.ub + sz),.int .i64 (x.uc)]
 have hb3:Below w2.heap.size w2 (w2.alloc (.cells #[.int .i64 id,.int .i64 (x.ua),.int .i64 (x.ub + sz),.int .i64 (x.uc)] 50)):=(Below.refl _ _).alloc (Nat.le_refl _) _
 have hl3:=hl2.up hb3
 have hB3:=hB2.trans (hb3.mono hB2.size)
 clear hb3 hl2 hB2 HU HL
 go_wp2_with fail
 generalize w2.alloc (.cells #[.int .i64 id,.int .i64 (x.ua),.int .i64 (x.ub + sz),.int .i64 (x.uc)] 50) = w3 at *
 generalize w2.heap.size = bb at *
 refine (find_any A n c d id w3 HD.out (by omega) hl3 HSB.out i b HI.out HB.out).mono ?_
 rintro e w4 ⟨rfl,hb4⟩
 have hX4:=hXx.below hb4 hXx.lt
 have hl4:=hl3.up hb4
 have hB4:=hB3.trans (hb4.mono hB3.size)
 clear hb4 hl3 hB3 hXx
 have hrun:=eql3 (x.ua) (x.ub + sz) (x.uc) 0 0 0
 have hzz:=HZ.out
 unfold zeroU at hzz
 simp only at hzz
 rw [hzz] at hrun
 have hx0:w4.cell? ⟨bb,0,none⟩ = some (.int .i64 id):=hX4.cell 0
 have hx1:w4.cell? ⟨bb,1,none⟩ = some (.int .i64 (x.ua)):=hX4.cell 1
 have hx2:w4.cell? ⟨bb,2,none⟩ = some (.int .i64 (x.ub + sz)):=hX4.cell 2
 have hx3:w4.cell? ⟨bb,3,none⟩ = some (.int .i64 (x.uc)):=hX4.cell 3
 have hbl:=hX4.lt
 have hsz4:=hB4.size
 clear hzz hX4
 have hdt:(d.take i).length = i:=by rw [List.length_take,HD.out]; omega
 have HDT:=Lib.hid hdt
 clear hdt
 cases b with
 | true =>
  have hin:i < n:=hlt rfl
  clear hlt
  by_cases hcE:c = i + 1
  ·skip
   obtain rfl:n = i + 1:=by omega
   obtain rfl:c = i + 1:=by omega
   clear hcE
   have hs1:=hl4.upto (m:=i) (by omega)
   rw [flatBk_take] at hs1
   have hdl:(d.drop (i + 1)).length = 0:=by rw [List.length_drop,HD.out] <;> omega
   have hii1:(i:Int) ≤ (i:Int) + 1:=by omega
   have hii2:i ≤ i + 1:=by omega
   have hii3:(i:Int) ≤ (i:Int):=by omega
   have hs2:Sl w4 w4.heap.size 4 A 0 0 (flatBk (d.drop (i + 1))):=by
    rw [List.drop_of_length_le (by have:=HD.out; omega)]
    exact ⟨⟨by simp [flatBk],fun h => by omega⟩,by omega,by simp [maxLen],fun _ => rfl⟩
   have HDL:=Lib.hid hdl
   have HS1:=Lib.hid hs1
   have HS2:=Lib.hid hs2
   clear hdl hs1 hs2 hl4
   cases z with
   | true =>
    go_wp2_with fail
    have hO:=Blok.new w4 26 #[.slice A i (i + 1),.slice A 0 0]
    refine Calls.mono (concat2Bk w4.heap.size 2 26 A _ i 0 (i + 1) 0 (d.take i) (d.drop (i + 1)) _ HDT.out HDL.out (by omega) hO (HS1.out.up ((Below.refl _ _).alloc (Nat.le_refl _) _)) (HS2.out.up ((Below.refl _ _).alloc (Nat.le_refl _) _))) ?_
    rintro e w5 ⟨v,rfl,hown,hb5⟩
    have hfin:Below w.heap.size w w5:=(hB4.trans (Below.mono ((Below.refl _ _).alloc (Nat.le_refl _) _) hsz4)).trans (hb5.mono (by simp; omega))
    have hown6:=own_down (base':=w.heap.size) hown (by simp; omega)
    obtain ⟨m6,hm6⟩:∃ m,i + 0 = m:=⟨_,rfl⟩
    rw [hm6] at hown6
    have HM6:=Lib.hid hm6
    clear hown hb5 HS1 HS2 hx0 hx1 hx2 hx3 hrun hO hm6
    obtain ⟨A6,c6,rfl⟩:=slice_of_own hown6
    go_wp2
    go_ret
    refine ⟨_,rfl,?_,hfin⟩
    have e1:res = d.take i ++ d.drop (i + 1):=by rw [HRE.out]; simp
    rw [e1,List.length_append,HDT.out,HDL.out,HM6.out]
    exact hown6
   | false =>
    go_wp2_with fail
    go_region_law (refine step_call rfl 153 #[.tmp 56] _ rfl #[.slice (some ⟨w4.heap.size + 1,0,none⟩) 3 3] (by simp [Act.eval,Act.put]) Tryz.func153 rfl rfl ?_; refine Calls.mono (concat3Bk (w4.heap.size + 1) 3 26 A (some ⟨w4.heap.size,0,none⟩) _ i 1 0 (i + 1) 1 0 (d.take i) [⟨id,x.ua,x.ub + sz,x.uc⟩] (d.drop (i + 1)) _ HDT.out rfl HDL.out (by omega) (by have h:=Blok.new (w4.alloc (.cells #[.int .i64 id,.int .i64 (x.ua),.int .i64 (x.ub + sz),.int .i64 (x.uc)] 50)) 26 #[.slice A i (i + 1),.slice (some ⟨w4.heap.size,0,none⟩) 1 1,.slice A 0 0]; rw [World.size_alloc] at h; exact h) (HS1.out.up (((Below.refl _ _).alloc (Nat.le_refl _) _).alloc (by simp) _).drew) (by exact Sl.of_own ((own_lit w4 0 50 4 1 #[.int .i64 id,.int .i64 (x.ua),.int .i64 (x.ub + sz),.int .i64 (x.uc)] (by omega) rfl (by simp [maxLen])).alloc _)) (HS2.out.up (((Below.refl _ _).alloc (Nat.le_refl _) _).alloc (by simp) _).drew)) ?_; rintro e w5 ⟨v,rfl,hown,hb5⟩; refine ⟨_,rfl,?_⟩)
    have hfin:Below w.heap.size w w5:=(hB4.trans (Below.mono (((Below.refl _ _).alloc (Nat.le_refl _) _).alloc (by simp) _).drew hsz4)).trans (hb5.mono (by simp; omega))
    have hown6:=own_down (base':=w.heap.size) hown (by simp; omega)
    clear hown hb5 HS1 HS2 hx0 hx1 hx2 hx3 hrun
    obtain ⟨A6,c6,rfl⟩:=slice_of_own hown6
    go_wp2
    go_ret
    refine ⟨_,rfl,?_,hfin⟩
    have e1:res = d.take i ++ [⟨id,x.ua,x.ub + sz,x.uc⟩] ++ d.drop (i + 1):=by rw [HRE.out]; simp
    rw [e1,List.length_append,List.length_append,HDT.out,HDL.out]
    exact hown6
  ·skip
   have hcE0:¬ c = i:=by omega
   have hs1:=hl4.upto (m:=i) (by omega)
   rw [flatBk_take] at hs1
   have hdl:(d.drop (i + 1)).length = (n - (i + 1)):=by rw [List.length_drop,HD.out] <;> omega
   have hiI:(i:Int) ≤ (n:Int):=by omega
   have hic:i ≤ c:=by omega
   have hicI:(i:Int) ≤ (c:Int):=by omega
   have hi1I:(i:Int) + 1 ≤ (n:Int):=by omega
   have hi1c:i + 1 ≤ c:=by omega
   have hi1cI:(i:Int) + 1 ≤ (c:Int):=by omega
   have hs2:=hl4.from_ (m:=i + 1) (by omega)
   rw [flatBk_drop,if_neg hcE] at hs2
   have HDL:=Lib.hid hdl
   have HS1:=Lib.hid hs1
   have HS2:=Lib.hid hs2
   clear hdl hs1 hs2 hl4
   cases z with
   | true =>
    go_wp2_with fail
    have hO:=Blok.new w4 26 #[.slice A i (c),.slice (Option.map (fun x => x.add ((i + 1) * 4)) A) (n - (i + 1)) (c - (i + 1))]
    refine Calls.mono (concat2Bk w4.heap.size 2 26 A _ i (n - (i + 1)) (c) (c - (i + 1)) (d.take i) (d.drop (i + 1)) _ HDT.out HDL.out (by omega) hO (HS1.out.up ((Below.refl _ _).alloc (Nat.le_refl _) _)) (HS2.out.up ((Below.refl _ _).alloc (Nat.le_refl _) _))) ?_
    rintro e w5 ⟨v,rfl,hown,hb5⟩
    have hfin:Below w.heap.size w w5:=(hB4.trans (Below.mono ((Below.refl _ _).alloc (Nat.le_refl _) _) hsz4)).trans (hb5.mono (by simp; omega))
    have hown6:=own_down (base':=w.heap.size) hown (by simp; omega)
    obtain ⟨m6,hm6⟩:∃ m,i + (n - (i + 1)) = m:=⟨_,rfl⟩
    rw [hm6] at hown6
    have HM6:=Lib.hid hm6
    clear hown hb5 HS1 HS2 hx0 hx1 hx2 hx3 hrun hO hm6
    obtain ⟨A6,c6,rfl⟩:=slice_of_own hown6
    go_wp2
    go_ret
    refine ⟨_,rfl,?_,hfin⟩
    have e1:res = d.take i ++ d.drop (i + 1):=by rw [HRE.out]; simp
    rw [e1,List.length_append,HDT.out,HDL.out,HM6.out]
    exact hown6
   | false =>
    go_wp2_with fail
    go_region_law (refine step_call rfl 153 #[.tmp 56] _ rfl #[.slice (some ⟨w4.heap.size + 1,0,none⟩) 3 3] (by simp [Act.eval,Act.put]) Tryz.func153 rfl rfl ?_; refine Calls.mono (concat3Bk (w4.heap.size + 1) 3 26 A (some ⟨w4.heap.size,0,none⟩) _ i 1 (n - (i + 1)) (c) 1 (c - (i + 1)) (d.take i) [⟨id,x.ua,x.ub + sz,x.uc⟩] (d.drop (i + 1)) _ HDT.out rfl HDL.out (by omega) (by have h:=Blok.new (w4.alloc (.cells #[.int .i64 id,.int .i64 (x.ua),.int .i64 (x.ub + sz),.int .i64 (x.uc)] 50)) 26 #[.slice A i (c),.slice (some ⟨w4.heap.size,0,none⟩) 1 1,.slice (Option.map (fun x => x.add ((i + 1) * 4)) A) (n - (i + 1)) (c - (i + 1))]; rw [World.size_alloc] at h; exact h) (HS1.out.up (((Below.refl _ _).alloc (Nat.le_refl _) _).alloc (by simp) _).drew) (by exact Sl.of_own ((own_lit w4 0 50 4 1 #[.int .i64 id,.int .i64 (x.ua),.int .i64 (x.ub + sz),.int .i64 (x.uc)] (by omega) rfl (by simp [maxLen])).alloc _)) (HS2.out.up (((Below.refl _ _).alloc (Nat.le_refl _) _).alloc (by simp) _).drew)) ?_; rintro e w5 ⟨v,rfl,hown,hb5⟩; refine ⟨_,rfl,?_⟩)
    have hfin:Below w.heap.size w w5:=(hB4.trans (Below.mono (((Below.refl _ _).alloc (Nat.le_refl _) _).alloc (by simp) _).drew hsz4)).trans (hb5.mono (by simp; omega))
    have hown6:=own_down (base':=w.heap.size) hown (by simp; omega)
    clear hown hb5 HS1 HS2 hx0 hx1 hx2 hx3 hrun
    obtain ⟨A6,c6,rfl⟩:=slice_of_own hown6
    go_wp2
    go_ret
    refine ⟨_,rfl,?_,hfin⟩
    have e1:res = d.take i ++ [⟨id,x.ua,x.ub + sz,x.uc⟩] ++ d.drop (i + 1):=by rw [HRE.out]; simp
    rw [e1,List.length_append,List.length_append,HDT.out,HDL.out]
    exact hown6
 | false =>
  have hin:i ≤ n:=hle
  clear hlt
  by_cases hcE:c = i
  ·skip
   have e1:i = n:=by omega
   subst e1
   have e2:i = c:=by omega
   subst e2
   clear hcE
   have hs1:=hl4.upto (m:=i) (by omega)
   rw [flatBk_take] at hs1
   have hdl:(d.drop (i)).length = 0:=by rw [List.length_drop,HD.out] <;> omega
   have hii1:(i:Int) ≤ (i:Int) + 1:=by omega
   have hii2:i ≤ i + 1:=by omega
   have hii3:(i:Int) ≤ (i:Int):=by omega
   have hs2:Sl w4 w4.heap.size 4 A 0 0 (flatBk (d.drop (i))):=by
    rw [List.drop_of_length_le (by have:=HD.out; omega)]
    exact ⟨⟨by simp [flatBk],fun h => by omega⟩,by omega,by simp [maxLen],fun _ => rfl⟩
   have HDL:=Lib.hid hdl
   have HS1:=Lib.hid hs1
   have HS2:=Lib.hid hs2
   clear hdl hs1 hs2 hl4
   cases z with
   | true =>
    go_wp2_with fail
    have hO:=Blok.new w4 26 #[.slice A i (i),.slice A 0 0]
    refine Calls.mono (concat2Bk w4.heap.size 2 26 A _ i 0 (i) 0 (d.take i) (d.drop (i)) _ HDT.out HDL.out (by omega) hO (HS1.out.up ((Below.refl _ _).alloc (Nat.le_refl _) _)) (HS2.out.up ((Below.refl _ _).alloc (Nat.le_refl _) _))) ?_
    rintro e w5 ⟨v,rfl,hown,hb5⟩
    have hfin:Below w.heap.size w w5:=(hB4.trans (Below.mono ((Below.refl _ _).alloc (Nat.le_refl _) _) hsz4)).trans (hb5.mono (by simp; omega))
    have hown6:=own_down (base':=w.heap.size) hown (by simp; omega)
    obtain ⟨m6,hm6⟩:∃ m,i + 0 = m:=⟨_,rfl⟩
    rw [hm6] at hown6
    have HM6:=Lib.hid hm6
    clear hown hb5 HS1 HS2 hx0 hx1 hx2 hx3 hrun hO hm6
    obtain ⟨A6,c6,rfl⟩:=slice_of_own hown6
    go_wp2
    go_ret
    refine ⟨_,rfl,?_,hfin⟩
    have e1:res = d.take i ++ d.drop (i):=by rw [HRE.out]; simp
    rw [e1,List.length_append,HDT.out,HDL.out,HM6.out]
    exact hown6
   | false =>
    go_wp2_with fail
    go_region_law (refine step_call rfl 153 #[.tmp 56] _ rfl #[.slice (some ⟨w4.heap.size + 1,0,none⟩) 3 3] (by simp [Act.eval,Act.put]) Tryz.func153 rfl rfl ?_; refine Calls.mono (concat3Bk (w4.heap.size + 1) 3 26 A (some ⟨w4.heap.size,0,none⟩) _ i 1 0 (i) 1 0 (d.take i) [⟨id,x.ua,x.ub + sz,x.uc⟩] (d.drop (i)) _ HDT.out rfl HDL.out (by omega) (by have h:=Blok.new (w4.alloc (.cells #[.int .i64 id,.int .i64 (x.ua),.int .i64 (x.ub + sz),.int .i64 (x.uc)] 50)) 26 #[.slice A i (i),.slice (some ⟨w4.heap.size,0,none⟩) 1 1,.slice A 0 0]; rw [World.size_alloc] at h; exact h) (HS1.out.up (((Below.refl _ _).alloc (Nat.le_refl _) _).alloc (by simp) _).drew) (by exact Sl.of_own ((own_lit w4 0 50 4 1 #[.int .i64 id,.int .i64 (x.ua),.int .i64 (x.ub + sz),.int .i64 (x.uc)] (by omega) rfl (by simp [maxLen])).alloc _)) (HS2.out.up (((Below.refl _ _).alloc (Nat.le_refl _) _).alloc (by simp) _).drew)) ?_; rintro e w5 ⟨v,rfl,hown,hb5⟩; refine ⟨_,rfl,?_⟩)
    have hfin:Below w.heap.size w w5:=(hB4.trans (Below.mono (((Below.refl _ _).alloc (Nat.le_refl _) _).alloc (by simp) _).drew hsz4)).trans (hb5.mono (by simp; omega))
    have hown6:=own_down (base':=w.heap.size) hown (by simp; omega)
    clear hown hb5 HS1 HS2 hx0 hx1 hx2 hx3 hrun
    obtain ⟨A6,c6,rfl⟩:=slice_of_own hown6
    go_wp2
    go_ret
    refine ⟨_,rfl,?_,hfin⟩
    have e1:res = d.take i ++ [⟨id,x.ua,x.ub + sz,x.uc⟩] ++ d.drop (i):=by rw [HRE.out]; simp
    rw [e1,List.length_append,List.length_append,HDT.out,HDL.out]
    exact hown6
  ·skip
   have hs1:=hl4.upto (m:=i) (by omega)
   rw [flatBk_take] at hs1
   have hdl:(d.drop (i)).length = (n - (i)):=by rw [List.length_drop,HD.out] <;> omega
   have hiI:(i:Int) ≤ (n:Int):=by omega
   have hic:i ≤ c:=by omega
   have hicI:(i:Int) ≤ (c:Int):=by omega
   have hs2:=hl4.from_ (m:=i) (by omega)
   rw [flatBk_drop,if_neg hcE] at hs2
   have HDL:=Lib.hid hdl
   have HS1:=Lib.hid hs1
   have HS2:=Lib.hid hs2
   clear hdl hs1 hs2 hl4
   cases z with
   | true =>
    go_wp2_with fail
    have hO:=Blok.new w4 26 #[.slice A i (c),.slice (Option.map (fun x => x.add ((i) * 4)) A) (n - (i)) (c - (i))]
    refine Calls.mono (concat2Bk w4.heap.size 2 26 A _ i (n - (i)) (c) (c - (i)) (d.take i) (d.drop (i)) _ HDT.out HDL.out (by omega) hO (HS1.out.up ((Below.refl _ _).alloc (Nat.le_refl _) _)) (HS2.out.up ((Below.refl _ _).alloc (Nat.le_refl _) _))) ?_
    rintro e w5 ⟨v,rfl,hown,hb5⟩
    have hfin:Below w.heap.size w w5:=(hB4.trans (Below.mono ((Below.refl _ _).alloc (Nat.le_refl _) _) hsz4)).trans (hb5.mono (by simp; omega))
    have hown6:=own_down (base':=w.heap.size) hown (by simp; omega)
    obtain ⟨m6,hm6⟩:∃ m,i + (n - (i)) = m:=⟨_,rfl⟩
    rw [hm6] at hown6
    have HM6:=Lib.hid hm6
    clear hown hb5 HS1 HS2 hx0 hx1 hx2 hx3 hrun hO hm6
    obtain ⟨A6,c6,rfl⟩:=slice_of_own hown6
    go_wp2
    go_ret
    refine ⟨_,rfl,?_,hfin⟩
    have e1:res = d.take i ++ d.drop (i):=by rw [HRE.out]; simp
    rw [e1,List.length_append,HDT.out,HDL.out,HM6.out]
    exact hown6
   | false =>
    go_wp2_with fail
    go_region_law (refine step_call rfl 153 #[.tmp 56] _ rfl #[.slice (some ⟨w4.heap.size + 1,0,none⟩) 3 3] (by simp [Act.eval,Act.put]) Tryz.func153 rfl rfl ?_; refine Calls.mono (concat3Bk (w4.heap.size + 1) 3 26 A (some ⟨w4.heap.size,0,none⟩) _ i 1 (n - (i)) (c) 1 (c - (i)) (d.take i) [⟨id,x.ua,x.ub + sz,x.uc⟩] (d.drop (i)) _ HDT.out rfl HDL.out (by omega) (by have h:=Blok.new (w4.alloc (.cells #[.int .i64 id,.int .i64 (x.ua),.int .i64 (x.ub + sz),.int .i64 (x.uc)] 50)) 26 #[.slice A i (c),.slice (some ⟨w4.heap.size,0,none⟩) 1 1,.slice (Option.map (fun x => x.add ((i) * 4)) A) (n - (i)) (c - (i))]; rw [World.size_alloc] at h; exact h) (HS1.out.up (((Below.refl _ _).alloc (Nat.le_refl _) _).alloc (by simp) _).drew) (by exact Sl.of_own ((own_lit w4 0 50 4 1 #[.int .i64 id,.int .i64 (x.ua),.int .i64 (x.ub + sz),.int .i64 (x.uc)] (by omega) rfl (by simp [maxLen])).alloc _)) (HS2.out.up (((Below.refl _ _).alloc (Nat.le_refl _) _).alloc (by simp) _).drew)) ?_; rintro e w5 ⟨v,rfl,hown,hb5⟩; refine ⟨_,rfl,?_⟩)
    have hfin:Below w.heap.size w w5:=(hB4.trans (Below.mono (((Below.refl _ _).alloc (Nat.le_refl _) _).alloc (by simp) _).drew hsz4)).trans (hb5.mono (by simp; omega))
    have hown6:=own_down (base':=w.heap.size) hown (by simp; omega)
    clear hown hb5 HS1 HS2 hx0 hx1 hx2 hx3 hrun
    obtain ⟨A6,c6,rfl⟩:=slice_of_own hown6
    go_wp2
    go_ret
    refine ⟨_,rfl,?_,hfin⟩
    have e1:res = d.take i ++ [⟨id,x.ua,x.ub + sz,x.uc⟩] ++ d.drop (i):=by rw [HRE.out]; simp
    rw [e1,List.length_append,List.length_append,HDT.out,HDL.out]
    exact hown6
set_option maxHeartbeats 4000000 in
set_option maxRecDepth 100000 in
theorem more2 (A:Option Addr) (n c:Nat) (d:List Bk) (id sz:Int) (w:World) (hd:d.length = n) (hn:n ≤ 1000000 - 1) (h:Sl w w.heap.size 4 A n c (flatBk d)) (hs:SortB d) (x:Bk) (hx:rowB d id = x) (ho1 : -9223372036854775808 ≤ x.uc + sz) (ho2:x.uc + sz ≤ 9223372036854775807) :
  Calls Tryz.prog 98 #[.slice A n c,.int .i64 id,.int .i64 2,.int .i64 sz] w fun e w' => ∃ v,e = .returned v ∧ w'.ownsRow w.heap.size 50 4 v (moreB d id ⟨id,x.ua,x.ub,x.uc + sz⟩).length (flatBk (moreB d id ⟨id,x.ua,x.ub,x.uc + sz⟩)) ∧ Below w.heap.size w w':=by
 have HU:=Lib.hid (used_any A n c d id w hd (by omega) h hs x hx)
 have HSB:=Lib.hid hs
 obtain ⟨i,hi⟩:∃ i,pl d id = i:=⟨_,rfl⟩
 obtain ⟨b,hb⟩:∃ b,hit d id = b:=⟨_,rfl⟩
 obtain ⟨z,hz⟩:∃ z,zeroU ⟨id,x.ua,x.ub,x.uc + sz⟩ = z:=⟨_,rfl⟩
 have hle:i ≤ n:=by rw [← hi,← hd]; exact pl_le d id
 have hlt:b = true → i < n:=fun e => by rw [← hi,← hd]; exact (hit_at hs (by rw [hb,e])).1
 obtain ⟨res,hres⟩:∃ res,moreB d id ⟨id,x.ua,x.ub,x.uc + sz⟩ = res:=⟨_,rfl⟩
 have hre:res = d.take i ++ (if z = true then [] else [⟨id,x.ua,x.ub,x.uc + sz⟩]) ++ d.drop (i + if b = true then 1 else 0):=by rw [← hres]; unfold moreB; rw [hi,hb,hz]
 have HRE:=Lib.hid hre
 rw [hres]
 have hcap:=h.cap
 have hmax:=h.max
 unfold maxLen at hmax
 have HI:=Lib.hid hi
 have HB:=Lib.hid hb
 have HZ:=Lib.hid hz
 have HD:=Lib.hid hd
 have HL:=Lib.hid h
 clear hs hx hi hb hz hres hre hd h
 go_enter Tryz.func98,Tryz.ntmps98
 go_wp2_with fail
 refine HU.out.mono ?_
 rintro e w2 ⟨rfl,hB2⟩
 have hl2:=HL.out.up hB2
 have hXx:=Blok.new w2 50 #[.int .i64 id,.int .i64 (x.ua),.int .i64 (x.ub),.int .i64 (x.uc + sz)]
 have hb3:Below w2.heap.size w2 (w2.alloc (.cells #[.int .i64 id,.int .i64 (x.ua),.int .i64 (x.ub),.int .i64 (x.uc + sz)] 50)):=(Below.refl _ _).alloc (Nat.le_refl _) _
 have hl3:=hl2.up hb3
 have hB3:=hB2.trans (hb3.mono hB2.size)
 clear hb3 hl2 hB2 HU HL
 go_wp2_with fail
 generalize w2.alloc (.cells #[.int .i64 id,.int .i64 (x.ua),.int .i64 (x.ub),.int .i64 (x.uc + sz)] 50) = w3 at *
 generalize w2.heap.size = bb at *
 refine (find_any A n c d id w3 HD.out (by omega) hl3 HSB.out i b HI.out HB.out).mono ?_
 rintro e w4 ⟨rfl,hb4⟩
 have hX4:=hXx.below hb4 hXx.lt
 have hl4:=hl3.up hb4
 have hB4:=hB3.trans (hb4.mono hB3.size)
 clear hb4 hl3 hB3 hXx
 have hrun:=eql3 (x.ua) (x.ub) (x.uc + sz) 0 0 0
 have hzz:=HZ.out
 unfold zeroU at hzz
 simp only at hzz
 rw [hzz] at hrun
 have hx0:w4.cell? ⟨bb,0,none⟩ = some (.int .i64 id):=hX4.cell 0
 have hx1:w4.cell? ⟨bb,1,none⟩ = some (.int .i64 (x.ua)):=hX4.cell 1
 have hx2:w4.cell? ⟨bb,2,none⟩ = some (.int .i64 (x.ub)):=hX4.cell 2
 have hx3:w4.cell? ⟨bb,3,none⟩ = some (.int .i64 (x.uc + sz)):=hX4.cell 3
 have hbl:=hX4.lt
 have hsz4:=hB4.size
 clear hzz hX4
 have hdt:(d.take i).length = i:=by rw [List.length_take,HD.out]; omega
 have HDT:=Lib.hid hdt
 clear hdt
 cases b with
 | true =>
  have hin:i < n:=hlt rfl
  clear hlt
  by_cases hcE:c = i + 1
  ·skip
   obtain rfl:n = i + 1:=by omega
   obtain rfl:c = i + 1:=by omega
   clear hcE
   have hs1:=hl4.upto (m:=i) (by omega)
   rw [flatBk_take] at hs1
   have hdl:(d.drop (i + 1)).length = 0:=by rw [List.length_drop,HD.out] <;> omega
   have hii1:(i:Int) ≤ (i:Int) + 1:=by omega
   have hii2:i ≤ i + 1:=by omega
   have hii3:(i:Int) ≤ (i:Int):=by omega
   have hs2:Sl w4 w4.heap.size 4 A 0 0 (flatBk (d.drop (i + 1))):=by
    rw [List.drop_of_length_le (by have:=HD.out; omega)]
    exact ⟨⟨by simp [flatBk],fun h => by omega⟩,by omega,by simp [maxLen],fun _ => rfl⟩
   have HDL:=Lib.hid hdl
   have HS1:=Lib.hid hs1
   have HS2:=Lib.hid hs2
   clear hdl hs1 hs2 hl4
   cases z with
   | true =>
    go_wp2_with fail
    have hO:=Blok.new w4 26 #[.slice A i (i + 1),.slice A 0 0]
    refine Calls.mono (concat2Bk w4.heap.size 2 26 A _ i 0 (i + 1) 0 (d.take i) (d.drop (i + 1)) _ HDT.out HDL.out (by omega) hO (HS1.out.up ((Below.refl _ _).alloc (Nat.le_refl _) _)) (HS2.out.up ((Below.refl _ _).alloc (Nat.le_refl _) _))) ?_
    rintro e w5 ⟨v,rfl,hown,hb5⟩
    have hfin:Below w.heap.size w w5:=(hB4.trans (Below.mono ((Below.refl _ _).alloc (Nat.le_refl _) _) hsz4)).trans (hb5.mono (by simp; omega))
    have hown6:=own_down (base':=w.heap.size) hown (by simp; omega)
    obtain ⟨m6,hm6⟩:∃ m,i + 0 = m:=⟨_,rfl⟩
    rw [hm6] at hown6
    have HM6:=Lib.hid hm6
    clear hown hb5 HS1 HS2 hx0 hx1 hx2 hx3 hrun hO hm6
    obtain ⟨A6,c6,rfl⟩:=slice_of_own hown6
    go_wp2
    go_ret
    refine ⟨_,rfl,?_,hfin⟩
    have e1:res = d.take i ++ d.drop (i + 1):=by rw [HRE.out]; simp
    rw [e1,List.length_append,HDT.out,HDL.out,HM6.out]
    exact hown6
   | false =>
    go_wp2_with fail
    go_region_law (refine step_call rfl 153 #[.tmp 56] _ rfl #[.slice (some ⟨w4.heap.size + 1,0,none⟩) 3 3] (by simp [Act.eval,Act.put]) Tryz.func153 rfl rfl ?_; refine Calls.mono (concat3Bk (w4.heap.size + 1) 3 26 A (some ⟨w4.heap.size,0,none⟩) _ i 1 0 (i + 1) 1 0 (d.take i) [⟨id,x.ua,x.ub,x.uc + sz⟩] (d.drop (i + 1)) _ HDT.out rfl HDL.out (by omega) (by have h:=Blok.new (w4.alloc (.cells #[.int .i64 id,.int .i64 (x.ua),.int .i64 (x.ub),.int .i64 (x.uc + sz)] 50)) 26 #[.slice A i (i + 1),.slice (some ⟨w4.heap.size,0,none⟩) 1 1,.slice A 0 0]; rw [World.size_alloc] at h; exact h) (HS1.out.up (((Below.refl _ _).alloc (Nat.le_refl _) _).alloc (by simp) _).drew) (by exact Sl.of_own ((own_lit w4 0 50 4 1 #[.int .i64 id,.int .i64 (x.ua),.int .i64 (x.ub),.int .i64 (x.uc + sz)] (by omega) rfl (by simp [maxLen])).alloc _)) (HS2.out.up (((Below.refl _ _).alloc (Nat.le_refl _) _).alloc (by simp) _).drew)) ?_; rintro e w5 ⟨v,rfl,hown,hb5⟩; refine ⟨_,rfl,?_⟩)
    have hfin:Below w.heap.size w w5:=(hB4.trans (Below.mono (((Below.refl _ _).alloc (Nat.le_refl _) _).alloc (by simp) _).drew hsz4)).trans (hb5.mono (by simp; omega))
    have hown6:=own_down (base':=w.heap.size) hown (by simp; omega)
    clear hown hb5 HS1 HS2 hx0 hx1 hx2 hx3 hrun
    obtain ⟨A6,c6,rfl⟩:=slice_of_own hown6
    go_wp2
    go_ret
    refine ⟨_,rfl,?_,hfin⟩
    have e1:res = d.take i ++ [⟨id,x.ua,x.ub,x.uc + sz⟩] ++ d.drop (i + 1):=by rw [HRE.out]; simp
    rw [e1,List.length_append,List.length_append,HDT.out,HDL.out]
    exact hown6
  ·skip
   have hcE0:¬ c = i:=by omega
   have hs1:=hl4.upto (m:=i) (by omega)
   rw [flatBk_take] at hs1
   have hdl:(d.drop (i + 1)).length = (n - (i + 1)):=by rw [List.length_drop,HD.out] <;> omega
   have hiI:(i:Int) ≤ (n:Int):=by omega
   have hic:i ≤ c:=by omega
   have hicI:(i:Int) ≤ (c:Int):=by omega
   have hi1I:(i:Int) + 1 ≤ (n:Int):=by omega
   have hi1c:i + 1 ≤ c:=by omega
   have hi1cI:(i:Int) + 1 ≤ (c:Int):=by omega
   have hs2:=hl4.from_ (m:=i + 1) (by omega)
   rw [flatBk_drop,if_neg hcE] at hs2
   have HDL:=Lib.hid hdl
   have HS1:=Lib.hid hs1
   have HS2:=Lib.hid hs2
   clear hdl hs1 hs2 hl4
   cases z with
   | true =>
    go_wp2_with fail
    have hO:=Blok.new w4 26 #[.slice A i (c),.slice (Option.map (fun x => x.add ((i + 1) * 4)) A) (n - (i + 1)) (c - (i + 1))]
    refine Calls.mono (concat2Bk w4.heap.size 2 26 A _ i (n - (i + 1)) (c) (c - (i + 1)) (d.take i) (d.drop (i + 1)) _ HDT.out HDL.out (by omega) hO (HS1.out.up ((Below.refl _ _).alloc (Nat.le_refl _) _)) (HS2.out.up ((Below.refl _ _).alloc (Nat.le_refl _) _))) ?_
    rintro e w5 ⟨v,rfl,hown,hb5⟩
    have hfin:Below w.heap.size w w5:=(hB4.trans (Below.mono ((Below.refl _ _).alloc (Nat.le_refl _) _) hsz4)).trans (hb5.mono (by simp; omega))
    have hown6:=own_down (base':=w.heap.size) hown (by simp; omega)
    obtain ⟨m6,hm6⟩:∃ m,i + (n - (i + 1)) = m:=⟨_,rfl⟩
    rw [hm6] at hown6
    have HM6:=Lib.hid hm6
    clear hown hb5 HS1 HS2 hx0 hx1 hx2 hx3 hrun hO hm6
    obtain ⟨A6,c6,rfl⟩:=slice_of_own hown6
    go_wp2
    go_ret
    refine ⟨_,rfl,?_,hfin⟩
    have e1:res = d.take i ++ d.drop (i + 1):=by rw [HRE.out]; simp
    rw [e1,List.length_append,HDT.out,HDL.out,HM6.out]
    exact hown6
   | false =>
    go_wp2_with fail
    go_region_law (refine step_call rfl 153 #[.tmp 56] _ rfl #[.slice (some ⟨w4.heap.size + 1,0,none⟩) 3 3] (by simp [Act.eval,Act.put]) Tryz.func153 rfl rfl ?_; refine Calls.mono (concat3Bk (w4.heap.size + 1) 3 26 A (some ⟨w4.heap.size,0,none⟩) _ i 1 (n - (i + 1)) (c) 1 (c - (i + 1)) (d.take i) [⟨id,x.ua,x.ub,x.uc + sz⟩] (d.drop (i + 1)) _ HDT.out rfl HDL.out (by omega) (by have h:=Blok.new (w4.alloc (.cells #[.int .i64 id,.int .i64 (x.ua),.int .i64 (x.ub),.int .i64 (x.uc + sz)] 50)) 26 #[.slice A i (c),.slice (some ⟨w4.heap.size,0,none⟩) 1 1,.slice (Option.map (fun x => x.add ((i + 1) * 4)) A) (n - (i + 1)) (c - (i + 1))]; rw [World.size_alloc] at h; exact h) (HS1.out.up (((Below.refl _ _).alloc (Nat.le_refl _) _).alloc (by simp) _).drew) (by exact Sl.of_own ((own_lit w4 0 50 4 1 #[.int .i64 id,.int .i64 (x.ua),.int .i64 (x.ub),.int .i64 (x.uc + sz)] (by omega) rfl (by simp [maxLen])).alloc _)) (HS2.out.up (((Below.refl _ _).alloc (Nat.le_refl _) _).alloc (by simp) _).drew)) ?_; rintro e w5 ⟨v,rfl,hown,hb5⟩; refine ⟨_,rfl,?_⟩)
    have hfin:Below w.heap.size w w5:=(hB4.trans (Below.mono (((Below.refl _ _).alloc (Nat.le_refl _) _).alloc (by simp) _).drew hsz4)).trans (hb5.mono (by simp; omega))
    have hown6:=own_down (base':=w.heap.size) hown (by simp; omega)
    clear hown hb5 HS1 HS2 hx0 hx1 hx2 hx3 hrun
    obtain ⟨A6,c6,rfl⟩:=slice_of_own hown6
    go_wp2
    go_ret
    refine ⟨_,rfl,?_,hfin⟩
    have e1:res = d.take i ++ [⟨id,x.ua,x.ub,x.uc + sz⟩] ++ d.drop (i + 1):=by rw [HRE.out]; simp
    rw [e1,List.length_append,List.length_append,HDT.out,HDL.out]
    exact hown6
 | false =>
  have hin:i ≤ n:=hle
  clear hlt
  by_cases hcE:c = i
  ·skip
   have e1:i = n:=by omega
   subst e1
   have e2:i = c:=by omega
   subst e2
   clear hcE
   have hs1:=hl4.upto (m:=i) (by omega)
   rw [flatBk_take] at hs1
   have hdl:(d.drop (i)).length = 0:=by rw [List.length_drop,HD.out] <;> omega
   have hii1:(i:Int) ≤ (i:Int) + 1:=by omega
   have hii2:i ≤ i + 1:=by omega
   have hii3:(i:Int) ≤ (i:Int):=by omega
   have hs2:Sl w4 w4.heap.size 4 A 0 0 (flatBk (d.drop (i))):=by
    rw [List.drop_of_length_le (by have:=HD.out; omega)]
    exact ⟨⟨by simp [flatBk],fun h => by omega⟩,by omega,by simp [maxLen],fun _ => rfl⟩
   have HDL:=Lib.hid hdl
   have HS1:=Lib.hid hs1
   have HS2:=Lib.hid hs2
   clear hdl hs1 hs2 hl4
   cases z with
   | true =>
    go_wp2_with fail
    have hO:=Blok.new w4 26 #[.slice A i (i),.slice A 0 0]
    refine Calls.mono (concat2Bk w4.heap.size 2 26 A _ i 0 (i) 0 (d.take i) (d.drop (i)) _ HDT.out HDL.out (by omega) hO (HS1.out.up ((Below.refl _ _).alloc (Nat.le_refl _) _)) (HS2.out.up ((Below.refl _ _).alloc (Nat.le_refl _) _))) ?_
    rintro e w5 ⟨v,rfl,hown,hb5⟩
    have hfin:Below w.heap.size w w5:=(hB4.trans (Below.mono ((Below.refl _ _).alloc (Nat.le_refl _) _) hsz4)).trans (hb5.mono (by simp; omega))
    have hown6:=own_down (base':=w.heap.size) hown (by simp; omega)
    obtain ⟨m6,hm6⟩:∃ m,i + 0 = m:=⟨_,rfl⟩
    rw [hm6] at hown6
    have HM6:=Lib.hid hm6
    clear hown hb5 HS1 HS2 hx0 hx1 hx2 hx3 hrun hO hm6
    obtain ⟨A6,c6,rfl⟩:=slice_of_own hown6
    go_wp2
    go_ret
    refine ⟨_,rfl,?_,hfin⟩
    have e1:res = d.take i ++ d.drop (i):=by rw [HRE.out]; simp
    rw [e1,List.length_append,HDT.out,HDL.out,HM6.out]
    exact hown6
   | false =>
    go_wp2_with fail
    go_region_law (refine step_call rfl 153 #[.tmp 56] _ rfl #[.slice (some ⟨w4.heap.size + 1,0,none⟩) 3 3] (by simp [Act.eval,Act.put]) Tryz.func153 rfl rfl ?_; refine Calls.mono (concat3Bk (w4.heap.size + 1) 3 26 A (some ⟨w4.heap.size,0,none⟩) _ i 1 0 (i) 1 0 (d.take i) [⟨id,x.ua,x.ub,x.uc + sz⟩] (d.drop (i)) _ HDT.out rfl HDL.out (by omega) (by have h:=Blok.new (w4.alloc (.cells #[.int .i64 id,.int .i64 (x.ua),.int .i64 (x.ub),.int .i64 (x.uc + sz)] 50)) 26 #[.slice A i (i),.slice (some ⟨w4.heap.size,0,none⟩) 1 1,.slice A 0 0]; rw [World.size_alloc] at h; exact h) (HS1.out.up (((Below.refl _ _).alloc (Nat.le_refl _) _).alloc (by simp) _).drew) (by exact Sl.of_own ((own_lit w4 0 50 4 1 #[.int .i64 id,.int .i64 (x.ua),.int .i64 (x.ub),.int .i64 (x.uc + sz)] (by omega) rfl (by simp [maxLen])).alloc _)) (HS2.out.up (((Below.refl _ _).alloc (Nat.le_refl _) _).alloc (by simp) _).drew)) ?_; rintro e w5 ⟨v,rfl,hown,hb5⟩; refine ⟨_,rfl,?_⟩)
    have hfin:Below w.heap.size w w5:=(hB4.trans (Below.mono (((Below.refl _ _).alloc (Nat.le_refl _) _).alloc (by simp) _).drew hsz4)).trans (hb5.mono (by simp; omega))
    have hown6:=own_down (base':=w.heap.size) hown (by simp; omega)
    clear hown hb5 HS1 HS2 hx0 hx1 hx2 hx3 hrun
    obtain ⟨A6,c6,rfl⟩:=slice_of_own hown6
    go_wp2
    go_ret
    refine ⟨_,rfl,?_,hfin⟩
    have e1:res = d.take i ++ [⟨id,x.ua,x.ub,x.uc + sz⟩] ++ d.drop (i):=by rw [HRE.out]; simp
    rw [e1,List.length_append,List.length_append,HDT.out,HDL.out]
    exact hown6
  ·skip
   have hs1:=hl4.upto (m:=i) (by omega)
   rw [flatBk_take] at hs1
   have hdl:(d.drop (i)).length = (n - (i)):=by rw [List.length_drop,HD.out] <;> omega
   have hiI:(i:Int) ≤ (n:Int):=by omega
   have hic:i ≤ c:=by omega
   have hicI:(i:Int) ≤ (c:Int):=by omega
   have hs2:=hl4.from_ (m:=i) (by omega)
   rw [flatBk_drop,if_neg hcE] at hs2
   have HDL:=Lib.hid hdl
   have HS1:=Lib.hid hs1
   have HS2:=Lib.hid hs2
   clear hdl hs1 hs2 hl4
   cases z with
   | true =>
    go_wp2_with fail
    have hO:=Blok.new w4 26 #[.slice A i (c),.slice (Option.map (fun x => x.add ((i) * 4)) A) (n - (i)) (c - (i))]
    refine Calls.mono (concat2Bk w4.heap.size 2 26 A _ i (n - (i)) (c) (c - (i)) (d.take i) (d.drop (i)) _ HDT.out HDL.out (by omega) hO (HS1.out.up ((Below.refl _ _).alloc (Nat.le_refl _) _)) (HS2.out.up ((Below.refl _ _).alloc (Nat.le_refl _) _))) ?_
    rintro e w5 ⟨v,rfl,hown,hb5⟩
    have hfin:Below w.heap.size w w5:=(hB4.trans (Below.mono ((Below.refl _ _).alloc (Nat.le_refl _) _) hsz4)).trans (hb5.mono (by simp; omega))
    have hown6:=own_down (base':=w.heap.size) hown (by simp; omega)
    obtain ⟨m6,hm6⟩:∃ m,i + (n - (i)) = m:=⟨_,rfl⟩
    rw [hm6] at hown6
    have HM6:=Lib.hid hm6
    clear hown hb5 HS1 HS2 hx0 hx1 hx2 hx3 hrun hO hm6
    obtain ⟨A6,c6,rfl⟩:=slice_of_own hown6
    go_wp2
    go_ret
    refine ⟨_,rfl,?_,hfin⟩
    have e1:res = d.take i ++ d.drop (i):=by rw [HRE.out]; simp
    rw [e1,List.length_append,HDT.out,HDL.out,HM6.out]
    exact hown6
   | false =>
    go_wp2_with fail
    go_region_law (refine step_call rfl 153 #[.tmp 56] _ rfl #[.slice (some ⟨w4.heap.size + 1,0,none⟩) 3 3] (by simp [Act.eval,Act.put]) Tryz.func153 rfl rfl ?_; refine Calls.mono (concat3Bk (w4.heap.size + 1) 3 26 A (some ⟨w4.heap.size,0,none⟩) _ i 1 (n - (i)) (c) 1 (c - (i)) (d.take i) [⟨id,x.ua,x.ub,x.uc + sz⟩] (d.drop (i)) _ HDT.out rfl HDL.out (by omega) (by have h:=Blok.new (w4.alloc (.cells #[.int .i64 id,.int .i64 (x.ua),.int .i64 (x.ub),.int .i64 (x.uc + sz)] 50)) 26 #[.slice A i (c),.slice (some ⟨w4.heap.size,0,none⟩) 1 1,.slice (Option.map (fun x => x.add ((i) * 4)) A) (n - (i)) (c - (i))]; rw [World.size_alloc] at h; exact h) (HS1.out.up (((Below.refl _ _).alloc (Nat.le_refl _) _).alloc (by simp) _).drew) (by exact Sl.of_own ((own_lit w4 0 50 4 1 #[.int .i64 id,.int .i64 (x.ua),.int .i64 (x.ub),.int .i64 (x.uc + sz)] (by omega) rfl (by simp [maxLen])).alloc _)) (HS2.out.up (((Below.refl _ _).alloc (Nat.le_refl _) _).alloc (by simp) _).drew)) ?_; rintro e w5 ⟨v,rfl,hown,hb5⟩; refine ⟨_,rfl,?_⟩)
    have hfin:Below w.heap.size w w5:=(hB4.trans (Below.mono (((Below.refl _ _).alloc (Nat.le_refl _) _).alloc (by simp) _).drew hsz4)).trans (hb5.mono (by simp; omega))
    have hown6:=own_down (base':=w.heap.size) hown (by simp; omega)
    clear hown hb5 HS1 HS2 hx0 hx1 hx2 hx3 hrun
    obtain ⟨A6,c6,rfl⟩:=slice_of_own hown6
    go_wp2
    go_ret
    refine ⟨_,rfl,?_,hfin⟩
    have e1:res = d.take i ++ [⟨id,x.ua,x.ub,x.uc + sz⟩] ++ d.drop (i):=by rw [HRE.out]; simp
    rw [e1,List.length_append,List.length_append,HDT.out,HDL.out]
    exact hown6
end Go.Proofs.YtjldgcebadojiaaGreatDoor.Kb
