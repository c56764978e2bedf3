/- Several texts of mine in one: Ledger2, Ledger3, Ledger4, Ledger5, StBk, Ledger6, LedgerMath, Ref09, Ref09b, Ref09c, Small09, Ref09d, Ref09e, Ref09f. No condition. -/
import Derived.Test.YtodcoockhkghdaaGreatGQ1
import Derived.Deep.RegionLaw
import Derived.Test.YtodcoockhkghdaaGreatGQ11
import Derived.Deep.CutBlock

/- Package ledger: Backlog, Room, Same. No condition. -/
namespace Go.Proofs.YtodcoockhkghdaaGreat.Kb
open Go.ChangeShapes Go.WideShapes Go.ChangeAt Go.RowKit Go.Sort
set_option linter.unusedSimpArgs false
set_option linter.unusedVariables false
def capAdd (t n:Int):Int:=t + min n (4611686018427387904 - t)
def okU (x:Bk):Prop:=0 ≤ x.ua ∧ x.ua ≤ 4611686018427387904 ∧ 0 ≤ x.ub ∧ x.ub ≤ 4611686018427387904 ∧ 0 ≤ x.uc ∧ x.uc ≤ 4611686018427387904
def backF (x:Bk) (cl:Int):Int:=if cl = 0 then capAdd (capAdd (capAdd 0 x.ua) x.ub) x.uc else if cl = 1 then capAdd (capAdd 0 x.ub) x.uc else if cl = 2 then capAdd 0 x.uc else 0
theorem capAdd_ok {t n:Int} (h1:0 ≤ t) (h2:t ≤ 4611686018427387904) (h3:0 ≤ n):0 ≤ capAdd t n ∧ capAdd t n ≤ 4611686018427387904:=by unfold capAdd; omega
theorem backF_ok {x:Bk} (h:okU x) (cl:Int):0 ≤ backF x cl ∧ backF x cl ≤ 4611686018427387904:=by
 obtain ⟨h1,h2,h3,h4,h5,h6⟩:=h
 unfold backF
 have a0:=capAdd_ok (t:=0) (n:=x.ua) (by omega) (by omega) h1
 have a1:=capAdd_ok (t:=0) (n:=x.ub) (by omega) (by omega) h3
 have a2:=capAdd_ok (t:=0) (n:=x.uc) (by omega) (by omega) h5
 have b1:=capAdd_ok a0.1 a0.2 h3
 have b2:=capAdd_ok a1.1 a1.2 h5
 have c2:=capAdd_ok b1.1 b1.2 h5
 split
 ·exact c2
 ·split
  ·exact b2
  ·split
   ·exact a2
   ·omega

set_option maxHeartbeats 2000000 in
set_option maxRecDepth 100000 in
theorem backlog0 (A:Option Addr) (n c:Nat) (d:List Bk) (id:Int) (w:World) (hd:d.length = n) (hn:n ≤ 1000000) (h:Sl w w.heap.size 4 A n c (flatBk d)) (hs:SortB d) (x:Bk) (hx:rowB d id = x) (hok:okU x) (v:Int) (hv:backF x 0 = v) :
  Calls Tryz.prog 89 #[.slice A n c,.int .i64 id,.int .i64 0] w fun e w' => e = .returned (.int .i64 v) ∧ Below w.heap.size w w':=by
 have HU:=Lib.hid (used_any A n c d id w hd hn h hs x hx)
 obtain ⟨a0,a1,b0,b1,c0,c1⟩:=hok
 obtain ⟨q1,hq1⟩:∃ q,min x.ua (4611686018427387904 - 0) = q:=⟨_,rfl⟩
 obtain ⟨s1,hs1⟩:∃ s,0 + q1 = s:=⟨_,rfl⟩
 have r1:0 ≤ s1 ∧ s1 ≤ 4611686018427387904:=by omega
 have z1:0 ≤ q1 ∧ q1 ≤ 4611686018427387904:=by omega
 obtain ⟨q2,hq2⟩:∃ q,min x.ub (4611686018427387904 - s1) = q:=⟨_,rfl⟩
 obtain ⟨s2,hs2⟩:∃ s,s1 + q2 = s:=⟨_,rfl⟩
 have r2:0 ≤ s2 ∧ s2 ≤ 4611686018427387904:=by omega
 have z2:0 ≤ q2 ∧ q2 ≤ 4611686018427387904:=by omega
 obtain ⟨q3,hq3⟩:∃ q,min x.uc (4611686018427387904 - s2) = q:=⟨_,rfl⟩
 obtain ⟨s3,hs3⟩:∃ s,s2 + q3 = s:=⟨_,rfl⟩
 have r3:0 ≤ s3 ∧ s3 ≤ 4611686018427387904:=by omega
 have z3:0 ≤ q3 ∧ q3 ≤ 4611686018427387904:=by omega
 have hvs:v = s3:=by rw [← hv]; unfold backF capAdd; simp; omega
 obtain ⟨r1a,r1b⟩:=r1
 obtain ⟨z1a,z1b⟩:=z1
 obtain ⟨r2a,r2b⟩:=r2
 obtain ⟨z2a,z2b⟩:=z2
 obtain ⟨r3a,r3b⟩:=r3
 obtain ⟨z3a,z3b⟩:=z3
 rw [hvs]
 clear hv hvs hx hs h hd
 have HQ1:=Lib.hid hq1
 have HS1:=Lib.hid hs1
 clear hq1 hs1
 have HQ2:=Lib.hid hq2
 have HS2:=Lib.hid hs2
 clear hq2 hs2
 have HQ3:=Lib.hid hq3
 have HS3:=Lib.hid hs3
 clear hq3 hs3
 go_enter Tryz.func89,Tryz.ntmps89
 go_wp2_with fail
 refine (class_any 0 w true (by decide +kernel)).mono ?_
 rintro e w1 ⟨rfl,rfl⟩
 go_wp2_with fail
 refine HU.out.mono ?_
 rintro e w2 ⟨rfl,hB⟩
 have hX:=Blok.new w2 63 #[.int .i64 x.ua,.int .i64 x.ub,.int .i64 x.uc]
 have hB3:Below w.heap.size w (w2.alloc (.cells #[.int .i64 x.ua,.int .i64 x.ub,.int .i64 x.uc] 63)):=hB.alloc hB.size _
 go_wp2_with fail
 generalize w2.alloc (.cells #[.int .i64 x.ua,.int .i64 x.ub,.int .i64 x.uc] 63) = w3 at *
 generalize w2.heap.size = bb at *
 have x0:w3.cell? ⟨bb,0,none⟩ = some (.int .i64 x.ua):=hX.cell 0
 have x1:w3.cell? ⟨bb,1,none⟩ = some (.int .i64 x.ub):=hX.cell 1
 have x2:w3.cell? ⟨bb,2,none⟩ = some (.int .i64 x.uc):=hX.cell 2
 have hlt:=hX.lt
 clear hX hB HU
 go_loop [8,20] (fun tv iv => (iv = .int .i64 0 ∧ tv = .int .i64 0) ∨ (iv = .int .i64 1 ∧ tv = .int .i64 s1) ∨ (iv = .int .i64 2 ∧ tv = .int .i64 s2) ∨ (iv = .int .i64 3 ∧ tv = .int .i64 s3)) (fun _ iv => 3 - (intOf iv).toNat)
 case atStart => exact .inl ⟨rfl,rfl⟩
 case round =>
  rcases hrel with ⟨rfl,rfl⟩ | ⟨rfl,rfl⟩ | ⟨rfl,rfl⟩ | ⟨rfl,rfl⟩
  ·have e1:=HQ1.out
   have e2:=HS1.out
   have HE:=Lib.hid (And.intro e1 e2)
   clear e1 e2
   go_wp2
   go_round
   case rel =>
    have e1:=HE.out.1
    have e2:=HE.out.2
    exact .inr (.inl ⟨rfl,congrArg (Value.int .i64) (by first | omega | (split <;> omega))⟩)
   case measure => simp [intOf]
  ·have e1:=HQ2.out
   have e2:=HS2.out
   have HE:=Lib.hid (And.intro e1 e2)
   clear e1 e2
   go_wp2
   go_round
   case rel =>
    have e1:=HE.out.1
    have e2:=HE.out.2
    exact .inr (.inr (.inl ⟨rfl,congrArg (Value.int .i64) (by first | omega | (split <;> omega))⟩))
   case measure => simp [intOf]
  ·have e1:=HQ3.out
   have e2:=HS3.out
   have HE:=Lib.hid (And.intro e1 e2)
   clear e1 e2
   go_wp2
   go_round
   case rel =>
    have e1:=HE.out.1
    have e2:=HE.out.2
    exact .inr (.inr (.inr (⟨rfl,congrArg (Value.int .i64) (by first | omega | (split <;> omega))⟩)))
   case measure => simp [intOf]
  ·go_wp2
   go_ret
   exact ⟨rfl,hB3⟩
set_option maxHeartbeats 2000000 in
set_option maxRecDepth 100000 in
theorem backlog1 (A:Option Addr) (n c:Nat) (d:List Bk) (id:Int) (w:World) (hd:d.length = n) (hn:n ≤ 1000000) (h:Sl w w.heap.size 4 A n c (flatBk d)) (hs:SortB d) (x:Bk) (hx:rowB d id = x) (hok:okU x) (v:Int) (hv:backF x 1 = v) :
  Calls Tryz.prog 89 #[.slice A n c,.int .i64 id,.int .i64 1] w fun e w' => e = .returned (.int .i64 v) ∧ Below w.heap.size w w':=by
 have HU:=Lib.hid (used_any A n c d id w hd hn h hs x hx)
 obtain ⟨a0,a1,b0,b1,c0,c1⟩:=hok
 obtain ⟨q1,hq1⟩:∃ q,min x.ub (4611686018427387904 - 0) = q:=⟨_,rfl⟩
 obtain ⟨s1,hs1⟩:∃ s,0 + q1 = s:=⟨_,rfl⟩
 have r1:0 ≤ s1 ∧ s1 ≤ 4611686018427387904:=by omega
 have z1:0 ≤ q1 ∧ q1 ≤ 4611686018427387904:=by omega
 obtain ⟨q2,hq2⟩:∃ q,min x.uc (4611686018427387904 - s1) = q:=⟨_,rfl⟩
 obtain ⟨s2,hs2⟩:∃ s,s1 + q2 = s:=⟨_,rfl⟩
 have r2:0 ≤ s2 ∧ s2 ≤ 4611686018427387904:=by omega
 have z2:0 ≤ q2 ∧ q2 ≤ 4611686018427387904:=by omega
 have hvs:v = s2:=by rw [← hv]; unfold backF capAdd; simp; omega
 obtain ⟨r1a,r1b⟩:=r1
 obtain ⟨z1a,z1b⟩:=z1
 obtain ⟨r2a,r2b⟩:=r2
 obtain ⟨z2a,z2b⟩:=z2
 rw [hvs]
 clear hv hvs hx hs h hd
 have HQ1:=Lib.hid hq1
 have HS1:=Lib.hid hs1
 clear hq1 hs1
 have HQ2:=Lib.hid hq2
 have HS2:=Lib.hid hs2
 clear hq2 hs2
 go_enter Tryz.func89,Tryz.ntmps89
 go_wp2_with fail
 refine (class_any 1 w true (by decide +kernel)).mono ?_
 rintro e w1 ⟨rfl,rfl⟩
 go_wp2_with fail
 refine HU.out.mono ?_
 rintro e w2 ⟨rfl,hB⟩
 have hX:=Blok.new w2 63 #[.int .i64 x.ua,.int .i64 x.ub,.int .i64 x.uc]
 have hB3:Below w.heap.size w (w2.alloc (.cells #[.int .i64 x.ua,.int .i64 x.ub,.int .i64 x.uc] 63)):=hB.alloc hB.size _
 go_wp2_with fail
 generalize w2.alloc (.cells #[.int .i64 x.ua,.int .i64 x.ub,.int .i64 x.uc] 63) = w3 at *
 generalize w2.heap.size = bb at *
 have x0:w3.cell? ⟨bb,0,none⟩ = some (.int .i64 x.ua):=hX.cell 0
 have x1:w3.cell? ⟨bb,1,none⟩ = some (.int .i64 x.ub):=hX.cell 1
 have x2:w3.cell? ⟨bb,2,none⟩ = some (.int .i64 x.uc):=hX.cell 2
 have hlt:=hX.lt
 clear hX hB HU
 go_loop [8,20] (fun tv iv => (iv = .int .i64 0 ∧ tv = .int .i64 0) ∨ (iv = .int .i64 1 ∧ tv = .int .i64 s1) ∨ (iv = .int .i64 2 ∧ tv = .int .i64 s2)) (fun _ iv => 2 - (intOf iv).toNat)
 case atStart => exact .inl ⟨rfl,rfl⟩
 case round =>
  rcases hrel with ⟨rfl,rfl⟩ | ⟨rfl,rfl⟩ | ⟨rfl,rfl⟩
  ·have e1:=HQ1.out
   have e2:=HS1.out
   have HE:=Lib.hid (And.intro e1 e2)
   clear e1 e2
   go_wp2
   go_round
   case rel =>
    have e1:=HE.out.1
    have e2:=HE.out.2
    exact .inr (.inl ⟨rfl,congrArg (Value.int .i64) (by first | omega | (split <;> omega))⟩)
   case measure => simp [intOf]
  ·have e1:=HQ2.out
   have e2:=HS2.out
   have HE:=Lib.hid (And.intro e1 e2)
   clear e1 e2
   go_wp2
   go_round
   case rel =>
    have e1:=HE.out.1
    have e2:=HE.out.2
    exact .inr (.inr (⟨rfl,congrArg (Value.int .i64) (by first | omega | (split <;> omega))⟩))
   case measure => simp [intOf]
  ·go_wp2
   go_ret
   exact ⟨rfl,hB3⟩
set_option maxHeartbeats 2000000 in
set_option maxRecDepth 100000 in
theorem backlog2 (A:Option Addr) (n c:Nat) (d:List Bk) (id:Int) (w:World) (hd:d.length = n) (hn:n ≤ 1000000) (h:Sl w w.heap.size 4 A n c (flatBk d)) (hs:SortB d) (x:Bk) (hx:rowB d id = x) (hok:okU x) (v:Int) (hv:backF x 2 = v) :
  Calls Tryz.prog 89 #[.slice A n c,.int .i64 id,.int .i64 2] w fun e w' => e = .returned (.int .i64 v) ∧ Below w.heap.size w w':=by
 have HU:=Lib.hid (used_any A n c d id w hd hn h hs x hx)
 obtain ⟨a0,a1,b0,b1,c0,c1⟩:=hok
 obtain ⟨q1,hq1⟩:∃ q,min x.uc (4611686018427387904 - 0) = q:=⟨_,rfl⟩
 obtain ⟨s1,hs1⟩:∃ s,0 + q1 = s:=⟨_,rfl⟩
 have r1:0 ≤ s1 ∧ s1 ≤ 4611686018427387904:=by omega
 have z1:0 ≤ q1 ∧ q1 ≤ 4611686018427387904:=by omega
 have hvs:v = s1:=by rw [← hv]; unfold backF capAdd; simp; omega
 obtain ⟨r1a,r1b⟩:=r1
 obtain ⟨z1a,z1b⟩:=z1
 rw [hvs]
 clear hv hvs hx hs h hd
 have HQ1:=Lib.hid hq1
 have HS1:=Lib.hid hs1
 clear hq1 hs1
 go_enter Tryz.func89,Tryz.ntmps89
 go_wp2_with fail
 refine (class_any 2 w true (by decide +kernel)).mono ?_
 rintro e w1 ⟨rfl,rfl⟩
 go_wp2_with fail
 refine HU.out.mono ?_
 rintro e w2 ⟨rfl,hB⟩
 have hX:=Blok.new w2 63 #[.int .i64 x.ua,.int .i64 x.ub,.int .i64 x.uc]
 have hB3:Below w.heap.size w (w2.alloc (.cells #[.int .i64 x.ua,.int .i64 x.ub,.int .i64 x.uc] 63)):=hB.alloc hB.size _
 go_wp2_with fail
 generalize w2.alloc (.cells #[.int .i64 x.ua,.int .i64 x.ub,.int .i64 x.uc] 63) = w3 at *
 generalize w2.heap.size = bb at *
 have x0:w3.cell? ⟨bb,0,none⟩ = some (.int .i64 x.ua):=hX.cell 0
 have x1:w3.cell? ⟨bb,1,none⟩ = some (.int .i64 x.ub):=hX.cell 1
 have x2:w3.cell? ⟨bb,2,none⟩ = some (.int .i64 x.uc):=hX.cell 2
 have hlt:=hX.lt
 clear hX hB HU
 go_loop [8,20] (fun tv iv => (iv = .int .i64 0 ∧ tv = .int .i64 0) ∨ (iv = .int .i64 1 ∧ tv = .int .i64 s1)) (fun _ iv => 1 - (intOf iv).toNat)
 case atStart => exact .inl ⟨rfl,rfl⟩
 case round =>
  rcases hrel with ⟨rfl,rfl⟩ | ⟨rfl,rfl⟩
  ·have e1:=HQ1.out
   have e2:=HS1.out
   have HE:=Lib.hid (And.intro e1 e2)
   clear e1 e2
   go_wp2
   go_round
   case rel =>
    have e1:=HE.out.1
    have e2:=HE.out.2
    exact .inr (⟨rfl,congrArg (Value.int .i64) (by first | omega | (split <;> omega))⟩)
   case measure => simp [intOf]
  ·go_wp2
   go_ret
   exact ⟨rfl,hB3⟩
theorem backlog_any (A:Option Addr) (n c:Nat) (d:List Bk) (id cl:Int) (w:World) (hd:d.length = n) (hn:n ≤ 1000000) (h:Sl w w.heap.size 4 A n c (flatBk d)) (hs:SortB d) (x:Bk) (hx:rowB d id = x) (hok:okU x) (v:Int) (hv:backF x cl = v) :
  Calls Tryz.prog 89 #[.slice A n c,.int .i64 id,.int .i64 cl] w fun e w' => e = .returned (.int .i64 v) ∧ Below w.heap.size w w':=by
 by_cases h0:cl = 0
 ·subst h0; exact backlog0 A n c d id w hd hn h hs x hx hok v hv
 ·by_cases h1:cl = 1
  ·subst h1; exact backlog1 A n c d id w hd hn h hs x hx hok v hv
  ·by_cases h2:cl = 2
   ·subst h2; exact backlog2 A n c d id w hd hn h hs x hx hok v hv
   ·have hv0:v = 0:=by rw [← hv]; unfold backF; rw [if_neg h0,if_neg h1,if_neg h2]
    have hb:inB cl 0 2 = false:=by unfold inB; simp; omega
    have HB:=Lib.hid hb
    subst hv0
    clear hv hb h0 h1 h2 hx hs h hd
    go_enter Tryz.func89,Tryz.ntmps89
    go_wp2_with fail
    refine (class_any cl w false HB.out).mono ?_
    rintro e w1 ⟨rfl,rfl⟩
    go_wp2
    go_ret
    exact ⟨rfl,Below.refl _ _⟩
end Go.Proofs.YtodcoockhkghdaaGreat.Kb

/- Package ledger: Room, Same, more. No condition. -/
namespace Go.Proofs.YtodcoockhkghdaaGreat.Kb
open Go.ChangeShapes Go.WideShapes Go.ChangeAt Go.RowKit Go.Sort
set_option linter.unusedSimpArgs false
set_option linter.unusedVariables false
structure Ct where
 id:Int
 fr:Int
 tn:Int
 st:Int
 en:Int
 rt:Int
def volC (c:Ct):Int:=volumeF c.id c.fr c.tn c.st c.en c.rt
def okC (c:Ct):Bool:=contactB c.id c.fr c.tn c.st c.en c.rt
theorem volC_ok (c:Ct):0 ≤ volC c ∧ volC c ≤ 4611686014132420609:=by
 unfold volC volumeF
 split
 ·rename_i h
  have:=volume_bounds h
  omega
 ·omega
def roomF (c:Ct) (x:Bk) (cl:Int):Int:=if inB cl 0 2 = true then max 0 (volC c - backF x cl) else 0
set_option maxHeartbeats 2000000 in
set_option maxRecDepth 100000 in
theorem room_any (A:Option Addr) (n k:Nat) (d:List Bk) (c:Ct) (cl:Int) (w:World) (hd:d.length = n) (hn:n ≤ 1000000) (h:Sl w w.heap.size 4 A n k (flatBk d)) (hs:SortB d) (x:Bk) (hx:rowB d c.id = x) (hok:okU x) (v:Int) (hv:roomF c x cl = v) :
  Calls Tryz.prog 60 #[.slice A n k,.agg #[.int .i64 c.id,.int .i64 c.fr,.int .i64 c.tn,.int .i64 c.st,.int .i64 c.en,.int .i64 c.rt],.int .i64 cl] w fun e w' => e = .returned (.int .i64 v) ∧ Below w.heap.size w w':=by
 have hBa:Below w.heap.size w (w.alloc (.cells #[.int .i64 c.id,.int .i64 c.fr,.int .i64 c.tn,.int .i64 c.st,.int .i64 c.en,.int .i64 c.rt] 59)):=by (repeat (first | exact Below.refl _ _ | refine Below.alloc ?_ (by first | omega | (simp; done) | (simp; omega)) _ | refine Below.setCell ?_ (by first | omega | (simp; done) | (simp; omega)) _ | refine Below.drew ?_))
 have hX:=Blok.new w 59 #[.int .i64 c.id,.int .i64 c.fr,.int .i64 c.tn,.int .i64 c.st,.int .i64 c.en,.int .i64 c.rt]
 have hl:=h.up hBa
 obtain ⟨b,hb⟩:∃ b,inB cl 0 2 = b:=⟨_,rfl⟩
 have HC:=Lib.hid hb
 cases b with
 | false =>
  have hv0:v = 0:=by rw [← hv]; unfold roomF; rw [if_neg (by rw [hb]; simp)]
  subst hv0
  clear hv hb hl hX h hs hx
  go_enter Tryz.func60,Tryz.ntmps60
  go_wp2_with fail
  refine (class_any cl _ false HC.out).mono ?_
  rintro e w1 ⟨rfl,rfl⟩
  go_wp2
  go_ret
  exact ⟨rfl,hBa⟩
 | true =>
  obtain ⟨p,hp⟩:∃ p,volC c = p:=⟨_,rfl⟩
  obtain ⟨q,hq⟩:∃ q,backF x cl = q:=⟨_,rfl⟩
  have hp1:=volC_ok c
  have hq1:=backF_ok hok cl
  rw [hp] at hp1
  rw [hq] at hq1
  have hvm:v = max 0 (p - q):=by rw [← hv]; unfold roomF; rw [if_pos hb,hp,hq]
  obtain ⟨p1,p2⟩:=hp1
  obtain ⟨q1,q2⟩:=hq1
  have hvol:volumeF c.id c.fr c.tn c.st c.en c.rt = p:=hp
  have HP:=Lib.hid hvol
  clear hvol
  have HVM:=Lib.hid hvm
  have ht:∀ w',Below (w.alloc (.cells #[.int .i64 c.id,.int .i64 c.fr,.int .i64 c.tn,.int .i64 c.st,.int .i64 c.en,.int .i64 c.rt] 59)).heap.size (w.alloc (.cells #[.int .i64 c.id,.int .i64 c.fr,.int .i64 c.tn,.int .i64 c.st,.int .i64 c.en,.int .i64 c.rt] 59)) w' → Calls Tryz.prog 89 #[.slice A n k,.int .i64 c.id,.int .i64 cl] w' fun e w'' => e = .returned (.int .i64 q) ∧ Below w'.heap.size w' w'':=
   fun w' hb' => backlog_any A n k d c.id cl w' hd hn (hl.up hb') hs x hx hok q hq
  have HT:=Lib.hid ht
  clear hv hb hl h hs hx hp hq hvm ht hd
  go_enter Tryz.func60,Tryz.ntmps60
  go_wp2_with fail
  generalize w.alloc (.cells #[.int .i64 c.id,.int .i64 c.fr,.int .i64 c.tn,.int .i64 c.st,.int .i64 c.en,.int .i64 c.rt] 59) = w2 at *
  refine (class_any cl _ true HC.out).mono ?_
  rintro e w3 ⟨rfl,rfl⟩
  have hs2:=hBa.size
  have c0:w2.cell? ⟨w.heap.size,0,none⟩ = some (.int .i64 c.id):=hX.cell 0
  have c1:w2.cell? ⟨w.heap.size,1,none⟩ = some (.int .i64 c.fr):=hX.cell 1
  have c2:w2.cell? ⟨w.heap.size,2,none⟩ = some (.int .i64 c.tn):=hX.cell 2
  have c3:w2.cell? ⟨w.heap.size,3,none⟩ = some (.int .i64 c.st):=hX.cell 3
  have c4:w2.cell? ⟨w.heap.size,4,none⟩ = some (.int .i64 c.en):=hX.cell 4
  have c5:w2.cell? ⟨w.heap.size,5,none⟩ = some (.int .i64 c.rt):=hX.cell 5
  have hlt:=hX.lt
  clear hX
  go_wp2_with fail
  have q_c0:=fun d os => cell_regrown c0 d os
  have q_c1:=fun d os => cell_regrown c1 d os
  have q_c2:=fun d os => cell_regrown c2 d os
  have q_c3:=fun d os => cell_regrown c3 d os
  have q_c4:=fun d os => cell_regrown c4 d os
  have q_c5:=fun d os => cell_regrown c5 d os
  try simp only [List.append]
  first | refine wp_region_text_below ?_ | refine wp_region_quiet_below (by kernel_rfl) (by kernel_rfl) ?_
  repeat (go_big_quiet_step ((first | (go_at_call 95; with_reducible exact Calls.regrown_of (volume_is p HP.out _)) | (go_at_call 89; with_reducible exact Calls.regrown_of (HT.out _ (below_regrown _ _ _))))))
  refine wpQuiet_nil ?_
  intro _ hqw
  obtain ⟨pq,hqw⟩:=hqw
  subst hqw
  clear q_c0 q_c1 q_c2 q_c3 q_c4 q_c5
  have hB2:=hBa.trans ((below_regrown w2 pq.d pq.os).mono hs2)
  clear c0 c1 c2 c3 c4 c5 hBa HT
  generalize grow (redrawn w2 pq.d) pq.os = wq at *
  go_wp2
  all_goals go_ret
  all_goals exact ⟨congrArg (fun t => Ending.returned (.int .i64 t)) (by have:=HVM.out; omega),hB2⟩
def zeroU (y:Bk):Bool:=decide (y.ua = 0 ∧ y.ub = 0 ∧ y.uc = 0)
end Go.Proofs.YtodcoockhkghdaaGreat.Kb

/- Package ledger: Book, Release. No condition. -/
namespace Go.Proofs.YtodcoockhkghdaaGreat.Kb
open Go.ChangeShapes Go.WideShapes Go.ChangeAt Go.RowKit Go.Sort
set_option linter.unusedSimpArgs false
set_option linter.unusedVariables false
def getU (x:Bk) (cl:Int):Int:=if cl = 0 then x.ua else if cl = 1 then x.ub else x.uc
end Go.Proofs.YtodcoockhkghdaaGreat.Kb

/- Package ledger: Right. No condition. -/
namespace Go.Proofs.YtodcoockhkghdaaGreat.Kb
open Go.ChangeShapes Go.WideShapes Go.ChangeAt Go.RowKit Go.Sort
set_option linter.unusedSimpArgs false
set_option linter.unusedVariables false
def inM (v:Int):Bool:=inB v 0 4611686018427387904
def stepR (d:List Bk) (i:Nat):Bool:=inB (gBk d i).id 1 1048576 && ((i == 0 || decide ((gBk d (i - 1)).id < (gBk d i).id)) && (!zeroU (gBk d i) && (inM (gBk d i).ua && (inM (gBk d i).ub && inM (gBk d i).uc))))
def rightB (d:List Bk):Bool:=(List.range d.length).all (stepR d)
theorem rightB_true {d:List Bk}:rightB d = true ↔ ∀ i,i < d.length → stepR d i = true:=by
 simp [rightB,List.all_eq_true]
theorem rightB_false {d:List Bk} {i:Nat} (hi:i < d.length) (h:stepR d i = false):rightB d = false:=by
 rw [Bool.eq_false_iff]
 intro e
 rw [rightB_true.1 e i hi] at h
 cases h
end Go.Proofs.YtodcoockhkghdaaGreat.Kb

/- IndexFunc and DeleteFunc at 65-rows, the closure with a state of its own. -/
namespace Go.Proofs.YtodcoockhkghdaaGreat.Kb
open Go.ChangeShapes Go.WideShapes Go.ChangeAt Go.RowKit Go.Sort
set_option linter.unusedSimpArgs false
set_option linter.unusedVariables false
end Go.Proofs.YtodcoockhkghdaaGreat.Kb

/- Package ledger: Drop. No condition. -/
namespace Go.Proofs.YtodcoockhkghdaaGreat.Kb
open Go.ChangeShapes Go.WideShapes Go.ChangeAt Go.RowKit Go.Sort
set_option linter.unusedSimpArgs false
set_option linter.unusedVariables false
theorem intAt {l:List Int} {k:Nat} (h:k < l.length):(l.map (Value.int .i64))[k]? = some (.int .i64 (l.getD k 0)):=by
 simp [List.getD_eq_getElem?_getD,List.getElem?_eq_getElem h]
theorem Lst.atI {w:World} {B:Nat} {A:Option Addr} {n:Nat} {l:List Int} (h:Lst w B 1 A n (l.map (Value.int .i64))) (hl:l.length = n) {k:Nat} (hk:k < n):∃ ad,A = some ad ∧ ad.block < B ∧ w.cell? (ad.add k) = some (.int .i64 (l.getD k 0)):=by
 obtain ⟨ad,e,hb,hc⟩:=h.at_ (by omega)
 exact ⟨ad,e,hb,hc _ _ (intAt (by omega))⟩
end Go.Proofs.YtodcoockhkghdaaGreat.Kb

/- Ledgers as lists: what is right, what Book, Release and Drop make of the rows. No condition. -/
namespace Go.Proofs.YtodcoockhkghdaaGreat.Kb
open Go.ChangeShapes Go.WideShapes Go.ChangeAt Go.RowKit Go.Sort
set_option linter.unusedSimpArgs false
set_option linter.unusedVariables false
def okRow (x:Bk):Bool:=inB x.id 1 1048576 && (!zeroU x && (inM x.ua && (inM x.ub && inM x.uc)))
theorem okRow_ok {x:Bk} (h:okRow x = true):okU x ∧ (1 ≤ x.id ∧ x.id ≤ 1048576) ∧ zeroU x = false:=by
 unfold okRow inM inB at h
 simp only [Bool.and_eq_true,decide_eq_true_eq,Bool.not_eq_true'] at h
 unfold okU
 exact ⟨by omega,by omega,h.2.1⟩
theorem right_iff {d:List Bk}:rightB d = true ↔ SortB d ∧ ∀ x ∈ d,okRow x = true:=by
 rw [rightB_true]
 constructor
 ·intro h
  have hstep:∀ i,i + 1 < d.length → (gBk d i).id < (gBk d (i + 1)).id:=fun i hi => by
   have:=h (i + 1) hi
   unfold stepR at this
   simp only [Bool.and_eq_true,Bool.or_eq_true,Nat.add_sub_cancel,decide_eq_true_eq,beq_iff_eq] at this
   rcases this.2.1 with e | e
   ·omega
   ·exact e
  have hlt:∀ k i,i + k + 1 < d.length → (gBk d i).id < (gBk d (i + k + 1)).id:=by
   intro k
   induction k with
   | zero => intro i hi; exact hstep i hi
   | succ k ih =>
    intro i hi
    have e1:=ih i (by omega)
    have e2:=hstep (i + k + 1) (by omega)
    rw [show i + (k + 1) + 1 = i + k + 1 + 1 from by omega]
    omega
  refine ⟨List.pairwise_iff_getElem.2 (fun i j hi hj hij => ?_),fun x hx => ?_⟩
  ·have:=hlt (j - i - 1) i (by omega)
   rw [show i + (j - i - 1) + 1 = j from by omega,gBk_eq hi,gBk_eq hj] at this
   exact this
  ·obtain ⟨j,hj,rfl⟩:=mem_gBk hx
   have:=h j hj
   unfold stepR at this
   unfold okRow
   simp only [Bool.and_eq_true] at this ⊢
   exact ⟨this.1,this.2.2⟩
 ·rintro ⟨hs,h⟩ i hi
  have:=h _ (gBk_mem hi)
  unfold okRow at this
  unfold stepR
  simp only [Bool.and_eq_true,Bool.or_eq_true,beq_iff_eq,decide_eq_true_eq] at this ⊢
  refine ⟨this.1,?_,this.2⟩
  by_cases e:i = 0
  ·exact .inl e
  ·exact .inr (hs.at_ (i:=i - 1) (j:=i) (by omega) hi)
theorem right_sort {d:List Bk} (h:rightB d = true):SortB d:=(right_iff.1 h).1
theorem rowB_none {d:List Bk} {j:Int} (h:∀ y ∈ d,y.id ≠ j):rowB d j = ⟨j,0,0,0⟩:=by
 have:hit d j = false:=by unfold hit; rw [List.any_eq_false]; intro y hy; simpa using h y hy
 unfold rowB
 rw [if_neg (by rw [this]; simp)]
theorem rowB_mem {d:List Bk} (hs:SortB d) {x:Bk} (hx:x ∈ d):rowB d x.id = x:=by
 have hh:hit d x.id = true:=by unfold hit; rw [List.any_eq_true]; exact ⟨x,hx,by simp⟩
 unfold rowB
 rw [if_pos hh]
 obtain ⟨h1,h2⟩:=hit_at hs hh
 obtain ⟨j,hj,e⟩:=mem_gBk hx
 by_cases e2:pl d x.id = j
 ·rw [e2,e]
 ·exfalso
  rcases Nat.lt_or_gt_of_ne e2 with h3 | h3
  ·have:=hs.at_ h3 hj; rw [e,h2] at this; omega
  ·have:=hs.at_ h3 h1; rw [e,h2] at this; omega
theorem rowB_cases {d:List Bk} (hs:SortB d) (j:Int):(rowB d j ∈ d ∧ (rowB d j).id = j) ∨ ((∀ y ∈ d,y.id ≠ j) ∧ rowB d j = ⟨j,0,0,0⟩):=by
 by_cases h:∃ y ∈ d,y.id = j
 ·obtain ⟨y,hy,rfl⟩:=h
  rw [rowB_mem hs hy]
  exact .inl ⟨hy,rfl⟩
 ·have h':∀ y ∈ d,y.id ≠ j:=fun y hy e => h ⟨y,hy,e⟩
  exact .inr ⟨h',rowB_none h'⟩
theorem right_ok {d:List Bk} (h:rightB d = true) (j:Int):okU (rowB d j):=by
 obtain ⟨hs,ho⟩:=right_iff.1 h
 rcases rowB_cases hs j with ⟨h1,_⟩ | ⟨_,h2⟩
 ·exact (okRow_ok (ho _ h1)).1
 ·rw [h2]; unfold okU; simp
end Go.Proofs.YtodcoockhkghdaaGreat.Kb

/- The document's own ledger: classes, who has what, the same, a copy. -/
namespace Go.Proofs.YtodcoockhkghdaaGreat.Kb
open Go.ChangeShapes Go.WideShapes Go.ChangeAt Go.RowKit Go.Sort
set_option linter.unusedSimpArgs false
set_option linter.unusedVariables false
end Go.Proofs.YtodcoockhkghdaaGreat.Kb

/- The document's own ledger: backlog and room. -/
namespace Go.Proofs.YtodcoockhkghdaaGreat.Kb
open Go.ChangeShapes Go.WideShapes Go.ChangeAt Go.RowKit Go.Sort
set_option linter.unusedSimpArgs false
set_option linter.unusedVariables false
end Go.Proofs.YtodcoockhkghdaaGreat.Kb

/- The document's own ledger: a ledger where that of an ID is so. -/
namespace Go.Proofs.YtodcoockhkghdaaGreat.Kb
open Go.ChangeShapes Go.WideShapes Go.ChangeAt Go.RowKit Go.Sort
set_option linter.unusedSimpArgs false
set_option linter.unusedVariables false
end Go.Proofs.YtodcoockhkghdaaGreat.Kb

/- Layer 9's small case comes out right. No condition. -/
namespace Go.Proofs.YtodcoockhkghdaaGreat.Kb
open Go.ChangeShapes Go.WideShapes Go.ChangeAt Go.RowKit Go.Sort
set_option linter.unusedSimpArgs false
set_option linter.unusedVariables false
theorem own_below {w w':World} {base:Nat} {e:TypeId} {size n:Nat} {v:Value} {xs:List Value} (h:w.ownsRow base e size v n xs) (hb:Below w.heap.size w w'):w'.ownsRow base e size v n xs:=
 h.kept (grown_of_below (row:=some w.heap.size) hb) (.inr (fun e => by have:=(h.lt _ e).2; omega))
end Go.Proofs.YtodcoockhkghdaaGreat.Kb

/- The document's own ledger: Drop. -/
namespace Go.Proofs.YtodcoockhkghdaaGreat.Kb
open Go.ChangeShapes Go.WideShapes Go.ChangeAt Go.RowKit Go.Sort
set_option linter.unusedSimpArgs false
set_option linter.unusedVariables false
end Go.Proofs.YtodcoockhkghdaaGreat.Kb

/- The document's own ledger: Release and Book. -/
namespace Go.Proofs.YtodcoockhkghdaaGreat.Kb
open Go.ChangeShapes Go.WideShapes Go.ChangeAt Go.RowKit Go.Sort
set_option linter.unusedSimpArgs false
set_option linter.unusedVariables false

end Go.Proofs.YtodcoockhkghdaaGreat.Kb

/- The document's own ledger: Book. -/
namespace Go.Proofs.YtodcoockhkghdaaGreat.Kb
open Go.ChangeShapes Go.WideShapes Go.ChangeAt Go.RowKit Go.Sort
set_option linter.unusedSimpArgs false
set_option linter.unusedVariables false
end Go.Proofs.YtodcoockhkghdaaGreat.Kb
