/- Package ledger: Backlog, Room, Same. No condition. -/
import Derived.Test.YtjldgcebadojiaaGreatDoorGQ13
namespace Go.Proofs.YtjldgcebadojiaaGreatDoor.Kb
open Go.ChangeShapes Go.WideShapes Go.ChangeAt Go.RowKit Go.Sort
set_option linter.unusedSimpArgs false
set_option linter.unusedVariables false
def capAdd (t n:Int):Int:=t + min n (4611686018427387904 - t)
def okU (x:Bk):Prop:=0 ≤ x.ua ∧ x.ua ≤ 4611686018427387904 ∧ 0 ≤ x.ub ∧ x.ub ≤ 4611686018427387904 ∧ 0 ≤ x.uc ∧ x.uc ≤ 4611686018427387904
def backF (x:Bk) (cl:Int):Int:=if cl = 0 then capAdd (capAdd (capAdd 0 x.ua) x.ub) x.uc else if cl = 1 then capAdd (capAdd 0 x.ub) x.uc else if cl = 2 then capAdd 0 x.uc else 0
theorem capAdd_ok {t n:Int} (h1:0 ≤ t) (h2:t ≤ 4611686018427387904) (h3:0 ≤ n):0 ≤ capAdd t n ∧ capAdd t n ≤ 4611686018427387904:=by unfold capAdd; omega
theorem backF_ok {x:Bk} (h:okU x) (cl:Int):0 ≤ backF x cl ∧ backF x cl ≤ 4611686018427387904:=by
 obtain ⟨h1,h2,h3,h4,h5,h6⟩:=h
 unfold backF
 have a0:=capAdd_ok (t:=0) (n:=x.ua) (by omega) (by omega) h1
 have a1:=capAdd_ok (t:=0) (n:=x.ub) (by omega) (by omega) h3
 have a2:=capAdd_ok (t:=0) (n:=x.uc) (by omega) (by omega) h5
 have b1:=capAdd_ok a0.1 a0.2 h3
 have b2:=capAdd_ok a1.1 a1.2 h5
 have c2:=capAdd_ok b1.1 b1.2 h5
 split
 ·exact c2
 ·split
  ·exact b2
  ·split
   ·exact a2
   ·omega

set_option maxHeartbeats 2000000 in
set_option maxRecDepth 100000 in
theorem backlog0 (A:Option Addr) (n c:Nat) (d:List Bk) (id:Int) (w:World) (hd:d.length = n) (hn:n ≤ 1000000) (h:Sl w w.heap.size 4 A n c (flatBk d)) (hs:SortB d) (x:Bk) (hx:rowB d id = x) (hok:okU x) (v:Int) (hv:backF x 0 = v) :
  Calls Tryz.prog 57 #[.slice A n c,.int .i64 id,.int .i64 0] w fun e w' => e = .returned (.int .i64 v) ∧ Below w.heap.size w w':=by
 have HU:=Lib.hid (used_any A n c d id w hd hn h hs x hx)
 obtain ⟨a0,a1,b0,b1,c0,c1⟩:=hok
 obtain ⟨q1,hq1⟩:∃ q,min x.ua (4611686018427387904 - 0) = q:=⟨_,rfl⟩
 obtain ⟨s1,hs1⟩:∃ s,0 + q1 = s:=⟨_,rfl⟩
 have r1:0 ≤ s1 ∧ s1 ≤ 4611686018427387904:=by omega
 have z1:0 ≤ q1 ∧ q1 ≤ 4611686018427387904:=by omega
 obtain ⟨q2,hq2⟩:∃ q,min x.ub (4611686018427387904 - s1) = q:=⟨_,rfl⟩
 obtain ⟨s2,hs2⟩:∃ s,s1 + q2 = s:=⟨_,rfl⟩
 have r2:0 ≤ s2 ∧ s2 ≤ 4611686018427387904:=by omega
 have z2:0 ≤ q2 ∧ q2 ≤ 4611686018427387904:=by omega
 obtain ⟨q3,hq3⟩:∃ q,min x.uc (4611686018427387904 - s2) = q:=⟨_,rfl⟩
 obtain ⟨s3,hs3⟩:∃ s,s2 + q3 = s:=⟨_,rfl⟩
 have r3:0 ≤ s3 ∧ s3 ≤ 4611686018427387904:=by omega
 have z3:0 ≤ q3 ∧ q3 ≤ 4611686018427387904:=by omega
 have hvs:v = s3:=by rw [← hv]; unfold backF capAdd; simp; omega
 obtain ⟨r1a,r1b⟩:=r1
 obtain ⟨z1a,z1b⟩:=z1
 obtain ⟨r2a,r2b⟩:=r2
 obtain ⟨z2a,z2b⟩:=z2
 obtain ⟨r3a,r3b⟩:=r3
 obtain ⟨z3a,z3b⟩:=z3
 rw [hvs]
 clear hv hvs hx hs h hd
 have HQ1:=Lib.hid hq1
 have HS1:=Lib.hid hs1
 clear hq1 hs1
 have HQ2:=Lib.hid hq2
 have HS2:=Lib.hid hs2
 clear hq2 hs2
 have HQ3:=Lib.hid hq3
 have HS3:=Lib.hid hs3
 clear hq3 hs3
 go_enter Tryz.func57,Tryz.ntmps57
 go_wp2_with fail
 refine (class_any 0 w true (by decide +kernel)).mono ?_
 rintro e w1 ⟨rfl,rfl⟩
 go_wp2_with fail
 refine HU.out.mono ?_
 rintro e w2 ⟨rfl,hB⟩
 have hX:=Blok.new w2 48 #[.int .i64 x.ua,.int .i64 x.ub,.int .i64 x.uc]
 have hB3:Below w.heap.size w (w2.alloc (.cells #[.int .i64 x.ua,.int .i64 x.ub,.int .i64 x.uc] 48)):=hB.alloc hB.size _
 go_wp2_with fail
 generalize w2.alloc (.cells #[.int .i64 x.ua,.int .i64 x.ub,.int .i64 x.uc] 48) = w3 at *
 generalize w2.heap.size = bb at *
 have x0:w3.cell? ⟨bb,0,none⟩ = some (.int .i64 x.ua):=hX.cell 0
 have x1:w3.cell? ⟨bb,1,none⟩ = some (.int .i64 x.ub):=hX.cell 1
 have x2:w3.cell? ⟨bb,2,none⟩ = some (.int .i64 x.uc):=hX.cell 2
 have hlt:=hX.lt
 clear hX hB HU
 go_loop [8,20] (fun tv iv => (iv = .int .i64 0 ∧ tv = .int .i64 0) ∨ (iv = .int .i64 1 ∧ tv = .int .i64 s1) ∨ (iv = .int .i64 2 ∧ tv = .int .i64 s2) ∨ (iv = .int .i64 3 ∧ tv = .int .i64 s3)) (fun _ iv => 3 - (intOf iv).toNat)
 case atStart => exact .inl ⟨rfl,rfl⟩
 case round =>
  rcases hrel with ⟨rfl,rfl⟩ | ⟨rfl,rfl⟩ | ⟨rfl,rfl⟩ | ⟨rfl,rfl⟩
  ·have e1:=HQ1.out
   have e2:=HS1.out
   have HE:=Lib.hid (And.intro e1 e2)
   clear e1 e2
   go_wp2
   go_round
   case rel =>
    have e1:=HE.out.1
    have e2:=HE.out.2
    exact .inr (.inl ⟨rfl,congrArg (Value.int .i64) (by first | omega | (split <;> omega))⟩)
   case measure => simp [intOf]
  ·have e1:=HQ2.out
   have e2:=HS2.out
   have HE:=Lib.hid (And.intro e1 e2)
   clear e1 e2
   go_wp2
   go_round
   case rel =>
    have e1:=HE.out.1
    have e2:=HE.out.2
    exact .inr (.inr (.inl ⟨rfl,congrArg (Value.int .i64) (by first | omega | (split <;> omega))⟩))
   case measure => simp [intOf]
  ·have e1:=HQ3.out
   have e2:=HS3.out
   have HE:=Lib.hid (And.intro e1 e2)
   clear e1 e2
   go_wp2
   go_round
   case rel =>
    have e1:=HE.out.1
    have e2:=HE.out.2
    exact .inr (.inr (.inr (⟨rfl,congrArg (Value.int .i64) (by first | omega | (split <;> omega))⟩)))
   case measure => simp [intOf]
  ·go_wp2
   go_ret
   exact ⟨rfl,hB3⟩
set_option maxHeartbeats 2000000 in
set_option maxRecDepth 100000 in
theorem backlog1 (A:Option Addr) (n c:Nat) (d:List Bk) (id:Int) (w:World) (hd:d.length = n) (hn:n ≤ 1000000) (h:Sl w w.heap.size 4 A n c (flatBk d)) (hs:SortB d) (x:Bk) (hx:rowB d id = x) (hok:okU x) (v:Int) (hv:backF x 1 = v) :
  Calls Tryz.prog 57 #[.slice A n c,.int .i64 id,.int .i64 1] w fun e w' => e = .returned (.int .i64 v) ∧ Below w.heap.size w w':=by
 have HU:=Lib.hid (used_any A n c d id w hd hn h hs x hx)
 obtain ⟨a0,a1,b0,b1,c0,c1⟩:=hok
 obtain ⟨q1,hq1⟩:∃ q,min x.ub (4611686018427387904 - 0) = q:=⟨_,rfl⟩
 obtain ⟨s1,hs1⟩:∃ s,0 + q1 = s:=⟨_,rfl⟩
 have r1:0 ≤ s1 ∧ s1 ≤ 4611686018427387904:=by omega
 have z1:0 ≤ q1 ∧ q1 ≤ 4611686018427387904:=by omega
 obtain ⟨q2,hq2⟩:∃ q,min x.uc (4611686018427387904 - s1) = q:=⟨_,rfl⟩
 obtain ⟨s2,hs2⟩:∃ s,s1 + q2 = s:=⟨_,rfl⟩
 have r2:0 ≤ s2 ∧ s2 ≤ 4611686018427387904:=by omega
 have z2:0 ≤ q2 ∧ q2 ≤ 4611686018427387904:=by omega
 have hvs:v = s2:=by rw [← hv]; unfold backF capAdd; simp; omega
 obtain ⟨r1a,r1b⟩:=r1
 obtain ⟨z1a,z1b⟩:=z1
 obtain ⟨r2a,r2b⟩:=r2
 obtain ⟨z2a,z2b⟩:=z2
 rw [hvs]
 clear hv hvs hx hs h hd
 have HQ1:=Lib.hid hq1
 have HS1:=Lib.hid hs1
 clear hq1 hs1
 have HQ2:=Lib.hid hq2
 have HS2:=Lib.hid hs2
 clear hq2 hs2
 go_enter Tryz.func57,Tryz.ntmps57
 go_wp2_with fail
 refine (class_any 1 w true (by decide +kernel)).mono ?_
 rintro e w1 ⟨rfl,rfl⟩
 go_wp2_with fail
 refine HU.out.mono ?_
 rintro e w2 ⟨rfl,hB⟩
 have hX:=Blok.new w2 48 #[.int .i64 x.ua,.int .i64 x.ub,.int .i64 x.uc]
 have hB3:Below w.heap.size w (w2.alloc (.cells #[.int .i64 x.ua,.int .i64 x.ub,.int .i64 x.uc] 48)):=hB.alloc hB.size _
 go_wp2_with fail
 generalize w2.alloc (.cells #[.int .i64 x.ua,.int .i64 x.ub,.int .i64 x.uc] 48) = w3 at *
 generalize w2.heap.size = bb at *
 have x0:w3.cell? ⟨bb,0,none⟩ = some (.int .i64 x.ua):=hX.cell 0
 have x1:w3.cell? ⟨bb,1,none⟩ = some (.int .i64 x.ub):=hX.cell 1
 have x2:w3.cell? ⟨bb,2,none⟩ = some (.int .i64 x.uc):=hX.cell 2
 have hlt:=hX.lt
 clear hX hB HU
 go_loop [8,20] (fun tv iv => (iv = .int .i64 0 ∧ tv = .int .i64 0) ∨ (iv = .int .i64 1 ∧ tv = .int .i64 s1) ∨ (iv = .int .i64 2 ∧ tv = .int .i64 s2)) (fun _ iv => 2 - (intOf iv).toNat)
 case atStart => exact .inl ⟨rfl,rfl⟩
 case round =>
  rcases hrel with ⟨rfl,rfl⟩ | ⟨rfl,rfl⟩ | ⟨rfl,rfl⟩
  ·have e1:=HQ1.out
   have e2:=HS1.out
   have HE:=Lib.hid (And.intro e1 e2)
   clear e1 e2
   go_wp2
   go_round
   case rel =>
    have e1:=HE.out.1
    have e2:=HE.out.2
    exact .inr (.inl ⟨rfl,congrArg (Value.int .i64) (by first | omega | (split <;> omega))⟩)
   case measure => simp [intOf]
  ·have e1:=HQ2.out
   have e2:=HS2.out
   have HE:=Lib.hid (And.intro e1 e2)
   clear e1 e2
   go_wp2
   go_round
   case rel =>
    have e1:=HE.out.1
    have e2:=HE.out.2
    exact .inr (.inr (⟨rfl,congrArg (Value.int .i64) (by first | omega | (split <;> omega))⟩))
   case measure => simp [intOf]
  ·go_wp2
   go_ret
   exact ⟨rfl,hB3⟩
set_option maxHeartbeats 2000000 in
set_option maxRecDepth 100000 in
theorem backlog2 (A:Option Addr) (n c:Nat) (d:List Bk) (id:Int) (w:World) (hd:d.length = n) (hn:n ≤ 1000000) (h:Sl w w.heap.size 4 A n c (flatBk d)) (hs:SortB d) (x:Bk) (hx:rowB d id = x) (hok:okU x) (v:Int) (hv:backF x 2 = v) :
  Calls Tryz.prog 57 #[.slice A n c,.int .i64 id,.int .i64 2] w fun e w' => e = .returned (.int .i64 v) ∧ Below w.heap.size w w':=by
 have HU:=Lib.hid (used_any A n c d id w hd hn h hs x hx)
 obtain ⟨a0,a1,b0,b1,c0,c1⟩:=hok
 obtain ⟨q1,hq1⟩:∃ q,min x.uc (4611686018427387904 - 0) = q:=⟨_,rfl⟩
 obtain ⟨s1,hs1⟩:∃ s,0 + q1 = s:=⟨_,rfl⟩
 have r1:0 ≤ s1 ∧ s1 ≤ 4611686018427387904:=by omega
 have z1:0 ≤ q1 ∧ q1 ≤ 4611686018427387904:=by omega
 have hvs:v = s1:=by rw [← hv]; unfold backF capAdd; simp; omega
 obtain ⟨r1a,r1b⟩:=r1
 obtain ⟨z1a,z1b⟩:=z1
 rw [hvs]
 clear hv hvs hx hs h hd
 have HQ1:=Lib.hid hq1
 have HS1:=Lib.hid hs1
 clear hq1 hs1
 go_enter Tryz.func57,Tryz.ntmps57
 go_wp2_with fail
 refine (class_any 2 w true (by decide +kernel)).mono ?_
 rintro e w1 ⟨rfl,rfl⟩
 go_wp2_with fail
 refine HU.out.mono ?_
 rintro e w2 ⟨rfl,hB⟩
 have hX:=Blok.new w2 48 #[.int .i64 x.ua,.int .i64 x.ub,.int .i64 x.uc]
 have hB3:Below w.heap.size w (w2.alloc (.cells #[.int .i64 x.ua,.int .i64 x.ub,.int .i64 x.uc] 48)):=hB.alloc hB.size _
 go_wp2_with fail
 generalize w2.alloc (.cells #[.int .i64 x.ua,.int .i64 x.ub,.int .i64 x.uc] 48) = w3 at *
 generalize w2.heap.size = bb at *
 have x0:w3.cell? ⟨bb,0,none⟩ = some (.int .i64 x.ua):=hX.cell 0
 have x1:w3.cell? ⟨bb,1,none⟩ = some (.int .i64 x.ub):=hX.cell 1
 have x2:w3.cell? ⟨bb,2,none⟩ = some (.int .i64 x.uc):=hX.cell 2
 have hlt:=hX.lt
 clear hX hB HU
 go_loop [8,20] (fun tv iv => (iv = .int .i64 0 ∧ tv = .int .i64 0) ∨ (iv = .int .i64 1 ∧ tv = .int .i64 s1)) (fun _ iv => 1 - (intOf iv).toNat)
 case atStart => exact .inl ⟨rfl,rfl⟩
 case round =>
  rcases hrel with ⟨rfl,rfl⟩ | ⟨rfl,rfl⟩
  ·have e1:=HQ1.out
   have e2:=HS1.out
   have HE:=Lib.hid (And.intro e1 e2)
   clear e1 e2
   go_wp2
   go_round
   case rel =>
    have e1:=HE.out.1
    have e2:=HE.out.2
    exact .inr (⟨rfl,congrArg (Value.int .i64) (by first | omega | (split <;> omega))⟩)
   case measure => simp [intOf]
  ·go_wp2
   go_ret
   exact ⟨rfl,hB3⟩
theorem backlog_any (A:Option Addr) (n c:Nat) (d:List Bk) (id cl:Int) (w:World) (hd:d.length = n) (hn:n ≤ 1000000) (h:Sl w w.heap.size 4 A n c (flatBk d)) (hs:SortB d) (x:Bk) (hx:rowB d id = x) (hok:okU x) (v:Int) (hv:backF x cl = v) :
  Calls Tryz.prog 57 #[.slice A n c,.int .i64 id,.int .i64 cl] w fun e w' => e = .returned (.int .i64 v) ∧ Below w.heap.size w w':=by
 by_cases h0:cl = 0
 ·subst h0; exact backlog0 A n c d id w hd hn h hs x hx hok v hv
 ·by_cases h1:cl = 1
  ·subst h1; exact backlog1 A n c d id w hd hn h hs x hx hok v hv
  ·by_cases h2:cl = 2
   ·subst h2; exact backlog2 A n c d id w hd hn h hs x hx hok v hv
   ·have hv0:v = 0:=by rw [← hv]; unfold backF; rw [if_neg h0,if_neg h1,if_neg h2]
    have hb:inB cl 0 2 = false:=by unfold inB; simp; omega
    have HB:=Lib.hid hb
    subst hv0
    clear hv hb h0 h1 h2 hx hs h hd
    go_enter Tryz.func57,Tryz.ntmps57
    go_wp2_with fail
    refine (class_any cl w false HB.out).mono ?_
    rintro e w1 ⟨rfl,rfl⟩
    go_wp2
    go_ret
    exact ⟨rfl,Below.refl _ _⟩
end Go.Proofs.YtjldgcebadojiaaGreatDoor.Kb
