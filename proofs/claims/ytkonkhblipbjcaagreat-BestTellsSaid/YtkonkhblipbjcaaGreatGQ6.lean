/- Several texts of mine in one: Hop, TyEd. No condition. -/
import Derived.Test.YtkonkhblipbjcaaGreatGQ5
import Derived.WalkLawsBesides
import Derived.Test.YtkonkhblipbjcaaGreatChecked
import Derived.Test.YtkonkhblipbjcaaGreatGQ30

/- Contracts of package hop: which edges are right, how long it takes, when it is sent and there, when to be ready at the latest: at all arguments. They make new memory alone. -/
namespace Go.Proofs.YtkonkhblipbjcaaGreat
open Go.ChangeShapes Go.WideShapes Go.ChangeAt Go.RowKit Go.Sort
set_option linter.unusedSimpArgs false
set_option linter.unusedVariables false

structure Ed where
 id:Int
 fr:Int
 tn:Int
 op:Int
 en:Int
 ra:Int
 ow:Int
 ro:Int
def Ed.ok (e:Ed):Bool:=inB e.id 1 1048576 && nodeB e.fr && nodeB e.tn && e.fr != e.tn && inB e.op 0 1099511627776 && inB e.en 1 2147483647 && inB e.ra 1 2147483647 && inB e.ow 0 2147483647 && inB e.ro 0 4611686018427387904
theorem Ed.ok_spec {e:Ed}:e.ok = true ↔ (1 ≤ e.id ∧ e.id ≤ 1048576) ∧ (1 ≤ e.fr ∧ e.fr ≤ 255) ∧ (1 ≤ e.tn ∧ e.tn ≤ 255) ∧ e.fr ≠ e.tn ∧ (0 ≤ e.op ∧ e.op ≤ 1099511627776) ∧ (1 ≤ e.en ∧ e.en ≤ 2147483647) ∧ (1 ≤ e.ra ∧ e.ra ≤ 2147483647) ∧ (0 ≤ e.ow ∧ e.ow ≤ 2147483647) ∧ (0 ≤ e.ro ∧ e.ro ≤ 4611686018427387904):=by
 simp [Ed.ok,nodeB,inB,and_assoc]
def Ed.asks (e:Ed) (t size:Int):Bool:=e.ok && inB t 0 1099511627776 && inB size 0 1099511627775
theorem Ed.asks_spec {e:Ed} {t size:Int}:e.asks t size = true ↔ e.ok = true ∧ (0 ≤ t ∧ t ≤ 1099511627776) ∧ (0 ≤ size ∧ size ≤ 1099511627775):=by
 simp [Ed.asks,inB,and_assoc]
def Ed.takes (e:Ed) (size:Int):Int:=if e.asks 0 size = true then cdiv size e.ra else 0
def Ed.pass (e:Ed) (t size:Int):Option (Int × Int):=
 if e.asks t size = true ∧ size ≤ e.ro ∧ max t e.op < e.en ∧ max t e.op + cdiv size e.ra ≤ e.en then some (max t e.op,max t e.op + cdiv size e.ra + e.ow) else none
def Ed.last (e:Ed) (b size:Int):Int:=min (min (e.en - 1) (e.en - cdiv size e.ra)) (b - cdiv size e.ra - e.ow)
def Ed.latest (e:Ed) (b size:Int):Option Int:=
 if e.asks b size = true ∧ size ≤ e.ro ∧ e.op ≤ e.last b size then some (e.last b size) else none

theorem hright_any (id fr tn op en ra ow ro:Int) (w:World) :
  Calls Tryz.prog 84 #[.agg #[.int .i64 id,.int .i64 fr,.int .i64 tn,.int .i64 op,.int .i64 en,.int .i64 ra,.int .i64 ow,.int .i64 ro]] w fun e w' => e = .returned (.bool (Ed.ok ⟨id,fr,tn,op,en,ra,ow,ro⟩)) ∧ Below w.heap.size w w':=by
 go_enter Tryz.func84,Tryz.ntmps84
 go_wp2_with (first | (go_at_call 57; (with_reducible refine Calls.mono (in_any _ _ _ _) ?_); rintro e w1 ⟨rfl,rfl⟩) | (go_at_call 28; (with_reducible refine Calls.mono (node_any _ _) ?_); rintro e w1 ⟨rfl,rfl⟩))
 all_goals go_ret
 all_goals exact ⟨by simp [Ed.ok, *],(Below.refl _ _).alloc (Nat.le_refl _) _⟩
theorem hright_is {id fr tn op en ra ow ro:Int} (b:Bool) (h:Ed.ok ⟨id,fr,tn,op,en,ra,ow,ro⟩ = b) (w:World) :
  Calls Tryz.prog 84 #[.agg #[.int .i64 id,.int .i64 fr,.int .i64 tn,.int .i64 op,.int .i64 en,.int .i64 ra,.int .i64 ow,.int .i64 ro]] w fun e w' => e = .returned (.bool b) ∧ Below w.heap.size w w':=h ▸ hright_any id fr tn op en ra ow ro w
theorem asked_any (id fr tn op en ra ow ro:Int) (t size:Int) (w:World) :
  Calls Tryz.prog 85 #[.agg #[.int .i64 id,.int .i64 fr,.int .i64 tn,.int .i64 op,.int .i64 en,.int .i64 ra,.int .i64 ow,.int .i64 ro],.int .i64 t,.int .i64 size] w fun e w' => e = .returned (.bool (Ed.asks ⟨id,fr,tn,op,en,ra,ow,ro⟩ t size)) ∧ Below w.heap.size w w':=by
 go_enter Tryz.func85,Tryz.ntmps85
 go_wp2_with fail
 refine (hright_any _ _ _ _ _ _ _ _ _).mono ?_
 rintro e w1 ⟨rfl,hb⟩
 go_wp2_with (go_at_call 57; (with_reducible refine Calls.mono (in_any _ _ _ _) ?_); rintro e w1 ⟨rfl,rfl⟩)
 all_goals go_ret
 all_goals exact ⟨by simp [Ed.asks, *],((Below.refl _ _).alloc (Nat.le_refl _) _).trans (hb.mono (by simp))⟩
theorem asked_is {id fr tn op en ra ow ro:Int} {t size:Int} (b:Bool) (h:Ed.asks ⟨id,fr,tn,op,en,ra,ow,ro⟩ t size = b) (w:World) :
  Calls Tryz.prog 85 #[.agg #[.int .i64 id,.int .i64 fr,.int .i64 tn,.int .i64 op,.int .i64 en,.int .i64 ra,.int .i64 ow,.int .i64 ro],.int .i64 t,.int .i64 size] w fun e w' => e = .returned (.bool b) ∧ Below w.heap.size w w':=h ▸ asked_any id fr tn op en ra ow ro t size w
theorem takes_yes {id fr tn op en ra ow ro:Int} {size:Int} (h1:1 ≤ ra) (h2:0 ≤ size) (h3:size ≤ 1099511627775) (w:World) :
  Calls Tryz.prog 86 #[.agg #[.int .i64 id,.int .i64 fr,.int .i64 tn,.int .i64 op,.int .i64 en,.int .i64 ra,.int .i64 ow,.int .i64 ro],.int .i64 size] w fun e w' => e = .returned (.int .i64 (cdiv size ra)) ∧ Below w.heap.size w w':=by
 go_enter Tryz.func86,Tryz.ntmps86
 go_wp2_with (go_at_call 97; (with_reducible refine Calls.mono (ceil_yes h2 (by omega) h1 _) ?_); rintro e w1 ⟨rfl,rfl⟩)
 go_ret
 exact ⟨rfl,(Below.refl _ _).alloc (Nat.le_refl _) _⟩
theorem pass_some_spec {id fr tn op en ra ow ro:Int} {t size a b:Int} (h:Ed.pass ⟨id,fr,tn,op,en,ra,ow,ro⟩ t size = some (a,b)) :
  Ed.asks ⟨id,fr,tn,op,en,ra,ow,ro⟩ t size = true ∧ size ≤ ro ∧ max t op < en ∧ max t op + cdiv size ra ≤ en ∧ a = max t op ∧ b = max t op + cdiv size ra + ow:=by
 unfold Ed.pass at h
 split at h
 ·rename_i hc
  simp only [Option.some.injEq,Prod.mk.injEq] at h
  exact ⟨hc.1,hc.2.1,hc.2.2.1,hc.2.2.2,h.1.symm,h.2.symm⟩
 ·cases h
theorem pass_none_spec {id fr tn op en ra ow ro:Int} {t size:Int} (h:Ed.pass ⟨id,fr,tn,op,en,ra,ow,ro⟩ t size = none) :
  ¬ (Ed.asks ⟨id,fr,tn,op,en,ra,ow,ro⟩ t size = true ∧ size ≤ ro ∧ max t op < en ∧ max t op + cdiv size ra ≤ en):=by
 unfold Ed.pass at h
 split at h
 ·cases h
 ·assumption
theorem ok_ints {id fr tn op en ra ow ro:Int} (h:Ed.ok ⟨id,fr,tn,op,en,ra,ow,ro⟩ = true):(1 ≤ id ∧ id ≤ 1048576) ∧ (1 ≤ fr ∧ fr ≤ 255) ∧ (1 ≤ tn ∧ tn ≤ 255) ∧ fr ≠ tn ∧ (0 ≤ op ∧ op ≤ 1099511627776) ∧ (1 ≤ en ∧ en ≤ 2147483647) ∧ (1 ≤ ra ∧ ra ≤ 2147483647) ∧ (0 ≤ ow ∧ ow ≤ 2147483647) ∧ (0 ≤ ro ∧ ro ≤ 4611686018427387904):=Ed.ok_spec.1 h
set_option maxHeartbeats 1000000 in
theorem pass_yes {id fr tn op en ra ow ro:Int} {t size a b:Int} (h:Ed.pass ⟨id,fr,tn,op,en,ra,ow,ro⟩ t size = some (a,b)) (w:World) :
  Calls Tryz.prog 60 #[.agg #[.int .i64 id,.int .i64 fr,.int .i64 tn,.int .i64 op,.int .i64 en,.int .i64 ra,.int .i64 ow,.int .i64 ro],.int .i64 t,.int .i64 size] w fun e w' => e = .returned (.tuple #[.int .i64 a,.int .i64 b,.bool true]) ∧ Below w.heap.size w w':=by
 obtain ⟨h1,h2,h3,h4,rfl,rfl⟩:=pass_some_spec h
 have H:=Lib.hid h1
 have g:=Ed.asks_spec.1 h1
 obtain ⟨⟨i1,i2⟩,⟨f1,f2⟩,⟨t1,t2⟩,_,⟨o1,o2⟩,⟨e1,e2⟩,⟨r1,r2⟩,⟨w1,w2⟩,⟨q1,q2⟩⟩:=ok_ints g.1
 obtain ⟨_,⟨y1,y2⟩,⟨z1,z2⟩⟩:=g
 obtain ⟨c1,c2,_,_,_⟩:=cdiv_bounds z1 r1
 obtain ⟨n,hn⟩:∃ n,cdiv size ra = n:=⟨_,rfl⟩
 obtain ⟨m,hm⟩:∃ m,max t op = m:=⟨_,rfl⟩
 rw [hn] at h4 c1 c2
 rw [hm] at h3 h4
 have m1:0 ≤ m:=by omega
 have m2:m ≤ 1099511627776:=by omega
 have h2':¬ ro < size:=by omega
 have h3':¬ en ≤ m:=by omega
 have h4':¬ en < m + n:=by omega
 have hmx:(if t < op then op else t) = m:=by rw [← hm]; split <;> omega
 rw [hn,hm]
 have HN:=Lib.hid (show ∀ w',Calls Tryz.prog 86 #[.agg #[.int .i64 id,.int .i64 fr,.int .i64 tn,.int .i64 op,.int .i64 en,.int .i64 ra,.int .i64 ow,.int .i64 ro],.int .i64 size] w' fun e w'' => e = .returned (.int .i64 n) ∧ Below w'.heap.size w' w'' from fun w' => hn ▸ takes_yes r1 z1 z2 w')
 have HMX:=Lib.hid hmx
 clear h h1 hn hm hmx
 go_enter Tryz.func60,Tryz.ntmps60
 go_wp2_with fail
 (with_reducible refine Calls.mono (asked_is true H.out _) ?_)
 rintro e wa ⟨rfl,hB⟩
 obtain ⟨hc,hf⟩:=bcell hB
 have hz:=hB.size
 simp only [World.size_alloc] at hz
 have hlt:w.heap.size < wa.heap.size:=by omega
 have hp:∀ o,wa.cell? ⟨w.heap.size,o,none⟩ = (#[.int .i64 id,.int .i64 fr,.int .i64 tn,.int .i64 op,.int .i64 en,.int .i64 ra,.int .i64 ow,.int .i64 ro]:Array Value)[o]?:=by
  intro o
  rw [hc _ _ (by simp only [World.size_alloc]; omega)]
  simp only [cell_alloc_if]
  rw [if_pos trivial]
 have HB:=Lib.hid (show Below w.heap.size w wa by (repeat (first | exact Below.refl _ _ | exact hB | refine Below.alloc ?_ (by first | omega | (simp; done) | (simp; omega)) _ | refine Below.setCell ?_ (by first | omega | (simp; done) | (simp; omega)) _ | refine Below.drew ?_ | refine Below.trans ?_ (hB.mono (by first | omega | (simp; done) | (simp; omega))))))
 clear hc hf hB
 go_upto_region 3 with fail
 have hmx:=HMX.out
 have hg:=below_regrown wa
 have hq:=grown_cells wa
 try simp only [List.append]
 first | refine wp_region_text_below ?_ | refine wp_region_quiet_below (by kernel_rfl) (by kernel_rfl) ?_
 repeat (go_big_quiet_step ((go_at_call 86; with_reducible exact Calls.regrown_of (HN.out _))))
 refine wpQuiet_nil ?_
 intro _ hqw
 obtain ⟨pq,hqw⟩:=hqw
 subst hqw
 clear hmx
 go_upto_region 6 with fail
 refine name_wp (fun W hW => ?_)
 have HBW:=Lib.hid (show Below w.heap.size w W by rw [hW]; exact HB.out.trans ((hg _ _).mono HB.out.size))
 have hpW:∀ o,W.cell? ⟨w.heap.size,o,none⟩ = (#[.int .i64 id,.int .i64 fr,.int .i64 tn,.int .i64 op,.int .i64 en,.int .i64 ra,.int .i64 ow,.int .i64 ro]:Array Value)[o]?:=fun o => by rw [hW,hq _ _ _ _ hlt]; exact hp o
 have hltW:w.heap.size < W.heap.size:=Nat.lt_of_lt_of_le hlt (by rw [hW]; exact (hg _ _).size)
 clear hg hq hp hlt hW
 have hg:=below_regrown W
 have hq:=grown_cells W
 try simp only [List.append]
 first | refine wp_region_text_below ?_ | refine wp_region_quiet_below (by kernel_rfl) (by kernel_rfl) ?_
 repeat (go_big_quiet_step ((fail)))
 refine wpQuiet_nil ?_
 intro _ hqw
 obtain ⟨pq,hqw⟩:=hqw
 subst hqw
 go_wp2
 go_ret3
 exact ⟨rfl,HBW.out.trans ((hg _ _).mono HBW.out.size)⟩
set_option maxHeartbeats 1000000 in
theorem pass_no {id fr tn op en ra ow ro:Int} {t size:Int} (h:Ed.pass ⟨id,fr,tn,op,en,ra,ow,ro⟩ t size = none) (w:World) :
  Calls Tryz.prog 60 #[.agg #[.int .i64 id,.int .i64 fr,.int .i64 tn,.int .i64 op,.int .i64 en,.int .i64 ra,.int .i64 ow,.int .i64 ro],.int .i64 t,.int .i64 size] w fun e w' => e = .returned (.tuple #[.int .i64 0,.int .i64 0,.bool false]) ∧ Below w.heap.size w w':=by
 have h0:=pass_none_spec h
 clear h
 by_cases h1:Ed.asks ⟨id,fr,tn,op,en,ra,ow,ro⟩ t size = true
 ·by_cases h2:size ≤ ro
  ·have H:=Lib.hid h1
   have g:=Ed.asks_spec.1 h1
   obtain ⟨⟨i1,i2⟩,⟨f1,f2⟩,⟨t1,t2⟩,_,⟨o1,o2⟩,⟨e1,e2⟩,⟨r1,r2⟩,⟨w1,w2⟩,⟨q1,q2⟩⟩:=ok_ints g.1
   obtain ⟨_,⟨y1,y2⟩,⟨z1,z2⟩⟩:=g
   obtain ⟨c1,c2,_,_,_⟩:=cdiv_bounds z1 r1
   obtain ⟨n,hn⟩:∃ n,cdiv size ra = n:=⟨_,rfl⟩
   obtain ⟨m,hm⟩:∃ m,max t op = m:=⟨_,rfl⟩
   have h3:en ≤ m ∨ m < en ∧ en < m + n:=by
    rw [hn,hm] at h0
    rcases Int.lt_or_le m en with h4 | h4
    ·rcases Int.lt_or_le en (m + n) with h5 | h5
     ·exact .inr ⟨h4,h5⟩
     ·exact absurd ⟨h1,h2,h4,h5⟩ h0
    ·exact .inl h4
   have H3:=Lib.hid h3
   rw [hn] at c1 c2
   have m1:0 ≤ m:=by omega
   have m2:m ≤ 1099511627776:=by omega
   have h2':¬ ro < size:=by omega
   have hmx:(if t < op then op else t) = m:=by rw [← hm]; split <;> omega
   have HN:=Lib.hid (show ∀ w',Calls Tryz.prog 86 #[.agg #[.int .i64 id,.int .i64 fr,.int .i64 tn,.int .i64 op,.int .i64 en,.int .i64 ra,.int .i64 ow,.int .i64 ro],.int .i64 size] w' fun e w'' => e = .returned (.int .i64 n) ∧ Below w'.heap.size w' w'' from fun w' => hn ▸ takes_yes r1 z1 z2 w')
   have HMX:=Lib.hid hmx
   clear h0 h1 hn hm hmx h3
   go_enter Tryz.func60,Tryz.ntmps60
   go_wp2_with fail
   (with_reducible refine Calls.mono (asked_is true H.out _) ?_)
   rintro e wa ⟨rfl,hB⟩
   obtain ⟨hc,hf⟩:=bcell hB
   have hz:=hB.size
   simp only [World.size_alloc] at hz
   have hlt:w.heap.size < wa.heap.size:=by omega
   have hp:∀ o,wa.cell? ⟨w.heap.size,o,none⟩ = (#[.int .i64 id,.int .i64 fr,.int .i64 tn,.int .i64 op,.int .i64 en,.int .i64 ra,.int .i64 ow,.int .i64 ro]:Array Value)[o]?:=by
    intro o
    rw [hc _ _ (by simp only [World.size_alloc]; omega)]
    simp only [cell_alloc_if]
    rw [if_pos trivial]
   have HB:=Lib.hid (show Below w.heap.size w wa by (repeat (first | exact Below.refl _ _ | exact hB | refine Below.alloc ?_ (by first | omega | (simp; done) | (simp; omega)) _ | refine Below.setCell ?_ (by first | omega | (simp; done) | (simp; omega)) _ | refine Below.drew ?_ | refine Below.trans ?_ (hB.mono (by first | omega | (simp; done) | (simp; omega))))))
   clear hc hf hB
   go_upto_region 3 with fail
   have hmx:=HMX.out
   have hg:=below_regrown wa
   have hq:=grown_cells wa
   try simp only [List.append]
   first | refine wp_region_text_below ?_ | refine wp_region_quiet_below (by kernel_rfl) (by kernel_rfl) ?_
   repeat (go_big_quiet_step ((go_at_call 86; with_reducible exact Calls.regrown_of (HN.out _))))
   refine wpQuiet_nil ?_
   intro _ hqw
   obtain ⟨pq,hqw⟩:=hqw
   subst hqw
   clear hmx
   rcases H3.out with h3 | ⟨h3,h4⟩
   all_goals
    go_wp2
    go_ret3
    exact ⟨rfl,HB.out.trans ((hg _ _).mono HB.out.size)⟩
  ·have H:=Lib.hid h1
   clear h0 h1
   go_enter Tryz.func60,Tryz.ntmps60
   go_wp2_with fail
   (with_reducible refine Calls.mono (asked_is true H.out _) ?_)
   rintro e wa ⟨rfl,hB⟩
   obtain ⟨hc,hf⟩:=bcell hB
   go_wp2
   go_ret3
   exact ⟨rfl,by (repeat (first | exact Below.refl _ _ | exact hB | refine Below.alloc ?_ (by first | omega | (simp; done) | (simp; omega)) _ | refine Below.setCell ?_ (by first | omega | (simp; done) | (simp; omega)) _ | refine Below.drew ?_ | refine Below.trans ?_ (hB.mono (by first | omega | (simp; done) | (simp; omega)))))⟩
 ·have H:=Lib.hid (show Ed.asks ⟨id,fr,tn,op,en,ra,ow,ro⟩ t size = false by simpa using h1)
  clear h0 h1
  go_enter Tryz.func60,Tryz.ntmps60
  go_wp2_with fail
  (with_reducible refine Calls.mono (asked_is false H.out _) ?_)
  rintro e wa ⟨rfl,hB⟩
  obtain ⟨hc,hf⟩:=bcell hB
  go_wp2
  go_ret3
  exact ⟨rfl,by (repeat (first | exact Below.refl _ _ | exact hB | refine Below.alloc ?_ (by first | omega | (simp; done) | (simp; omega)) _ | refine Below.setCell ?_ (by first | omega | (simp; done) | (simp; omega)) _ | refine Below.drew ?_ | refine Below.trans ?_ (hB.mono (by first | omega | (simp; done) | (simp; omega)))))⟩
set_option maxHeartbeats 1000000 in
theorem latest_asked {id fr tn op en ra ow ro:Int} {b size:Int} (h1:Ed.asks ⟨id,fr,tn,op,en,ra,ow,ro⟩ b size = true) (h2:size ≤ ro) (w:World) :
  Calls Tryz.prog 104 #[.agg #[.int .i64 id,.int .i64 fr,.int .i64 tn,.int .i64 op,.int .i64 en,.int .i64 ra,.int .i64 ow,.int .i64 ro],.int .i64 b,.int .i64 size] w fun e w' => e = .returned (if op ≤ Ed.last ⟨id,fr,tn,op,en,ra,ow,ro⟩ b size then .tuple #[.int .i64 (Ed.last ⟨id,fr,tn,op,en,ra,ow,ro⟩ b size),.bool true] else .tuple #[.int .i64 0,.bool false]) ∧ Below w.heap.size w w':=by
 have H:=Lib.hid h1
 have g:=Ed.asks_spec.1 h1
 obtain ⟨⟨i1,i2⟩,⟨f1,f2⟩,⟨t1,t2⟩,_,⟨o1,o2⟩,⟨e1,e2⟩,⟨r1,r2⟩,⟨w1,w2⟩,⟨q1,q2⟩⟩:=ok_ints g.1
 obtain ⟨_,⟨y1,y2⟩,⟨z1,z2⟩⟩:=g
 obtain ⟨c1,c2,_,_,_⟩:=cdiv_bounds z1 r1
 obtain ⟨n,hn⟩:∃ n,cdiv size ra = n:=⟨_,rfl⟩
 obtain ⟨l,hl⟩:∃ l,Ed.last ⟨id,fr,tn,op,en,ra,ow,ro⟩ b size = l:=⟨_,rfl⟩
 have hl2:min (min (en - 1) (en - n)) (b - n - ow) = l:=by rw [← hl,← hn]; rfl
 rw [hn] at c1 c2
 rw [hl]
 have h2':¬ ro < size:=by omega
 have hmn:(if b - n - ow < (if 1 < n then en - n else en - 1) then b - n - ow else (if 1 < n then en - n else en - 1)) = l:=by rw [← hl2]; split <;> split <;> omega
 have HN:=Lib.hid (show ∀ w',Calls Tryz.prog 86 #[.agg #[.int .i64 id,.int .i64 fr,.int .i64 tn,.int .i64 op,.int .i64 en,.int .i64 ra,.int .i64 ow,.int .i64 ro],.int .i64 size] w' fun e w'' => e = .returned (.int .i64 n) ∧ Below w'.heap.size w' w'' from fun w' => hn ▸ takes_yes r1 z1 z2 w')
 have HMN:=Lib.hid hmn
 clear h1 hn hl hl2 hmn
 go_enter Tryz.func104,Tryz.ntmps104
 go_wp2_with fail
 (with_reducible refine Calls.mono (asked_is true H.out _) ?_)
 rintro e wa ⟨rfl,hB⟩
 obtain ⟨hc,hf⟩:=bcell hB
 go_wp2_with fail
 (with_reducible refine Calls.mono (HN.out _) ?_)
 rintro e wb ⟨rfl,hb⟩
 replace hB:=hB.trans (hb.mono hB.size)
 clear hb hc hf
 obtain ⟨hc,hf⟩:=bcell hB
 have hmn:=HMN.out
 by_cases h3:op ≤ l
 ·have h3':¬ l < op:=by omega
  go_wp2
  go_ret2
  exact ⟨by first | rfl | (rw [if_pos h3]; rfl),by (repeat (first | exact Below.refl _ _ | exact hB | refine Below.alloc ?_ (by first | omega | (simp; done) | (simp; omega)) _ | refine Below.setCell ?_ (by first | omega | (simp; done) | (simp; omega)) _ | refine Below.drew ?_ | refine Below.trans ?_ (hB.mono (by first | omega | (simp; done) | (simp; omega)))))⟩
 ·have h3':l < op:=by omega
  go_wp2
  go_ret2
  exact ⟨by first | rfl | (rw [if_neg (by omega)]; rfl),by (repeat (first | exact Below.refl _ _ | exact hB | refine Below.alloc ?_ (by first | omega | (simp; done) | (simp; omega)) _ | refine Below.setCell ?_ (by first | omega | (simp; done) | (simp; omega)) _ | refine Below.drew ?_ | refine Below.trans ?_ (hB.mono (by first | omega | (simp; done) | (simp; omega)))))⟩
theorem latest_not {id fr tn op en ra ow ro:Int} {b size:Int} (h:¬ (Ed.asks ⟨id,fr,tn,op,en,ra,ow,ro⟩ b size = true ∧ size ≤ ro)) (w:World) :
  Calls Tryz.prog 104 #[.agg #[.int .i64 id,.int .i64 fr,.int .i64 tn,.int .i64 op,.int .i64 en,.int .i64 ra,.int .i64 ow,.int .i64 ro],.int .i64 b,.int .i64 size] w fun e w' => e = .returned (.tuple #[.int .i64 0,.bool false]) ∧ Below w.heap.size w w':=by
 by_cases h1:Ed.asks ⟨id,fr,tn,op,en,ra,ow,ro⟩ b size = true
 ·have h2:ro < size:=by
   rcases Int.lt_or_le ro size with h3 | h3
   ·exact h3
   ·exact absurd ⟨h1,h3⟩ h
  have H:=Lib.hid h1
  clear h h1
  go_enter Tryz.func104,Tryz.ntmps104
  go_wp2_with fail
  (with_reducible refine Calls.mono (asked_is true H.out _) ?_)
  rintro e wa ⟨rfl,hB⟩
  obtain ⟨hc,hf⟩:=bcell hB
  go_wp2
  go_ret2
  exact ⟨rfl,by (repeat (first | exact Below.refl _ _ | exact hB | refine Below.alloc ?_ (by first | omega | (simp; done) | (simp; omega)) _ | refine Below.setCell ?_ (by first | omega | (simp; done) | (simp; omega)) _ | refine Below.drew ?_ | refine Below.trans ?_ (hB.mono (by first | omega | (simp; done) | (simp; omega)))))⟩
 ·have H:=Lib.hid (show Ed.asks ⟨id,fr,tn,op,en,ra,ow,ro⟩ b size = false by simpa using h1)
  clear h h1
  go_enter Tryz.func104,Tryz.ntmps104
  go_wp2_with fail
  (with_reducible refine Calls.mono (asked_is false H.out _) ?_)
  rintro e wa ⟨rfl,hB⟩
  obtain ⟨hc,hf⟩:=bcell hB
  go_wp2
  go_ret2
  exact ⟨rfl,by (repeat (first | exact Below.refl _ _ | exact hB | refine Below.alloc ?_ (by first | omega | (simp; done) | (simp; omega)) _ | refine Below.setCell ?_ (by first | omega | (simp; done) | (simp; omega)) _ | refine Below.drew ?_ | refine Below.trans ?_ (hB.mono (by first | omega | (simp; done) | (simp; omega)))))⟩
theorem latest_some_spec {id fr tn op en ra ow ro:Int} {b size t:Int} (h:Ed.latest ⟨id,fr,tn,op,en,ra,ow,ro⟩ b size = some t):Ed.asks ⟨id,fr,tn,op,en,ra,ow,ro⟩ b size = true ∧ size ≤ ro ∧ op ≤ t ∧ t = Ed.last ⟨id,fr,tn,op,en,ra,ow,ro⟩ b size:=by
 unfold Ed.latest at h
 split at h
 ·rename_i hc
  simp only [Option.some.injEq] at h
  exact ⟨hc.1,hc.2.1,h ▸ hc.2.2,h.symm⟩
 ·cases h
theorem latest_yes {id fr tn op en ra ow ro:Int} {b size t:Int} (h:Ed.latest ⟨id,fr,tn,op,en,ra,ow,ro⟩ b size = some t) (w:World) :
  Calls Tryz.prog 104 #[.agg #[.int .i64 id,.int .i64 fr,.int .i64 tn,.int .i64 op,.int .i64 en,.int .i64 ra,.int .i64 ow,.int .i64 ro],.int .i64 b,.int .i64 size] w fun e w' => e = .returned (.tuple #[.int .i64 t,.bool true]) ∧ Below w.heap.size w w':=by
 obtain ⟨h1,h2,h3,rfl⟩:=latest_some_spec h
 have:=latest_asked h1 h2 w
 rw [if_pos h3] at this
 exact this
theorem latest_no {id fr tn op en ra ow ro:Int} {b size:Int} (h:Ed.latest ⟨id,fr,tn,op,en,ra,ow,ro⟩ b size = none) (w:World) :
  Calls Tryz.prog 104 #[.agg #[.int .i64 id,.int .i64 fr,.int .i64 tn,.int .i64 op,.int .i64 en,.int .i64 ra,.int .i64 ow,.int .i64 ro],.int .i64 b,.int .i64 size] w fun e w' => e = .returned (.tuple #[.int .i64 0,.bool false]) ∧ Below w.heap.size w w':=by
 by_cases h1:Ed.asks ⟨id,fr,tn,op,en,ra,ow,ro⟩ b size = true ∧ size ≤ ro
 ·have:=latest_asked h1.1 h1.2 w
  rw [if_neg (fun h3 => by rw [Ed.latest,if_pos ⟨h1.1,h1.2,h3⟩] at h; cases h)] at this
  exact this
 ·exact latest_not h1 w
end Go.Proofs.YtkonkhblipbjcaaGreat

/- api.Edge: its cells, lists of it. No condition. -/
namespace Go.Proofs.YtkonkhblipbjcaaGreat
open Go.ChangeShapes Go.WideShapes Go.ChangeAt Go.RowKit Go.Sort
set_option linter.unusedSimpArgs false
set_option linter.unusedVariables false
theorem Ed.ext_ {a b:Ed} (h0:a.id = b.id) (h1:a.fr = b.fr) (h2:a.tn = b.tn) (h3:a.op = b.op) (h4:a.en = b.en) (h5:a.ra = b.ra) (h6:a.ow = b.ow) (h7:a.ro = b.ro):a = b:=by cases a; cases b; simp_all
instance:DecidableEq Ed:=fun a b => if h:a.id = b.id ∧ a.fr = b.fr ∧ a.tn = b.tn ∧ a.op = b.op ∧ a.en = b.en ∧ a.ra = b.ra ∧ a.ow = b.ow ∧ a.ro = b.ro then isTrue (Ed.ext_ h.1 h.2.1 h.2.2.1 h.2.2.2.1 h.2.2.2.2.1 h.2.2.2.2.2.1 h.2.2.2.2.2.2.1 h.2.2.2.2.2.2.2) else isFalse (by rintro rfl; simp at h)
def Ed.cs (r:Ed):List Value:=[.int .i64 r.id,.int .i64 r.fr,.int .i64 r.tn,.int .i64 r.op,.int .i64 r.en,.int .i64 r.ra,.int .i64 r.ow,.int .i64 r.ro]
def flatEd (d:List Ed):List Value:=d.flatMap Ed.cs
def gEd (d:List Ed) (i:Nat):Ed:=d.getD i ⟨0,0,0,0,0,0,0,0⟩
theorem flatEd_cons (p:Ed) (d:List Ed):flatEd (p :: d) = .int .i64 p.id :: .int .i64 p.fr :: .int .i64 p.tn :: .int .i64 p.op :: .int .i64 p.en :: .int .i64 p.ra :: .int .i64 p.ow :: .int .i64 p.ro :: flatEd d:=rfl
theorem flatEd_length (d:List Ed):(flatEd d).length = d.length * 8:=by
 induction d with
 | nil => rfl
 | cons p d ih => rw [flatEd_cons]; simp only [List.length_cons,ih]; omega
theorem flatEd_append (d e:List Ed):flatEd (d ++ e) = flatEd d ++ flatEd e:=by simp [flatEd]
theorem flatEd_at0:∀ (d:List Ed) (i:Nat),i < d.length → (flatEd d)[i * 8]? = some (.int .i64 (gEd d i).id)
 | p :: d,0,_ => rfl
 | p :: d,i + 1,h => by
  rw [flatEd_cons,show (i + 1) * 8 = i * 8 + 1 + 1 + 1 + 1 + 1 + 1 + 1 + 1 from by omega]
  simp only [List.getElem?_cons_succ]
  exact flatEd_at0 d i (by simpa using h)
theorem flatEd_at1:∀ (d:List Ed) (i:Nat),i < d.length → (flatEd d)[i * 8 + 1]? = some (.int .i64 (gEd d i).fr)
 | p :: d,0,_ => rfl
 | p :: d,i + 1,h => by
  rw [flatEd_cons,show (i + 1) * 8 + 1 = i * 8 + 1 + 1 + 1 + 1 + 1 + 1 + 1 + 1 + 1 from by omega]
  simp only [List.getElem?_cons_succ]
  exact flatEd_at1 d i (by simpa using h)
theorem flatEd_at2:∀ (d:List Ed) (i:Nat),i < d.length → (flatEd d)[i * 8 + 2]? = some (.int .i64 (gEd d i).tn)
 | p :: d,0,_ => rfl
 | p :: d,i + 1,h => by
  rw [flatEd_cons,show (i + 1) * 8 + 2 = i * 8 + 2 + 1 + 1 + 1 + 1 + 1 + 1 + 1 + 1 from by omega]
  simp only [List.getElem?_cons_succ]
  exact flatEd_at2 d i (by simpa using h)
theorem flatEd_at3:∀ (d:List Ed) (i:Nat),i < d.length → (flatEd d)[i * 8 + 3]? = some (.int .i64 (gEd d i).op)
 | p :: d,0,_ => rfl
 | p :: d,i + 1,h => by
  rw [flatEd_cons,show (i + 1) * 8 + 3 = i * 8 + 3 + 1 + 1 + 1 + 1 + 1 + 1 + 1 + 1 from by omega]
  simp only [List.getElem?_cons_succ]
  exact flatEd_at3 d i (by simpa using h)
theorem flatEd_at4:∀ (d:List Ed) (i:Nat),i < d.length → (flatEd d)[i * 8 + 4]? = some (.int .i64 (gEd d i).en)
 | p :: d,0,_ => rfl
 | p :: d,i + 1,h => by
  rw [flatEd_cons,show (i + 1) * 8 + 4 = i * 8 + 4 + 1 + 1 + 1 + 1 + 1 + 1 + 1 + 1 from by omega]
  simp only [List.getElem?_cons_succ]
  exact flatEd_at4 d i (by simpa using h)
theorem flatEd_at5:∀ (d:List Ed) (i:Nat),i < d.length → (flatEd d)[i * 8 + 5]? = some (.int .i64 (gEd d i).ra)
 | p :: d,0,_ => rfl
 | p :: d,i + 1,h => by
  rw [flatEd_cons,show (i + 1) * 8 + 5 = i * 8 + 5 + 1 + 1 + 1 + 1 + 1 + 1 + 1 + 1 from by omega]
  simp only [List.getElem?_cons_succ]
  exact flatEd_at5 d i (by simpa using h)
theorem flatEd_at6:∀ (d:List Ed) (i:Nat),i < d.length → (flatEd d)[i * 8 + 6]? = some (.int .i64 (gEd d i).ow)
 | p :: d,0,_ => rfl
 | p :: d,i + 1,h => by
  rw [flatEd_cons,show (i + 1) * 8 + 6 = i * 8 + 6 + 1 + 1 + 1 + 1 + 1 + 1 + 1 + 1 from by omega]
  simp only [List.getElem?_cons_succ]
  exact flatEd_at6 d i (by simpa using h)
theorem flatEd_at7:∀ (d:List Ed) (i:Nat),i < d.length → (flatEd d)[i * 8 + 7]? = some (.int .i64 (gEd d i).ro)
 | p :: d,0,_ => rfl
 | p :: d,i + 1,h => by
  rw [flatEd_cons,show (i + 1) * 8 + 7 = i * 8 + 7 + 1 + 1 + 1 + 1 + 1 + 1 + 1 + 1 from by omega]
  simp only [List.getElem?_cons_succ]
  exact flatEd_at7 d i (by simpa using h)
theorem flatEd_set:∀ (d:List Ed) (i:Nat) (p:Ed),(((((((((flatEd d).set (i * 8) (.int .i64 p.id)).set (i * 8 + 1) (.int .i64 p.fr)).set (i * 8 + 2) (.int .i64 p.tn)).set (i * 8 + 3) (.int .i64 p.op)).set (i * 8 + 4) (.int .i64 p.en)).set (i * 8 + 5) (.int .i64 p.ra)).set (i * 8 + 6) (.int .i64 p.ow)).set (i * 8 + 7) (.int .i64 p.ro)) = flatEd (d.set i p)
 | [],i,p => by simp [flatEd]
 | q :: d,0,p => rfl
 | q :: d,i + 1,p => by
  rw [flatEd_cons]
  rw [show (i + 1) * 8 = i * 8 + 1 + 1 + 1 + 1 + 1 + 1 + 1 + 1 from by omega]
  rw [show i * 8 + 1 + 1 + 1 + 1 + 1 + 1 + 1 + 1 + 1 = i * 8 + 1 + 1 + 1 + 1 + 1 + 1 + 1 + 1 + 1 from by omega]
  rw [show i * 8 + 1 + 1 + 1 + 1 + 1 + 1 + 1 + 1 + 2 = i * 8 + 2 + 1 + 1 + 1 + 1 + 1 + 1 + 1 + 1 from by omega]
  rw [show i * 8 + 1 + 1 + 1 + 1 + 1 + 1 + 1 + 1 + 3 = i * 8 + 3 + 1 + 1 + 1 + 1 + 1 + 1 + 1 + 1 from by omega]
  rw [show i * 8 + 1 + 1 + 1 + 1 + 1 + 1 + 1 + 1 + 4 = i * 8 + 4 + 1 + 1 + 1 + 1 + 1 + 1 + 1 + 1 from by omega]
  rw [show i * 8 + 1 + 1 + 1 + 1 + 1 + 1 + 1 + 1 + 5 = i * 8 + 5 + 1 + 1 + 1 + 1 + 1 + 1 + 1 + 1 from by omega]
  rw [show i * 8 + 1 + 1 + 1 + 1 + 1 + 1 + 1 + 1 + 6 = i * 8 + 6 + 1 + 1 + 1 + 1 + 1 + 1 + 1 + 1 from by omega]
  rw [show i * 8 + 1 + 1 + 1 + 1 + 1 + 1 + 1 + 1 + 7 = i * 8 + 7 + 1 + 1 + 1 + 1 + 1 + 1 + 1 + 1 from by omega]
  simp only [List.set_cons_succ]
  rw [flatEd_set d i p]
  rfl
theorem flatEd_take:∀ (d:List Ed) (n:Nat),(flatEd d).take (n * 8) = flatEd (d.take n)
 | _,0 => by simp [flatEd]
 | [],n + 1 => by simp [flatEd]
 | p :: d,n + 1 => by
  rw [flatEd_cons,show (n + 1) * 8 = n * 8 + 1 + 1 + 1 + 1 + 1 + 1 + 1 + 1 from by omega]
  simp only [List.take_succ_cons]
  rw [flatEd_take d n]
  rfl
theorem flatEd_drop:∀ (d:List Ed) (n:Nat),(flatEd d).drop (n * 8) = flatEd (d.drop n)
 | _,0 => by simp
 | [],n + 1 => by simp [flatEd]
 | p :: d,n + 1 => by
  rw [flatEd_cons,show (n + 1) * 8 = n * 8 + 1 + 1 + 1 + 1 + 1 + 1 + 1 + 1 from by omega]
  simp only [List.drop_succ_cons]
  rw [flatEd_drop d n]
theorem flatEd_one:∀ (l:List Ed),∀ u ∈ flatEd l,u.oneCell' = true
 | [],u,h => by simp [flatEd] at h
 | p :: l,u,h => by
  rw [flatEd_cons] at h
  simp only [List.mem_cons] at h
  rcases h with rfl | rfl | rfl | rfl | rfl | rfl | rfl | rfl | h
  all_goals first | rfl | exact flatEd_one l u h
theorem rowsEd_of:∀ (n:Nat) (ns:List Int),ns.length = n * 8 → ∃ d:List Ed,d.length = n ∧ ns.map (Value.int .i64) = flatEd d
 | 0,[],_ => ⟨[],rfl,rfl⟩
 | 0,_ :: _,h => by simp at h
 | n + 1,a0 :: a1 :: a2 :: a3 :: a4 :: a5 :: a6 :: a7 :: ns,h => by
  obtain ⟨d,h1,h2⟩:=rowsEd_of n ns (by simp at h; omega)
  exact ⟨⟨a0,a1,a2,a3,a4,a5,a6,a7⟩ :: d,by simp [h1],by simp [flatEd_cons,h2]⟩
 | n + 1,[],h => by simp at h <;> omega
 | n + 1,[_],h => by simp at h <;> omega
 | n + 1,[_,_],h => by simp at h <;> omega
 | n + 1,[_,_,_],h => by simp at h <;> omega
 | n + 1,[_,_,_,_],h => by simp at h <;> omega
 | n + 1,[_,_,_,_,_],h => by simp at h <;> omega
 | n + 1,[_,_,_,_,_,_],h => by simp at h <;> omega
 | n + 1,[_,_,_,_,_,_,_],h => by simp at h <;> omega

theorem Lst.atEd {w:World} {B:Nat} {A:Option Addr} {n:Nat} {l:List Ed} (h:Lst w B 8 A n (flatEd l)) (hl:l.length = n) {k:Nat} (hk:k < n):∃ ad,A = some ad ∧ ad.block < B ∧ w.cell? (ad.add (k * 8)) = some (.int .i64 (gEd l k).id) ∧ w.cell? ⟨(ad.add (k * 8)).block,(ad.add (k * 8)).off + 1,none⟩ = some (.int .i64 (gEd l k).fr) ∧ w.cell? ⟨(ad.add (k * 8)).block,(ad.add (k * 8)).off + 2,none⟩ = some (.int .i64 (gEd l k).tn) ∧ w.cell? ⟨(ad.add (k * 8)).block,(ad.add (k * 8)).off + 3,none⟩ = some (.int .i64 (gEd l k).op) ∧ w.cell? ⟨(ad.add (k * 8)).block,(ad.add (k * 8)).off + 4,none⟩ = some (.int .i64 (gEd l k).en) ∧ w.cell? ⟨(ad.add (k * 8)).block,(ad.add (k * 8)).off + 5,none⟩ = some (.int .i64 (gEd l k).ra) ∧ w.cell? ⟨(ad.add (k * 8)).block,(ad.add (k * 8)).off + 6,none⟩ = some (.int .i64 (gEd l k).ow) ∧ w.cell? ⟨(ad.add (k * 8)).block,(ad.add (k * 8)).off + 7,none⟩ = some (.int .i64 (gEd l k).ro):=by
 obtain ⟨ad,e,hb,hc⟩:=h.at_ (by omega)
 exact ⟨ad,e,hb,hc _ _ (flatEd_at0 l k (by omega)),by rw [addr_next _ _ _ (by omega)]; exact hc _ _ (flatEd_at1 l k (by omega)),by rw [addr_next _ _ _ (by omega)]; exact hc _ _ (flatEd_at2 l k (by omega)),by rw [addr_next _ _ _ (by omega)]; exact hc _ _ (flatEd_at3 l k (by omega)),by rw [addr_next _ _ _ (by omega)]; exact hc _ _ (flatEd_at4 l k (by omega)),by rw [addr_next _ _ _ (by omega)]; exact hc _ _ (flatEd_at5 l k (by omega)),by rw [addr_next _ _ _ (by omega)]; exact hc _ _ (flatEd_at6 l k (by omega)),by rw [addr_next _ _ _ (by omega)]; exact hc _ _ (flatEd_at7 l k (by omega))⟩
theorem ownEd_at {w:World} {base:Nat} {t:TypeId} {g n c:Nat} {d:List Ed} (h:w.ownsRow base t 8 (.slice (some ⟨g,0,none⟩) n c) n (flatEd d)) (hd:d.length = n) {k:Nat} (hk:k < n):w.cell? ⟨g,k * 8,none⟩ = some (.int .i64 (gEd d k).id) ∧ w.cell? ⟨g,k * 8 + 1,none⟩ = some (.int .i64 (gEd d k).fr) ∧ w.cell? ⟨g,k * 8 + 2,none⟩ = some (.int .i64 (gEd d k).tn) ∧ w.cell? ⟨g,k * 8 + 3,none⟩ = some (.int .i64 (gEd d k).op) ∧ w.cell? ⟨g,k * 8 + 4,none⟩ = some (.int .i64 (gEd d k).en) ∧ w.cell? ⟨g,k * 8 + 5,none⟩ = some (.int .i64 (gEd d k).ra) ∧ w.cell? ⟨g,k * 8 + 6,none⟩ = some (.int .i64 (gEd d k).ow) ∧ w.cell? ⟨g,k * 8 + 7,none⟩ = some (.int .i64 (gEd d k).ro):=
 ⟨(h.cellAt (k * 8) (by omega)).trans (flatEd_at0 d k (by omega)),(h.cellAt (k * 8 + 1) (by omega)).trans (flatEd_at1 d k (by omega)),(h.cellAt (k * 8 + 2) (by omega)).trans (flatEd_at2 d k (by omega)),(h.cellAt (k * 8 + 3) (by omega)).trans (flatEd_at3 d k (by omega)),(h.cellAt (k * 8 + 4) (by omega)).trans (flatEd_at4 d k (by omega)),(h.cellAt (k * 8 + 5) (by omega)).trans (flatEd_at5 d k (by omega)),(h.cellAt (k * 8 + 6) (by omega)).trans (flatEd_at6 d k (by omega)),(h.cellAt (k * 8 + 7) (by omega)).trans (flatEd_at7 d k (by omega))⟩
theorem ownEd_store {w:World} {base:Nat} {t:TypeId} {g n c:Nat} {d:List Ed} (h:w.ownsRow base t 8 (.slice (some ⟨g,0,none⟩) n c) n (flatEd d)) (i:Nat) (p:Ed):((((((((w.setCell ⟨g,i * 8,none⟩ (.int .i64 p.id)).setCell ⟨g,i * 8 + 1,none⟩ (.int .i64 p.fr)).setCell ⟨g,i * 8 + 2,none⟩ (.int .i64 p.tn)).setCell ⟨g,i * 8 + 3,none⟩ (.int .i64 p.op)).setCell ⟨g,i * 8 + 4,none⟩ (.int .i64 p.en)).setCell ⟨g,i * 8 + 5,none⟩ (.int .i64 p.ra)).setCell ⟨g,i * 8 + 6,none⟩ (.int .i64 p.ow)).setCell ⟨g,i * 8 + 7,none⟩ (.int .i64 p.ro)).ownsRow base t 8 (.slice (some ⟨g,0,none⟩) n c) n (flatEd (d.set i p)) ∧ w.grownBy ((((((((w.setCell ⟨g,i * 8,none⟩ (.int .i64 p.id)).setCell ⟨g,i * 8 + 1,none⟩ (.int .i64 p.fr)).setCell ⟨g,i * 8 + 2,none⟩ (.int .i64 p.tn)).setCell ⟨g,i * 8 + 3,none⟩ (.int .i64 p.op)).setCell ⟨g,i * 8 + 4,none⟩ (.int .i64 p.en)).setCell ⟨g,i * 8 + 5,none⟩ (.int .i64 p.ra)).setCell ⟨g,i * 8 + 6,none⟩ (.int .i64 p.ow)).setCell ⟨g,i * 8 + 7,none⟩ (.int .i64 p.ro)) (some g):=by
 obtain ⟨r0,g0⟩:=h.stored (i * 8) (.int .i64 p.id)
 obtain ⟨r1,g1⟩:=r0.stored (i * 8 + 1) (.int .i64 p.fr)
 obtain ⟨r2,g2⟩:=r1.stored (i * 8 + 2) (.int .i64 p.tn)
 obtain ⟨r3,g3⟩:=r2.stored (i * 8 + 3) (.int .i64 p.op)
 obtain ⟨r4,g4⟩:=r3.stored (i * 8 + 4) (.int .i64 p.en)
 obtain ⟨r5,g5⟩:=r4.stored (i * 8 + 5) (.int .i64 p.ra)
 obtain ⟨r6,g6⟩:=r5.stored (i * 8 + 6) (.int .i64 p.ow)
 obtain ⟨r7,g7⟩:=r6.stored (i * 8 + 7) (.int .i64 p.ro)
 rw [flatEd_set] at r7
 exact ⟨r7,grown_trans (grown_trans (grown_trans (grown_trans (grown_trans (grown_trans (grown_trans (g0) g1) g2) g3) g4) g5) g6) g7⟩
theorem gEd_mem {d:List Ed} {i:Nat} (h:i < d.length):gEd d i ∈ d:=by
 unfold gEd; rw [List.getD_eq_getElem?_getD,List.getElem?_eq_getElem h]; simp
theorem gEd_eq {d:List Ed} {i:Nat} (h:i < d.length):gEd d i = d[i]:=by
 unfold gEd; rw [List.getD_eq_getElem?_getD,List.getElem?_eq_getElem h]; rfl
theorem take_nextEd {l:List Ed} {k:Nat} (h:k < l.length):l.take (k + 1) = l.take k ++ [gEd l k]:=by
 rw [List.take_succ_eq_append_getElem h,gEd_eq h]
theorem extEd {a b:List Ed} (hl:a.length = b.length) (h:∀ i,i < a.length → gEd a i = gEd b i):a = b:=by
 refine List.ext_getElem hl fun i h1 h2 => ?_
 have:=h i h1
 rw [gEd_eq h1,gEd_eq h2] at this
 exact this
theorem eqlEd (a b:Ed) (w:World):(binOp .eql 82 (.agg #[.int .i64 a.id,.int .i64 a.fr,.int .i64 a.tn,.int .i64 a.op,.int .i64 a.en,.int .i64 a.ra,.int .i64 a.ow,.int .i64 a.ro]) (.agg #[.int .i64 b.id,.int .i64 b.fr,.int .i64 b.tn,.int .i64 b.op,.int .i64 b.en,.int .i64 b.ra,.int .i64 b.ow,.int .i64 b.ro])).run Tryz.prog w = .ok (.bool (decide (a = b))) w:=by
 have u3:=Tryz.underlying3
 have a3:=Tryz.isAgg3
 have z3:=Tryz.sizeOf3
 have hS:Tryz.prog.underlying 82 = some (.struct (Tryz.prog.fieldsOf 82)):=by kernel_rfl
 have hp:Tryz.prog.stoodInHeld 82 = false:=by kernel_rfl
 rw [run_eql_struct,show (10000:Nat) = 9999 + 1 from rfl,run_equalIn_agg w 9999 82 _ _ hS hp]
 simp only [Program.fieldsOf,Tryz.underlying82]
 go_simp
 by_cases hab:a = b
 ·subst hab; simp
 ·simp only [hab,decide_false]
  have hx:¬ (a.id = b.id ∧ a.fr = b.fr ∧ a.tn = b.tn ∧ a.op = b.op ∧ a.en = b.en ∧ a.ra = b.ra ∧ a.ow = b.ow ∧ a.ro = b.ro):=fun h => hab (Ed.ext_ h.1 h.2.1 h.2.2.1 h.2.2.2.1 h.2.2.2.2.1 h.2.2.2.2.2.1 h.2.2.2.2.2.2.1 h.2.2.2.2.2.2.2)
  by_cases h0:a.id = b.id <;> by_cases h1:a.fr = b.fr <;> by_cases h2:a.tn = b.tn <;> by_cases h3:a.op = b.op <;> by_cases h4:a.en = b.en <;> by_cases h5:a.ra = b.ra <;> by_cases h6:a.ow = b.ow <;> by_cases h7:a.ro = b.ro
  all_goals simp_all
theorem neqEd (a b:Ed) (w:World):(binOp .neq 82 (.agg #[.int .i64 a.id,.int .i64 a.fr,.int .i64 a.tn,.int .i64 a.op,.int .i64 a.en,.int .i64 a.ra,.int .i64 a.ow,.int .i64 a.ro]) (.agg #[.int .i64 b.id,.int .i64 b.fr,.int .i64 b.tn,.int .i64 b.op,.int .i64 b.en,.int .i64 b.ra,.int .i64 b.ow,.int .i64 b.ro])).run Tryz.prog w = .ok (.bool (!decide (a = b))) w:=by
 have u3:=Tryz.underlying3
 have a3:=Tryz.isAgg3
 have z3:=Tryz.sizeOf3
 have hS:Tryz.prog.underlying 82 = some (.struct (Tryz.prog.fieldsOf 82)):=by kernel_rfl
 have hp:Tryz.prog.stoodInHeld 82 = false:=by kernel_rfl
 rw [run_neq_struct,show (10000:Nat) = 9999 + 1 from rfl,run_equalIn_agg w 9999 82 _ _ hS hp]
 simp only [Program.fieldsOf,Tryz.underlying82]
 go_simp
 by_cases hab:a = b
 ·subst hab; simp
 ·simp only [hab,decide_false]
  have hx:¬ (a.id = b.id ∧ a.fr = b.fr ∧ a.tn = b.tn ∧ a.op = b.op ∧ a.en = b.en ∧ a.ra = b.ra ∧ a.ow = b.ow ∧ a.ro = b.ro):=fun h => hab (Ed.ext_ h.1 h.2.1 h.2.2.1 h.2.2.2.1 h.2.2.2.2.1 h.2.2.2.2.2.1 h.2.2.2.2.2.2.1 h.2.2.2.2.2.2.2)
  by_cases h0:a.id = b.id <;> by_cases h1:a.fr = b.fr <;> by_cases h2:a.tn = b.tn <;> by_cases h3:a.op = b.op <;> by_cases h4:a.en = b.en <;> by_cases h5:a.ra = b.ra <;> by_cases h6:a.ow = b.ow <;> by_cases h7:a.ro = b.ro
  all_goals simp_all
theorem infoEd:(Tryz.prog.info? 82).map (fun i => (i.zero,i.size,i.bytes)) = some (some (.agg #[.int .i64 0,.int .i64 0,.int .i64 0,.int .i64 0,.int .i64 0,.int .i64 0,.int .i64 0,.int .i64 0]),8,64):=by kernel_rfl
end Go.Proofs.YtkonkhblipbjcaaGreat
