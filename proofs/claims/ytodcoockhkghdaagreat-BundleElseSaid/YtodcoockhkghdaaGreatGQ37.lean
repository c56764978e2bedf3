/- Several texts of mine in one: ViewMath, EdgesX, Base20, BundleL, BundleR, BundleW, BundleX, BundleY. No condition. -/
import Derived.Test.YtodcoockhkghdaaGreatGQ5
import Derived.Test.YtodcoockhkghdaaGreatGQ33
import Derived.Test.YtodcoockhkghdaaGreatGQ23
import Derived.Test.YtodcoockhkghdaaGreatGQ25
import Derived.Test.YtodcoockhkghdaaGreatGQ24
import Derived.Test.YtodcoockhkghdaaGreatSpurMath
import Derived.Test.YtodcoockhkghdaaGreatGQ4
namespace Go.Proofs.YtodcoockhkghdaaGreat.Kv
open Go.ChangeShapes Go.WideShapes Go.ChangeAt Go.RowKit Go.Sort
set_option linter.unusedSimpArgs false
set_option linter.unusedVariables false
theorem edgeF_some {rs:List Rg} {bk:List Bk} {c:Co} {cl:Int} {e:Ed} (h:edgeF rs bk c cl = some e):Kc.okC c = true ∧ ∃ o,owltF rs c.fr c.tn c.st c.en = some o ∧ e = ⟨c.id,c.fr,c.tn,min (c.st + cdiv (Kb.backF (Kb.rowB bk c.id) cl) c.rt) 1099511627776,c.en,c.rt,o,Kb.roomF (ctOf c) (Kb.rowB bk c.id) cl⟩:=by
 unfold edgeF at h
 split at h
 ·rename_i hok
  rw [Option.map_eq_some_iff] at h
  obtain ⟨o,ho,rfl⟩:=h
  exact ⟨hok,o,ho,rfl⟩
 ·cases h
theorem edgeF_id {rs:List Rg} {bk:List Bk} {c:Co} {cl:Int} {e:Ed} (h:edgeF rs bk c cl = some e):e.id = c.id:=by
 obtain ⟨_,o,_,rfl⟩:=edgeF_some h
 rfl
theorem mem_allL {rs:List Rg} {bk:List Bk} {cl:Int} {cs:List Co} {e:Ed}:e ∈ allL rs bk cl cs ↔ ∃ c ∈ cs,edgeF rs bk c cl = some e:=by
 unfold allL
 rw [List.mem_filterMap]
theorem ids_apart {cs:List Co} (h:Kc.rightC cs = true):cs.Pairwise (fun a b => a.id ≠ b.id):=by
 rw [List.pairwise_iff_getElem]
 intro i j hi hj hij
 have:=Kc.right_ids h hij hj
 rw [gCo_eq hi,gCo_eq hj] at this
 exact this
theorem allL_apart {rs:List Rg} {bk:List Bk} {cl:Int} {cs:List Co} (h:Kc.rightC cs = true):(allL rs bk cl cs).Pairwise (fun a b => a.id ≠ b.id):=by
 unfold allL
 rw [List.pairwise_filterMap]
 refine (ids_apart h).imp fun {a b} hab x hx y hy => ?_
 rw [edgeF_id hx,edgeF_id hy]
 exact hab
theorem sorted_of {m:List Ed} (h:∀ i j,i < j → j < m.length → (gEd m i).id ≤ (gEd m j).id) (hd:m.Pairwise (fun a b => a.id ≠ b.id)):m.Pairwise (fun a b => a.id < b.id):=by
 rw [List.pairwise_iff_getElem] at hd ⊢
 intro i j hi hj hij
 have h1:=h i j hij hj
 rw [gEd_eq hi,gEd_eq hj] at h1
 have h2:=hd i j hi hj hij
 omega
theorem sorted_ext:∀ {d e:List Ed},d.Pairwise (fun a b => a.id < b.id) → e.Pairwise (fun a b => a.id < b.id) → (∀ x,x ∈ d ↔ x ∈ e) → d = e
 | [],[],_,_,_ => rfl
 | [],y :: e,_,_,h => absurd ((h y).2 (by simp)) (by simp)
 | x :: d,[],_,_,h => absurd ((h x).1 (by simp)) (by simp)
 | x :: d,y :: e,hd,he,h => by
  rw [List.pairwise_cons] at hd he
  have hxy:x = y:=by
   have h1:=(h x).1 (by simp)
   have h2:=(h y).2 (by simp)
   simp only [List.mem_cons] at h1 h2
   rcases h1 with h1 | h1
   ·exact h1
   ·rcases h2 with h2 | h2
    ·exact h2.symm
    ·have:=hd.1 y h2
     have:=he.1 x h1
     omega
  subst hxy
  congr 1
  refine sorted_ext hd.2 he.2 fun z => ?_
  have:=h z
  simp only [List.mem_cons] at this
  constructor
  ·intro hz
   rcases this.1 (.inr hz) with rfl | h1
   ·exact absurd (hd.1 z hz) (by omega)
   ·exact h1
  ·intro hz
   rcases this.2 (.inr hz) with rfl | h1
   ·exact absurd (he.1 z hz) (by omega)
   ·exact h1
structure AllE (rs:List Rg) (bk:List Bk) (cl:Int) (cs:List Co) (m:List Ed):Prop where
 mem:∀ e,e ∈ m ↔ ∃ c ∈ cs,edgeF rs bk c cl = some e
 sorted:m.Pairwise (fun a b => a.id < b.id)
 size:m.length = (allL rs bk cl cs).length
theorem allE_of {rs:List Rg} {bk:List Bk} {cl:Int} {cs:List Co} {m:List Ed} (hr:Kc.rightC cs = true) (hp:m.Perm (allL rs bk cl cs)) (hs:∀ i j,i < j → j < m.length → (gEd m i).id ≤ (gEd m j).id):AllE rs bk cl cs m:=
 ⟨fun e => by rw [hp.mem_iff,mem_allL],sorted_of hs ((hp.pairwise_iff (fun h => Ne.symm h)).2 (allL_apart hr)),hp.length_eq⟩
theorem AllE.len {rs:List Rg} {bk:List Bk} {cl:Int} {cs:List Co} {m:List Ed} (h:AllE rs bk cl cs m):m.length ≤ cs.length:=by rw [h.size]; exact List.length_filterMap_le _ _
theorem AllE.one {rs:List Rg} {bk:List Bk} {cl:Int} {cs:List Co} {m m':List Ed} (h:AllE rs bk cl cs m) (h':AllE rs bk cl cs m'):m = m':=
 sorted_ext h.sorted h'.sorted fun x => by rw [h.mem,h'.mem]
theorem AllE.at_ {rs:List Rg} {bk:List Bk} {cl:Int} {cs:List Co} {m:List Ed} (hr:Kc.rightC cs = true) (h:AllE rs bk cl cs m) {i:Nat} (hi:i < m.length):∃ c,c ∈ cs ∧ edgeF rs bk c cl = some (gEd m i) ∧ (gEd m i).id = c.id ∧ Kc.idIn cs (gEd m i).id = true ∧ Kc.foundC cs (gEd m i).id = c:=by
 obtain ⟨c,hc,he⟩:=(h.mem _).1 (gEd_mem hi)
 have hid:=edgeF_id he
 refine ⟨c,hc,he,hid,?_,?_⟩
 ·rw [hid]; exact Kc.idIn_mem hc
 ·rw [hid]; exact Kc.found_of hr hc
theorem edgeF_isSome {rs:List Rg} {bk:List Bk} {c:Co} {cl:Int} (hc:Kc.okC c = true):(edgeF rs bk c cl).isSome = (owltF rs c.fr c.tn c.st c.en).isSome:=by
 unfold edgeF
 rw [if_pos hc]
 cases owltF rs c.fr c.tn c.st c.en <;> rfl
def reE (rs:List Rg) (bk:List Bk) (cl:Int) (cs:List Co) (e:Ed):Ed:=(edgeF rs bk (Kc.foundC cs e.id) cl).getD zeroEd
theorem reE_of {rs:List Rg} {bk bk':List Bk} {cl cl':Int} {cs:List Co} {c:Co} {e:Ed} (hr:Kc.rightC cs = true) (hc:c ∈ cs) (he:edgeF rs bk c cl = some e):edgeF rs bk' c cl' = some (reE rs bk' cl' cs e) ∧ (reE rs bk' cl' cs e).id = e.id:=by
 have hok:=Kc.right_ok hr c hc
 have hid:=edgeF_id he
 have hf:Kc.foundC cs e.id = c:=by rw [hid]; exact Kc.found_of hr hc
 have h1:(edgeF rs bk' c cl').isSome = true:=by rw [edgeF_isSome hok,← edgeF_isSome (bk:=bk) (cl:=cl) hok,he]; rfl
 obtain ⟨e',he'⟩:=Option.isSome_iff_exists.1 h1
 have h2:reE rs bk' cl' cs e = e':=by unfold reE; rw [hf,he']; rfl
 rw [h2]
 exact ⟨he',by rw [edgeF_id he',hid]⟩
theorem sorted_map {f:Ed → Ed}:∀ {m:List Ed},(∀ e ∈ m,(f e).id = e.id) → m.Pairwise (fun a b => a.id < b.id) → (m.map f).Pairwise (fun a b => a.id < b.id)
 | [],_,_ => by simp
 | x :: m,hf,h => by
  rw [List.pairwise_cons] at h
  rw [List.map_cons,List.pairwise_cons]
  refine ⟨fun y hy => ?_,sorted_map (fun e he => hf e (by simp [he])) h.2⟩
  obtain ⟨z,hz,rfl⟩:=List.mem_map.1 hy
  rw [hf x (by simp),hf z (by simp [hz])]
  exact h.1 z hz
theorem AllE.map {rs:List Rg} {bk bk':List Bk} {cl cl':Int} {cs:List Co} {m m':List Ed} (hr:Kc.rightC cs = true) (h:AllE rs bk cl cs m) (h':AllE rs bk' cl' cs m'):m' = m.map (reE rs bk' cl' cs):=by
 have key:∀ e ∈ m,∃ c ∈ cs,edgeF rs bk c cl = some e:=fun e he => (h.mem e).1 he
 refine sorted_ext h'.sorted (sorted_map (fun e he => ?_) h.sorted) fun x => ?_
 ·obtain ⟨c,hc,h1⟩:=key e he
  exact (reE_of hr hc h1).2
 ·rw [h'.mem,List.mem_map]
  constructor
  ·rintro ⟨c,hc,hx⟩
   obtain ⟨e,he⟩:=Option.isSome_iff_exists.1 (show (edgeF rs bk c cl).isSome = true by rw [edgeF_isSome (Kc.right_ok hr c hc),← edgeF_isSome (bk:=bk') (cl:=cl') (Kc.right_ok hr c hc),hx]; rfl)
   refine ⟨e,(h.mem e).2 ⟨c,hc,he⟩,?_⟩
   have:=(reE_of (bk':=bk') (cl':=cl') hr hc he).1
   rw [hx] at this
   exact (Option.some.inj this).symm
  ·rintro ⟨e,he,rfl⟩
   obtain ⟨c,hc,h1⟩:=key e he
   exact ⟨c,hc,(reE_of hr hc h1).1⟩
theorem owltF_ok {rs:List Rg} (h:Kr.rightB rs = true) {cf ct cs ce o:Int} (ho:owltF rs cf ct cs ce = some o):0 ≤ o ∧ o ≤ 2147483647:=by
 unfold owltF at ho
 rw [Option.map_eq_some_iff] at ho
 obtain ⟨x,hx,rfl⟩:=ho
 have hm:=List.mem_of_find?_eq_some hx
 have:=Kr.right_ok h x hm
 have h2:=rangeB_spec.1 this
 omega
theorem all_ok {rs:List Rg} {bk:List Bk} {cl:Int} {cs:List Co} {m:List Ed} (hr:Kc.rightC cs = true) (hg:Kr.rightB rs = true) (hb:Kb.rightB bk = true) (h:AllE rs bk cl cs m) {i:Nat} (hi:i < m.length) :
  ∃ c,Kc.idIn cs (gEd m i).id = true ∧ Kc.foundC cs (gEd m i).id = c ∧ (gEd m i).ok = true ∧ c.fr = (gEd m i).fr ∧ c.tn = (gEd m i).tn ∧ c.en = (gEd m i).en ∧ c.rt = (gEd m i).ra ∧ c.st ≤ (gEd m i).op ∧ (∀ p,i = p + 1 → (gEd m p).id < (gEd m i).id):=by
 obtain ⟨c,hc,he,hid,h1,h2⟩:=h.at_ hr hi
 have hok:=Kc.right_ok hr c hc
 obtain ⟨_,o,ho,g0⟩:=edgeF_some he
 have hcb:contactB c.id c.fr c.tn c.st c.en c.rt = true:=hok
 obtain ⟨⟨i1,i2⟩,w1,w2,w3,j1,j2,j3,k1',k2'⟩:=contactB_spec.1 hcb
 have hoo:=owltF_ok hg ho
 have hu:=Kb.right_ok hb c.id
 have k0:=Kb.backF_ok hu cl
 have q2:=cdiv_bounds k0.1 k1'
 have v:=Kb.volC_ok (ctOf c)
 have hro:0 ≤ Kb.roomF (ctOf c) (Kb.rowB bk c.id) cl ∧ Kb.roomF (ctOf c) (Kb.rowB bk c.id) cl ≤ 4611686018427387904:=by
  unfold Kb.roomF
  split <;> omega
 refine ⟨c,h1,h2,?_,by rw [g0],by rw [g0],by rw [g0],by rw [g0],by rw [g0]; show c.st ≤ min _ _; omega,fun p hp => ?_⟩
 ·rw [g0,Ed.ok_spec]
  refine ⟨⟨i1,i2⟩,w1,w2,w3,⟨?_,?_⟩,⟨by show 1 ≤ c.en; omega,by show c.en ≤ 2147483647; omega⟩,⟨k1',k2'⟩,hoo,hro⟩
  ·show 0 ≤ min _ _
   omega
  ·show min _ _ ≤ _
   omega
 ·have:=(List.pairwise_iff_getElem.1 h.sorted) p i (by omega) hi (by omega)
  rw [gEd_eq (by omega),gEd_eq hi]
  exact this
end Go.Proofs.YtodcoockhkghdaaGreat.Kv
namespace Go.Proofs.YtodcoockhkghdaaGreat
open Go.ChangeShapes Go.WideShapes Go.ChangeAt Go.RowKit Go.Sort Kv
set_option linter.unusedSimpArgs false
set_option linter.unusedVariables false
def insEd (x:Ed):List Ed → List Ed
 | [] => [x]
 | y :: r => if x.id ≤ y.id then x :: y :: r else y :: insEd x r
theorem insEd_perm (x:Ed):∀ (l:List Ed),(insEd x l).Perm (x :: l)
 | [] => List.Perm.refl _
 | y :: r => by
  rw [insEd]
  split
  ·exact List.Perm.refl _
  ·exact ((insEd_perm x r).cons y).trans (List.Perm.swap x y r)
theorem insEd_le {x:Ed}:∀ {l:List Ed},l.Pairwise (fun a b => a.id ≤ b.id) → (insEd x l).Pairwise (fun a b => a.id ≤ b.id)
 | [],_ => List.pairwise_singleton ..
 | y :: r,h => by
  obtain ⟨h1,h2⟩:=List.pairwise_cons.1 h
  rw [insEd]
  split
  ·rename_i hx
   refine List.pairwise_cons.2 ⟨fun z hz => ?_,h⟩
   rcases List.mem_cons.1 hz with rfl | hz
   ·exact hx
   ·exact Int.le_trans hx (h1 z hz)
  ·rename_i hx
   refine List.pairwise_cons.2 ⟨fun z hz => ?_,insEd_le h2⟩
   rcases List.mem_cons.1 ((insEd_perm x r).mem_iff.1 hz) with rfl | hz
   ·omega
   ·exact h1 z hz
def edgesX (rs:List Rg) (bk:List Bk) (cl:Int) (cs:List Co):List Ed:=(allL rs bk cl cs).foldr insEd []
theorem foldr_perm:∀ (l:List Ed),(l.foldr insEd []).Perm l
 | [] => List.Perm.refl _
 | x :: r => (insEd_perm x _).trans ((foldr_perm r).cons x)
theorem foldr_le:∀ (l:List Ed),(l.foldr insEd []).Pairwise (fun a b => a.id ≤ b.id)
 | [] => List.Pairwise.nil
 | x :: r => insEd_le (foldr_le r)
theorem edgesX_all {rs:List Rg} {bk:List Bk} {cl:Int} {cs:List Co} (hr:Kc.rightC cs = true):AllE rs bk cl cs (edgesX rs bk cl cs):=
 allE_of hr (foldr_perm _) fun i j hij hj => by
  rw [gEd_eq (by omega),gEd_eq hj]
  exact List.pairwise_iff_getElem.1 (foldr_le (allL rs bk cl cs)) i j _ hj hij
theorem edgesX_len (rs:List Rg) (bk:List Bk) (cl:Int) (cs:List Co):(edgesX rs bk cl cs).length ≤ cs.length:=by
 unfold edgesX
 rw [(foldr_perm _).length_eq]
 exact List.length_filterMap_le _ _
theorem vallX_of (HSORT:SortEdC) (A1:Option Addr) (n1 c1:Nat) (cs:List Co) (A:Option Addr) (n c:Nat) (rs:List Rg) (clk ver:Int) (A2:Option Addr) (n2 c2:Nat) (bk:List Bk) (cl:Int) (w:World) (hd1:cs.length = n1) (hn1:n1 ≤ 1000000) (hd:rs.length = n) (hn:n ≤ 1000000) (hd2:bk.length = n2) (hn2:n2 ≤ 1000000) (h1:Sl w w.heap.size 6 A1 n1 c1 (flatCo cs)) (h:Sl w w.heap.size 5 A n c (flatRg rs)) (h2:Sl w w.heap.size 4 A2 n2 c2 (flatBk bk)) (hc:Kc.rightC cs = true) (hr:Kr.rightB rs = true) (hr2:Kb.rightB bk = true) :
  Calls Tryz.prog 20 #[.agg #[.slice A1 n1 c1,.slice A n c,.int .i64 clk,.int .i64 ver],.slice A2 n2 c2,.int .i64 cl] w fun e w' => ∃ v,e = .returned v ∧ w'.ownsRow w.heap.size 86 8 v (edgesX rs bk cl cs).length (flatEd (edgesX rs bk cl cs)) ∧ Below w.heap.size w w':=by
 refine (vall_of HSORT A1 n1 c1 cs A n c rs clk ver A2 n2 c2 bk cl w hd1 hn1 hd hn hd2 hn2 h1 h h2 hr hr2).mono ?_
 rintro e w' ⟨v,m,rfl,hp,hs,hown,hb⟩
 rw [(allE_of hc hp hs).one (edgesX_all hc)] at hown
 exact ⟨v,rfl,hown,hb⟩
set_option maxHeartbeats 4000000 in
set_option maxRecDepth 100000 in
theorem vbareX_of (HSORT:SortEdC) (A1:Option Addr) (n1 c1:Nat) (cs:List Co) (A:Option Addr) (n c:Nat) (rs:List Rg) (clk ver:Int) (w:World) (hd1:cs.length = n1) (hn1:n1 ≤ 1000000) (hd:rs.length = n) (hn:n ≤ 1000000) (h1:Sl w w.heap.size 6 A1 n1 c1 (flatCo cs)) (h:Sl w w.heap.size 5 A n c (flatRg rs)) (hc:Kc.rightC cs = true) (hr:Kr.rightB rs = true) :
  Calls Tryz.prog 40 #[.agg #[.slice A1 n1 c1,.slice A n c,.int .i64 clk,.int .i64 ver]] w fun e w' => ∃ v,e = .returned v ∧ w'.ownsRow w.heap.size 86 8 v (edgesX rs [] 0 cs).length (flatEd (edgesX rs [] 0 cs)) ∧ Below w.heap.size w w':=by
 have hB:Below w.heap.size w (w.alloc (.cells #[.slice A1 n1 c1,.slice A n c,.int .i64 clk,.int .i64 ver] 25)):=by (repeat (first | exact Below.refl _ _ | refine Below.alloc ?_ (by first | omega | (simp; done) | (simp; omega)) _ | refine Below.setCell ?_ (by first | omega | (simp; done) | (simp; omega)) _ | refine Below.drew ?_))
 have HV:=Lib.hid (fun w2 (hB:Below w.heap.size w w2) => vallX_of HSORT A1 n1 c1 cs A n c rs clk ver none 0 0 [] 0 w2 hd1 hn1 hd hn rfl (by omega) (h1.up hB) (h.up hB) (Sl.nil0 _ _ _) hc hr (by decide +kernel))
 clear hd hd1 hc hr h h1
 go_enter Tryz.func40,Tryz.ntmps40
 go_wp2_with fail
 refine (HV.out _ hB).mono ?_
 rintro e w2 ⟨v,rfl,hown,hb⟩
 go_wp2_with fail
 go_ret
 exact ⟨v,rfl,Kv.own_base hown hB.size,hB.trans (hb.mono hB.size)⟩
end Go.Proofs.YtodcoockhkghdaaGreat
namespace Go.Proofs.YtodcoockhkghdaaGreat
open Go.ChangeShapes Go.WideShapes Go.ChangeAt Go.RowKit Go.Sort Go.Maps Hp Kv
set_option linter.unusedSimpArgs false
set_option linter.unusedVariables false
def baseC20:List Co:=[⟨1,1,2,10,20,3⟩,⟨3,1,3,40,50,9⟩,⟨2,2,3,5,30,2⟩]
def baseR20:List Rg:=[⟨1,2,0,90,4⟩,⟨1,3,0,90,0⟩,⟨2,3,0,90,1⟩]
def bk20:List Bk:=[⟨1,0,0,24⟩]
set_option maxHeartbeats 2000000 in
set_option maxRecDepth 100000 in
theorem base20_any (w:World) :
  Calls Tryz.prog 28 #[] w fun e w' => ∃ A1 A,e = .returned (.agg #[.slice (some A1) 3 3,.slice (some A) 3 3,.int .i64 2,.int .i64 6]) ∧ w'.ownsRow (w.heap.size + 1) 59 6 (.slice (some A1) 3 3) 3 (flatCo baseC20) ∧ w'.ownsRow (w.heap.size + 1) 100 5 (.slice (some A) 3 3) 3 (flatRg baseR20) ∧ Below w.heap.size w w':=by
 have hX:=Blok.new w 25 #[.slice none 0 0,.slice none 0 0,.int .i64 0,.int .i64 0]
 have hB:Below w.heap.size w (w.alloc (.cells #[.slice none 0 0,.slice none 0 0,.int .i64 0,.int .i64 0] 25)):=by (repeat (first | exact Below.refl _ _ | refine Below.alloc ?_ (by first | omega | (simp; done) | (simp; omega)) _ | refine Below.setCell ?_ (by first | omega | (simp; done) | (simp; omega)) _ | refine Below.drew ?_))
 have hs:=hB.size
 have hsz:(w.alloc (.cells #[.slice none 0 0,.slice none 0 0,.int .i64 0,.int .i64 0] 25)).heap.size = w.heap.size + 1:=by simp
 go_enter Tryz.func28,Tryz.ntmps28
 go_upto_region 1 with fail
 generalize w.alloc (.cells #[.slice none 0 0,.slice none 0 0,.int .i64 0,.int .i64 0] 25) = w0 at *
 have r0:w0.cell? ⟨w.heap.size,0,none⟩ = some (.slice none 0 0):=hX.cell 0
 have f_0:=hX.free 0
 have r1:w0.cell? ⟨w.heap.size,1,none⟩ = some (.slice none 0 0):=hX.cell 1
 have f_1:=hX.free 1
 have r2:w0.cell? ⟨w.heap.size,2,none⟩ = some (.int .i64 0):=hX.cell 2
 have f_2:=hX.free 2
 have r3:w0.cell? ⟨w.heap.size,3,none⟩ = some (.int .i64 0):=hX.cell 3
 have f_3:=hX.free 3
 have lt_x:=hX.lt
 have HX:=Lib.hid hX
 clear hX
 go_wp2_with fail
 have hX:=HX.out
 clear r0 r1 r2 r3
 have hF4:((((w0.setCell ⟨w.heap.size,0,none⟩ (.slice (some ⟨w.heap.size + 1,0,none⟩) 3 3)).setCell ⟨w.heap.size,1,none⟩ (.slice (some ⟨w.heap.size + 1 + 1,0,none⟩) 3 3)).setCell ⟨w.heap.size,2,none⟩ (.int .i64 2)).setCell ⟨w.heap.size,3,none⟩ (.int .i64 6)).heap.size = w.heap.size + 1:=by simp [hsz]
 obtain ⟨hF,hWf,hgw⟩:=ret4 (show Blok _ _ _ #[_,_,_,_] from hX) hB (show w.heap.size ≤ w.heap.size by first | exact Nat.le_refl _ | omega) (.slice (some ⟨w.heap.size + 1,0,none⟩) 3 3) (.slice (some ⟨w.heap.size + 1 + 1,0,none⟩) 3 3) (.int .i64 2) (.int .i64 6)
 have hlF:=hF.lt
 generalize (((w0.setCell ⟨w.heap.size,0,none⟩ (.slice (some ⟨w.heap.size + 1,0,none⟩) 3 3)).setCell ⟨w.heap.size,1,none⟩ (.slice (some ⟨w.heap.size + 1 + 1,0,none⟩) 3 3)).setCell ⟨w.heap.size,2,none⟩ (.int .i64 2)).setCell ⟨w.heap.size,3,none⟩ (.int .i64 6) = wf at *
 obtain ⟨r0,r1,r2,r3,_⟩:=blok4 hF
 refine bodyPost_ret (v:=.agg #[.slice (some ⟨w.heap.size + 1,0,none⟩) 3 3,.slice (some ⟨w.heap.size + 1 + 1,0,none⟩) 3 3,.int .i64 2,.int .i64 6]) (by simp [results,Tryz.results28,go_sem,r0,r1,r2,r3,hlF]) rfl ?_
 have h1:=own_lit wf (w.heap.size + 1) 59 6 3 #[.int .i64 1,.int .i64 1,.int .i64 2,.int .i64 10,.int .i64 20,.int .i64 3,.int .i64 3,.int .i64 1,.int .i64 3,.int .i64 40,.int .i64 50,.int .i64 9,.int .i64 2,.int .i64 2,.int .i64 3,.int .i64 5,.int .i64 30,.int .i64 2] (by omega) rfl (by simp [maxLen])
 have h2:=own_lit (wf.alloc (.cells #[.int .i64 1,.int .i64 1,.int .i64 2,.int .i64 10,.int .i64 20,.int .i64 3,.int .i64 3,.int .i64 1,.int .i64 3,.int .i64 40,.int .i64 50,.int .i64 9,.int .i64 2,.int .i64 2,.int .i64 3,.int .i64 5,.int .i64 30,.int .i64 2] 59)) (w.heap.size + 1) 100 5 3 #[.int .i64 1,.int .i64 2,.int .i64 0,.int .i64 90,.int .i64 4,.int .i64 1,.int .i64 3,.int .i64 0,.int .i64 90,.int .i64 0,.int .i64 2,.int .i64 3,.int .i64 0,.int .i64 90,.int .i64 1] (by simp; omega) rfl (by simp [maxLen])
 replace h1:=h1.alloc (.cells #[.int .i64 1,.int .i64 2,.int .i64 0,.int .i64 90,.int .i64 4,.int .i64 1,.int .i64 3,.int .i64 0,.int .i64 90,.int .i64 0,.int .i64 2,.int .i64 3,.int .i64 0,.int .i64 90,.int .i64 1] 100)
 rw [hF4] at h1
 rw [World.size_alloc,hF4] at h2
 have hB9:=(hWf.alloc (by omega) (.cells #[.int .i64 1,.int .i64 1,.int .i64 2,.int .i64 10,.int .i64 20,.int .i64 3,.int .i64 3,.int .i64 1,.int .i64 3,.int .i64 40,.int .i64 50,.int .i64 9,.int .i64 2,.int .i64 2,.int .i64 3,.int .i64 5,.int .i64 30,.int .i64 2] 59)).alloc (by simp; omega) (.cells #[.int .i64 1,.int .i64 2,.int .i64 0,.int .i64 90,.int .i64 4,.int .i64 1,.int .i64 3,.int .i64 0,.int .i64 90,.int .i64 0,.int .i64 2,.int .i64 3,.int .i64 0,.int .i64 90,.int .i64 1] 100)
 exact ⟨_,_,rfl,h1,h2,hB9⟩
theorem c20_right:Kc.rightC baseC20 = true:=by decide +kernel
theorem r20_right:Kr.rightB baseR20 = true:=by decide +kernel
theorem b20_right:Kb.rightB bk20 = true:=by decide +kernel
def ed20a:List Ed:=[⟨1,1,2,10,20,3,4,30⟩,⟨2,2,3,5,30,2,1,50⟩,⟨3,1,3,40,50,9,0,90⟩]
def ed20b:List Ed:=[⟨1,1,2,18,20,3,4,6⟩,⟨2,2,3,5,30,2,1,50⟩,⟨3,1,3,40,50,9,0,90⟩]
theorem e20_a:edgesX baseR20 [] 1 baseC20 = ed20a:=by decide +kernel
theorem e20_b:edgesX baseR20 bk20 1 baseC20 = ed20b:=by decide +kernel
theorem e20_c:edgesX baseR20 [] 0 baseC20 = ed20a:=by decide +kernel
theorem x20_a:bestX (edgesX baseR20 [] 1 baseC20) 1 3 2 7 90 [] = some ([⟨1,10,17⟩,⟨2,17,22⟩],22):=by rw [e20_a]; decide +kernel
theorem x20_c:bestX (edgesX baseR20 bk20 1 baseC20) 1 3 2 7 90 [] = some ([⟨3,40,41⟩],41):=by rw [e20_b]; decide +kernel
theorem x20_h:bestX (edgesX baseR20 [] 1 baseC20) 1 3 2 7 21 [] = none:=by rw [e20_a]; decide +kernel
theorem x20_d:bestX (edgesX baseR20 [] 0 baseC20) 2 2 2 0 0 [] = none:=by rw [e20_c]; decide +kernel
theorem x20_o:bestX (edgesX baseR20 [] 0 baseC20) 2 2 2 0 2 [] = some ([],2):=by rw [e20_c]; decide +kernel
theorem m20:(allR (edgesX baseR20 [] 0 baseC20) 1 3 2 0 1099511627776).take (8:Int).toNat = [([⟨1,10,14⟩,⟨2,14,15⟩],15),([⟨3,40,40⟩],40)]:=by rw [e20_c]; decide +kernel
theorem f20_a:routeE (edgesX baseR20 [] 1 baseC20) [1,2] 1 3 2 7 = some ([⟨1,10,17⟩,⟨2,17,22⟩],22):=by rw [e20_a]; decide +kernel
theorem f20_b:routeE (edgesX baseR20 bk20 1 baseC20) [1,2] 1 3 2 7 = none:=by rw [e20_b]; decide +kernel
end Go.Proofs.YtodcoockhkghdaaGreat
namespace Go.Proofs.YtodcoockhkghdaaGreat
open Go.ChangeShapes Go.WideShapes Go.ChangeAt Go.RowKit Go.Sort Go.Maps Hp
set_option linter.unusedSimpArgs false
set_option linter.unusedVariables false
section
variable {l:List Ed} {f q now size by_ by2:Int} {sh:List Int}
theorem bestX_of {es:List Ed} {a:Int} (ha:askE l f now size = true) (hB:Best1 l f q now size by_ sh es a):bestX l f q now size by_ sh = some (hopsE size now es,a):=by
 cases ho:bestX l f q now size by_ sh with
 | none => have:=bestX_none ho ha hB.rte; have:=hB.le; omega
 | some p =>
  obtain ⟨_,es',h1,h2⟩:=bestX_some ho
  obtain ⟨e1,e2⟩:=h2.one (askE_spec.1 ha).2.2.2 hB
  rw [← e1,← e2,← h1]
end
end Go.Proofs.YtodcoockhkghdaaGreat
namespace Go.Proofs.YtodcoockhkghdaaGreat
open Go.ChangeShapes Go.WideShapes Go.ChangeAt Go.RowKit Go.Sort Go.Maps Hp Kv
set_option linter.unusedSimpArgs false
set_option linter.unusedVariables false
theorem edges_right {rs:List Rg} {bk:List Bk} {cl:Int} {cs:List Co} (hr:Kc.rightC cs = true) (hg:Kr.rightB rs = true) (hb:Kb.rightB bk = true):Go.Proofs.YtodcoockhkghdaaGreat.rightE (edgesX rs bk cl cs) = true:=by
 have ha:=edgesX_all (rs:=rs) (bk:=bk) (cl:=cl) hr
 have hlt:∀ i j (hi:i < (edgesX rs bk cl cs).length) (hj:j < (edgesX rs bk cl cs).length),i < j → ((edgesX rs bk cl cs)[i]).id < ((edgesX rs bk cl cs)[j]).id:=by
  intro i j hi hj hij
  obtain ⟨d,rfl⟩:∃ d,j = i + 1 + d:=⟨j - i - 1,by omega⟩
  clear hij
  induction d with
  | zero =>
   obtain ⟨_,_,_,_,_,_,_,_,_,h⟩:=all_ok hr hg hb ha hj
   have h2:=h i rfl
   rw [gEd_eq hj,gEd_eq hi] at h2
   exact h2
  | succ d ih =>
   have hj':i + 1 + d < (edgesX rs bk cl cs).length:=by omega
   obtain ⟨_,_,_,_,_,_,_,_,_,h⟩:=all_ok hr hg hb ha hj
   have h2:=h (i + 1 + d) rfl
   rw [gEd_eq hj,gEd_eq hj'] at h2
   exact Int.lt_trans (ih hj') h2
 refine rightE_iff.2 ⟨fun e he => ?_,List.pairwise_iff_getElem.2 fun i j hi hj hij => hlt i j hi hj hij⟩
 obtain ⟨i,hi,e2⟩:=List.getElem_of_mem he
 obtain ⟨_,_,_,h3,_⟩:=all_ok hr hg hb ha hi
 rw [gEd_eq hi,e2] at h3
 exact h3
theorem edges_ask {rs:List Rg} {bk:List Bk} {cl cl':Int} {cs:List Co} {clk ver fr tn si de:Int} (hp:RightP cs rs clk ver) (hb:Kb.rightB bk = true) (hok:bundleB fr tn si cl' de = true):askE (edgesX rs bk cl cs) fr clk si = true:=by
 obtain ⟨h1,_,h3,_,_⟩:=bundleB_spec.1 hok
 exact askE_spec.2 ⟨h1,⟨hp.c0,by have:=hp.c1; omega⟩,h3,edges_right hp.co hp.rg hb⟩
end Go.Proofs.YtodcoockhkghdaaGreat
namespace Go.Proofs.YtodcoockhkghdaaGreat
open Go.ChangeShapes Go.WideShapes Go.ChangeAt Go.RowKit Go.Sort Go.Maps Hp
set_option linter.unusedSimpArgs false
set_option linter.unusedVariables false
structure Wid (e e':Ed):Prop where
 ok:e'.ok = true
 id:e'.id = e.id
 fr:e'.fr = e.fr
 tn:e'.tn = e.tn
 op:e'.op ≤ e.op
 en:e'.en = e.en
 ra:e'.ra = e.ra
 ow:e'.ow = e.ow
 ro:e.ro ≤ e'.ro
theorem pass_wid {e e':Ed} {t t' size s a:Int} (hw:Wid e e') (h0:0 ≤ t') (h1:t' ≤ t) (h:e.pass t size = some (s,a)):∃ s' a',e'.pass t' size = some (s',a') ∧ a' ≤ a ∧ 0 ≤ a':=by
 obtain ⟨g1,g2,g3,g4,rfl,rfl⟩:=pass_iff.1 h
 have g:=Ed.asks_spec.1 g1
 have k:=Ed.ok_spec.1 hw.ok
 obtain ⟨c1,_,_,_,_⟩:=cdiv_bounds g.2.2.1 k.2.2.2.2.2.2.1.1
 have hop:=hw.op
 have hro:=hw.ro
 have hra:=hw.ra
 have hen:=hw.en
 have how:=hw.ow
 have hk1:=k.2.2.2.2.1.1
 have hk2:=k.2.2.2.2.2.2.2.1.1
 rw [hra] at c1
 refine ⟨_,_,pass_iff.2 ⟨Ed.asks_spec.2 ⟨hw.ok,⟨h0,by have:=g.2.1.2; omega⟩,g.2.2⟩,by omega,?_,?_,rfl,rfl⟩,?_,?_⟩
 ·rw [hen]; omega
 ·rw [hen,hra]; omega
 ·rw [hra,how]; omega
 ·rw [hra]; omega
theorem runE_wid {size:Int} {no:Int → Bool} {g:Ed → Ed}:∀ {es:List Ed} {n t t' m u:Int},(∀ e ∈ es,Wid e (g e)) → 0 ≤ t' → t' ≤ t → runE size no n t es = some (m,u) → ∃ u',runE size no n t' (es.map g) = some (m,u') ∧ u' ≤ u
 | [],n,t,t',m,u,_,h0,h1,h => by
  injection h with h; injection h with e1 e2
  subst e1 e2
  exact ⟨t',rfl,h1⟩
 | e :: r,n,t,t',m,u,hw,h0,h1,h => by
  obtain ⟨s,a,hf,hn,hp,hr⟩:=runE_cons h
  have he:=hw e (List.mem_cons_self ..)
  obtain ⟨s',a',hp',hle,h2⟩:=pass_wid he h0 h1 hp
  obtain ⟨u',hr',hu⟩:=runE_wid (fun x hx => hw x (List.mem_cons_of_mem _ hx)) h2 hle hr
  refine ⟨u',?_,hu⟩
  rw [List.map_cons,runE_step (by rw [he.fr,hf]) (by rw [he.tn,hn]) hp',he.tn]
  exact hr'
section
variable {l l':List Ed} {f q now size by_:Int} {sh:List Int} {g:Ed → Ed}
theorem rte_wid {es:List Ed} {u:Int} (hg:∀ e ∈ l,g e ∈ l' ∧ Wid e (g e)) (h0:0 ≤ now) (h:IsRte l f q now size sh es u):∃ u',IsRte l' f q now size sh (es.map g) u' ∧ u' ≤ u:=by
 have hw:∀ e ∈ es,Wid e (g e):=fun e he => (hg e (h.mem e he)).2
 obtain ⟨u',hr,hle⟩:=runE_wid hw h0 (Int.le_refl _) h.run
 have htn:(es.map g).map Ed.tn = es.map Ed.tn:=by
  rw [List.map_map]
  exact List.map_congr_left fun e he => (hw e he).tn
 refine ⟨u',⟨fun e he => ?_,?_,?_,hr⟩,hle⟩
 ·obtain ⟨x,hx,rfl⟩:=List.mem_map.1 he
  exact (hg x (h.mem x hx)).1
 ·have hnd:=h.nd
  unfold nodesE at hnd ⊢
  rw [htn]; exact hnd
 ·rw [htn]; exact h.no
end
end Go.Proofs.YtodcoockhkghdaaGreat
namespace Go.Proofs.YtodcoockhkghdaaGreat
open Go.ChangeShapes Go.WideShapes Go.ChangeAt Go.RowKit Go.Sort Go.Maps Hp
set_option linter.unusedSimpArgs false
set_option linter.unusedVariables false
theorem else_math {l l':List Ed} {f q now size by_ k:Int} {sh:List Int} {g:Ed → Ed} {p:List Hp × Int} (hg:∀ e ∈ l',g e ∈ l ∧ Wid e (g e)) (h0:0 ≤ now) (ha:askE l' f now size = true) (hsame:∀ e ∈ l,e.id ≠ k → e ∈ l') (h:bestX l f q now size by_ sh = some p) (hk:k ∉ p.1.map Hp.id):bestX l' f q now size by_ sh = some p:=by
 obtain ⟨_,es,e1,hB⟩:=bestX_some h
 have hes:∀ e ∈ es,e ∈ l':=fun e he => hsame e (hB.rte.mem e he) (fun hc => hk (by rw [e1,hopsE_ids]; exact List.mem_map.2 ⟨e,he,hc⟩))
 have hB2:Best1 l' f q now size by_ sh es p.2:=by
  refine ⟨⟨hes,hB.rte.nd,hB.rte.no,hB.rte.run⟩,hB.le,fun es' u' hr hu => ?_⟩
  obtain ⟨u2,hr2,hle⟩:=rte_wid hg h0 hr
  have h1:=hB.min _ u2 hr2 (Int.le_trans hle hu)
  refine cmpL_trans h1 ?_
  have hid:(es'.map g).map Ed.id = es'.map Ed.id:=by
   rw [List.map_map]
   exact List.map_congr_left fun e he => (hg e (hr.mem e he)).2.id
  unfold keyE
  rw [hid,List.length_map]
  rcases Int.lt_or_le u2 u' with h2 | h2
  ·exact Int.le_of_lt (cmp_first h2)
  ·obtain rfl:u2 = u':=by omega
   rw [cmpL_self]
   exact Int.le_refl _
 rw [bestX_of ha hB2,← e1]
end Go.Proofs.YtodcoockhkghdaaGreat
namespace Go.Proofs.YtodcoockhkghdaaGreat
open Go.ChangeShapes Go.WideShapes Go.ChangeAt Go.RowKit Go.Sort Go.Maps Hp Kv
set_option linter.unusedSimpArgs false
set_option linter.unusedVariables false
theorem back_bump {x:Bk} {cl' sz:Int} (hx:Kb.okU x) (hs:0 ≤ sz) (hc:inB cl' 0 2 = true) (cl:Int):Kb.backF x cl ≤ Kb.backF (Kb.bump x cl' sz) cl:=by
 obtain ⟨a0,a1,b0,b1,c0,c1⟩:=hx
 have h3:cl' = 0 ∨ cl' = 1 ∨ cl' = 2:=Kb.class_cases hc
 unfold Kb.backF Kb.capAdd
 rcases h3 with rfl | rfl | rfl
 ·have e:Kb.bump x 0 sz = ⟨x.id,x.ua + sz,x.ub,x.uc⟩:=by unfold Kb.bump; rw [if_pos rfl]
  rw [e]
  dsimp only
  split
  ·omega
  ·split
   ·omega
   ·split <;> omega
 ·have e:Kb.bump x 1 sz = ⟨x.id,x.ua,x.ub + sz,x.uc⟩:=by unfold Kb.bump; rw [if_neg (by omega),if_pos rfl]
  rw [e]
  dsimp only
  split
  ·omega
  ·split
   ·omega
   ·split <;> omega
 ·have e:Kb.bump x 2 sz = ⟨x.id,x.ua,x.ub,x.uc + sz⟩:=by unfold Kb.bump; rw [if_neg (by omega),if_neg (by omega)]
  rw [e]
  dsimp only
  split
  ·omega
  ·split
   ·omega
   ·split <;> omega
theorem book_back {bk:List Bk} {c:Kb.Ct} {cl' sz:Int} (hb:Kb.rightB bk = true) (j cl:Int):Kb.backF (Kb.rowB bk j) cl ≤ Kb.backF (Kb.rowB (Kb.bookL bk c cl' sz) j) cl:=by
 rw [Kb.book_row hb j]
 by_cases h:Kb.bookB bk c cl' sz = true ∧ j = c.id
 ·rw [if_pos h]
  obtain ⟨h1,rfl⟩:=h
  obtain ⟨_,h2,h3,_⟩:=Kb.book_facts hb h1
  exact back_bump (Kb.right_ok hb _) h3 h2 cl
 ·rw [if_neg h]
  exact Int.le_refl _
theorem edgeF_row {rs:List Rg} {bk bk':List Bk} {c:Co} {cl:Int} (h:Kb.rowB bk' c.id = Kb.rowB bk c.id):edgeF rs bk' c cl = edgeF rs bk c cl:=by
 unfold edgeF
 rw [h]
theorem edges_book {rs:List Rg} {bk:List Bk} {cl:Int} {cs:List Co} {c0:Kb.Ct} {cl' sz:Int} (hr:Kc.rightC cs = true) (hg:Kr.rightB rs = true) (hb:Kb.rightB bk = true) (hcl:inB cl 0 2 = true):∀ e ∈ edgesX rs (Kb.bookL bk c0 cl' sz) cl cs,reE rs bk cl cs e ∈ edgesX rs bk cl cs ∧ Wid e (reE rs bk cl cs e):=fun e hm => by
 have hb2:Kb.rightB (Kb.bookL bk c0 cl' sz) = true:=Kb.book_right hb
 have ha:=edgesX_all (rs:=rs) (bk:=Kb.bookL bk c0 cl' sz) (cl:=cl) hr
 have hbb:=edgesX_all (rs:=rs) (bk:=bk) (cl:=cl) hr
 obtain ⟨c,hc,he⟩:=(ha.mem e).1 hm
 obtain ⟨f1,_⟩:=reE_of (bk':=bk) (cl':=cl) hr hc he
 have hmem:=(hbb.mem _).2 ⟨c,hc,f1⟩
 refine ⟨hmem,?_⟩
 have hokE:(reE rs bk cl cs e).ok = true:=by
  obtain ⟨i,hi,e2⟩:=List.getElem_of_mem hmem
  obtain ⟨_,_,_,h3,_⟩:=all_ok hr hg hb hbb hi
  rw [gEd_eq hi,e2] at h3
  exact h3
 obtain ⟨_,o,ho,g0⟩:=edgeF_some he
 obtain ⟨_,o',ho',g1⟩:=edgeF_some f1
 rw [ho] at ho'
 injection ho' with ho'
 subst ho'
 have hok:=Kc.right_ok hr c hc
 have hu:=Kb.right_ok hb c.id
 have hmn:=book_back (c:=c0) (cl':=cl') (sz:=sz) hb c.id cl
 have k1:=Kb.backF_ok hu cl
 have hcb:contactB c.id c.fr c.tn c.st c.en c.rt = true:=hok
 obtain ⟨_,_,_,_,j1,j2,j3,k1',k2'⟩:=contactB_spec.1 hcb
 have q1:=cdiv_le k1.1 hmn k1'
 refine ⟨hokE,?_,?_,?_,?_,?_,?_,?_,?_⟩
 all_goals rw [g1,g0]
 ·show min _ _ ≤ min _ _
  omega
 ·show Kb.roomF _ _ _ ≤ Kb.roomF _ _ _
  unfold Kb.roomF
  rw [if_pos hcl,if_pos hcl]
  omega
theorem edges_others {rs:List Rg} {bk:List Bk} {cl:Int} {cs:List Co} {c0:Kb.Ct} {cl' sz:Int} (hr:Kc.rightC cs = true) (hb:Kb.rightB bk = true):∀ e ∈ edgesX rs bk cl cs,e.id ≠ c0.id → e ∈ edgesX rs (Kb.bookL bk c0 cl' sz) cl cs:=fun e hm hne => by
 have ha:=edgesX_all (rs:=rs) (bk:=Kb.bookL bk c0 cl' sz) (cl:=cl) hr
 have hbb:=edgesX_all (rs:=rs) (bk:=bk) (cl:=cl) hr
 obtain ⟨c,hc,he⟩:=(hbb.mem e).1 hm
 refine (ha.mem e).2 ⟨c,hc,?_⟩
 rw [edgeF_row (bk:=bk),he]
 rw [Kb.book_row hb,if_neg]
 rintro ⟨_,h⟩
 exact hne (by rw [edgeF_id he]; exact h)
theorem else_book {rs:List Rg} {bk:List Bk} {cl:Int} {cs:List Co} {c0:Kb.Ct} {cl' sz f q now size by_:Int} {p:List Hp × Int} (hr:Kc.rightC cs = true) (hg:Kr.rightB rs = true) (hb:Kb.rightB bk = true) (hcl:inB cl 0 2 = true) (h0:0 ≤ now) (ha:askE (edgesX rs (Kb.bookL bk c0 cl' sz) cl cs) f now size = true) (h:bestX (edgesX rs bk cl cs) f q now size by_ [] = some p) (hk:c0.id ∉ p.1.map Hp.id):bestX (edgesX rs (Kb.bookL bk c0 cl' sz) cl cs) f q now size by_ [] = some p:=
 else_math (edges_book hr hg hb hcl) h0 ha (edges_others hr hb) h hk
end Go.Proofs.YtodcoockhkghdaaGreat
