/- Several texts of mine in one: Contacts3, Contacts4. No condition. -/
import Derived.Test.YtjldgcebadojiaaGreatDoorContacts2
namespace Go.Proofs.YtjldgcebadojiaaGreatDoor.Kc
open Go.ChangeShapes Go.WideShapes Go.ChangeAt Go.RowKit Go.Sort
set_option linter.unusedSimpArgs false
set_option linter.unusedVariables false
set_option maxHeartbeats 1000000 in
set_option maxRecDepth 100000 in
theorem add_no (A:Option Addr) (n c:Nat) (d:List Co) (r:Co) (w:World) (q:Int) (hd:d.length = n) (hn:n ≤ 1000000) (h:Sl w w.heap.size 6 A n c (flatCo d)) (hq:mayC d r = q) (hq0:q ≠ 0) :
  Calls Tryz.prog 211 #[.slice A n c,.agg #[.int .i64 r.id,.int .i64 r.fr,.int .i64 r.tn,.int .i64 r.st,.int .i64 r.en,.int .i64 r.rt]] w fun e w' => ∃ v,e = .returned (.tuple #[v,.int .i64 q]) ∧ w'.ownsRow w.heap.size 34 6 v n (flatCo d) ∧ Below w.heap.size w w':=by
 have hBa:Below w.heap.size w (w.alloc (.cells #[.int .i64 r.id,.int .i64 r.fr,.int .i64 r.tn,.int .i64 r.st,.int .i64 r.en,.int .i64 r.rt] 34)):=by (repeat (first | exact Below.refl _ _ | refine Below.alloc ?_ (by first | omega | (simp; done) | (simp; omega)) _ | refine Below.setCell ?_ (by first | omega | (simp; done) | (simp; omega)) _ | refine Below.drew ?_))
 have hs:=h.up hBa
 have HD:=Lib.hid hd
 have HQ:=Lib.hid hq
 have hqb:(q != 0) = true:=by simpa using hq0
 have hsz:w.heap.size < (w.alloc (.cells #[.int .i64 r.id,.int .i64 r.fr,.int .i64 r.tn,.int .i64 r.st,.int .i64 r.en,.int .i64 r.rt] 34)).heap.size:=by simp
 clear h hd hq hq0
 go_enter Tryz.func211,Tryz.ntmps211
 go_wp2_with fail
 generalize w.alloc (.cells #[.int .i64 r.id,.int .i64 r.fr,.int .i64 r.tn,.int .i64 r.st,.int .i64 r.en,.int .i64 r.rt] 34) = w2 at *
 refine (HQ.out ▸ mayAdd_any A n c d r w2 HD.out hn hs).mono ?_
 rintro e w3 ⟨rfl,hb3⟩
 replace hs:=hs.up hb3
 replace hBa:=hBa.trans (hb3.mono hBa.size)
 clear hb3
 go_wp2_with fail
 refine (cloneCo A n c d w3 HD.out hn hs).mono ?_
 rintro e w4 ⟨v,rfl,hown,hb4⟩
 have hown5:=own_down (base':=w.heap.size) hown hBa.size
 replace hBa:=hBa.trans (hb4.mono hBa.size)
 clear hown hb4 hs
 obtain ⟨A5,c5,rfl⟩:=slice_of_own hown5
 go_wp2
 go_ret2
 exact ⟨_,rfl,hown5,hBa⟩
theorem concat3Co (g cO:Nat) (T:TypeId) (A0 A1 A2:Option Addr) (n0 n1 n2 c0 c1 c2:Nat) (d0 d1 d2:List Co) (w:World) (hd0:d0.length = n0) (hd1:d1.length = n1) (hd2:d2.length = n2) (hn:n0 + n1 + n2 ≤ 1000000)
  (hO:Blok w g T #[.slice A0 n0 c0,.slice A1 n1 c1,.slice A2 n2 c2]) (h0:Sl w w.heap.size 6 A0 n0 c0 (flatCo d0)) (h1:Sl w w.heap.size 6 A1 n1 c1 (flatCo d1)) (h2:Sl w w.heap.size 6 A2 n2 c2 (flatCo d2)) :
  Calls Tryz.prog 230 #[.slice (some ⟨g,0,none⟩) 3 cO] w fun e w' => ∃ v,e = .returned v ∧ w'.ownsRow w.heap.size 34 6 v (n0 + n1 + n2) (flatCo (d0 ++ d1 ++ d2)) ∧ Below w.heap.size w w':=by
 have e3:catCo (fun k => if k = 0 then d0 else if k = 1 then d1 else d2) 3 = d0 ++ d1 ++ d2:=by simp [catCo]
 have h:=concatCo g 3 cO (fun k => if k = 0 then A0 else if k = 1 then A1 else A2) (fun k => if k = 0 then n0 else if k = 1 then n1 else n2) (fun k => if k = 0 then c0 else if k = 1 then c1 else c2) (fun k => if k = 0 then d0 else if k = 1 then d1 else d2) w (by omega)
  (fun k hk => by
   have h3:k = 0 ∨ k = 1 ∨ k = 2:=by omega
   rcases h3 with rfl | rfl | rfl <;> simpa) (by rw [e3]; simp; omega)
  (fun k hk => by
   have h3:k = 0 ∨ k = 1 ∨ k = 2:=by omega
   rcases h3 with rfl | rfl | rfl <;> (rw [hO.cell]; simp))
  (fun k hk => by
   have h3:k = 0 ∨ k = 1 ∨ k = 2:=by omega
   rcases h3 with rfl | rfl | rfl <;> simpa)
 rw [e3] at h
 refine h.mono ?_
 rintro e w' ⟨v,rfl,ho,hb⟩
 have hl:(d0 ++ d1 ++ d2).length = n0 + n1 + n2:=by simp; omega
 rw [hl] at ho
 exact ⟨v,rfl,ho,hb⟩
set_option maxHeartbeats 2000000 in
set_option maxRecDepth 100000 in
theorem add_yes (A:Option Addr) (n c:Nat) (d:List Co) (r:Co) (w:World) (hd:d.length = n) (hn:n ≤ 1000000 - 1) (h:Sl w w.heap.size 6 A n c (flatCo d)) (hq:mayC d r = 0) :
  Calls Tryz.prog 211 #[.slice A n c,.agg #[.int .i64 r.id,.int .i64 r.fr,.int .i64 r.tn,.int .i64 r.st,.int .i64 r.en,.int .i64 r.rt]] w fun e w' => ∃ v i,e = .returned (.tuple #[v,.int .i64 0]) ∧ i ≤ n ∧ (i = 0 ∨ cmpC (gCo d (i - 1)) r < 0) ∧ (i = n ∨ 0 ≤ cmpC (gCo d i) r) ∧ w'.ownsRow w.heap.size 34 6 v (n + 1) (flatCo (d.take i ++ [r] ++ d.drop i)) ∧ Below w.heap.size w w':=by
 have hBa:Below w.heap.size w (w.alloc (.cells #[.int .i64 r.id,.int .i64 r.fr,.int .i64 r.tn,.int .i64 r.st,.int .i64 r.en,.int .i64 r.rt] 34)):=by (repeat (first | exact Below.refl _ _ | refine Below.alloc ?_ (by first | omega | (simp; done) | (simp; omega)) _ | refine Below.setCell ?_ (by first | omega | (simp; done) | (simp; omega)) _ | refine Below.drew ?_))
 have hX:=Blok.new w 34 #[.int .i64 r.id,.int .i64 r.fr,.int .i64 r.tn,.int .i64 r.st,.int .i64 r.en,.int .i64 r.rt]
 have hs:=h.up hBa
 have HD:=Lib.hid hd
 have HQ:=Lib.hid hq
 have hcap:=h.cap
 have hmax:=h.max
 unfold maxLen at hmax
 have hsz:w.heap.size < (w.alloc (.cells #[.int .i64 r.id,.int .i64 r.fr,.int .i64 r.tn,.int .i64 r.st,.int .i64 r.en,.int .i64 r.rt] 34)).heap.size:=by simp
 clear h hd hq
 go_enter Tryz.func211,Tryz.ntmps211
 go_wp2_with fail
 generalize w.alloc (.cells #[.int .i64 r.id,.int .i64 r.fr,.int .i64 r.tn,.int .i64 r.st,.int .i64 r.en,.int .i64 r.rt] 34) = w2 at *
 refine (HQ.out ▸ mayAdd_any A n c d r w2 HD.out (by omega) hs).mono ?_
 rintro e w3 ⟨rfl,hb3⟩
 replace hs:=hs.up hb3
 replace hX:=hX.below hb3 hX.lt
 replace hBa:=hBa.trans (hb3.mono hBa.size)
 clear hb3
 have hx0:w3.cell? ⟨w.heap.size,0,none⟩ = some (.int .i64 r.id):=hX.cell 0
 have hx1:w3.cell? ⟨w.heap.size,1,none⟩ = some (.int .i64 r.fr):=hX.cell 1
 have hx2:w3.cell? ⟨w.heap.size,2,none⟩ = some (.int .i64 r.tn):=hX.cell 2
 have hx3:w3.cell? ⟨w.heap.size,3,none⟩ = some (.int .i64 r.st):=hX.cell 3
 have hx4:w3.cell? ⟨w.heap.size,4,none⟩ = some (.int .i64 r.en):=hX.cell 4
 have hx5:w3.cell? ⟨w.heap.size,5,none⟩ = some (.int .i64 r.rt):=hX.cell 5
 go_wp2_with fail
 clear hx0 hx1 hx2 hx3 hx4 hx5
 refine (binaryCo A n c d r _ _ _ w3 HD.out (by omega) hs (cmp_contacts r w3)).mono ?_
 rintro e w4 ⟨i,b,rfl,hi,hl,hu,hbv,hb4⟩
 have HL:=Lib.hid hl
 have HU:=Lib.hid hu
 replace hs:=hs.up hb4
 replace hX:=hX.below hb4 hX.lt
 replace hBa:=hBa.trans (hb4.mono hBa.size)
 clear hb4 hl hu hbv
 have hx0:w4.cell? ⟨w.heap.size,0,none⟩ = some (.int .i64 r.id):=hX.cell 0
 have hx1:w4.cell? ⟨w.heap.size,1,none⟩ = some (.int .i64 r.fr):=hX.cell 1
 have hx2:w4.cell? ⟨w.heap.size,2,none⟩ = some (.int .i64 r.tn):=hX.cell 2
 have hx3:w4.cell? ⟨w.heap.size,3,none⟩ = some (.int .i64 r.st):=hX.cell 3
 have hx4:w4.cell? ⟨w.heap.size,4,none⟩ = some (.int .i64 r.en):=hX.cell 4
 have hx5:w4.cell? ⟨w.heap.size,5,none⟩ = some (.int .i64 r.rt):=hX.cell 5
 have hiI:(i:Int) ≤ (n:Int):=by omega
 have hic:i ≤ c:=by omega
 have hicI:(i:Int) ≤ (c:Int):=by omega
 have hs1:=hs.upto hi
 have hs2:=hs.from_ hi
 rw [flatCo_take] at hs1
 rw [flatCo_drop] at hs2
 go_wp2_with fail
 have hdl:(d.drop i).length = n - i:=by rw [List.length_drop,HD.out]
 have hdt:(d.take i).length = i:=by rw [List.length_take,HD.out]; omega
 have HDL:=Lib.hid hdl
 have HDT:=Lib.hid hdt
 clear hdl hdt hX hs
 go_region_law (refine step_call rfl 230 #[.tmp 31] _ rfl #[.slice (some ⟨w4.heap.size + 1,0,none⟩) 3 3] (by simp [Act.eval,Act.put]) Tryz.func230 rfl rfl ?_; refine Calls.mono (concat3Co (w4.heap.size + 1) 3 22 A (some ⟨w4.heap.size,0,none⟩) _ i 1 (n - i) c 1 (c - i) (d.take i) [r] (d.drop i) _ HDT.out rfl HDL.out (by omega) (by have h:=Blok.new (w4.alloc (.cells #[.int .i64 r.id,.int .i64 r.fr,.int .i64 r.tn,.int .i64 r.st,.int .i64 r.en,.int .i64 r.rt] 34)) 22 #[.slice A i c,.slice (some ⟨w4.heap.size,0,none⟩) 1 1,.slice (if c = i then A else Option.map (fun x => x.add (i * 6)) A) (n - i) (c - i)]; rw [World.size_alloc] at h; exact h) (hs1.up (by (repeat (first | exact Below.refl _ _ | refine Below.alloc ?_ (by first | omega | (simp; done) | (simp; omega)) _ | refine Below.setCell ?_ (by first | omega | (simp; done) | (simp; omega)) _ | refine Below.drew ?_)))) (by exact Sl.of_own ((own_lit w4 0 34 6 1 #[.int .i64 r.id,.int .i64 r.fr,.int .i64 r.tn,.int .i64 r.st,.int .i64 r.en,.int .i64 r.rt] (by omega) rfl (by simp [maxLen])).alloc _)) (hs2.up (by (repeat (first | exact Below.refl _ _ | refine Below.alloc ?_ (by first | omega | (simp; done) | (simp; omega)) _ | refine Below.setCell ?_ (by first | omega | (simp; done) | (simp; omega)) _ | refine Below.drew ?_))))) ?_; rintro e w5 ⟨v,rfl,hown,hb5⟩; refine ⟨_,rfl,?_⟩)
 have hfin:Below w.heap.size w w5:=(hBa.trans (Below.mono (by (repeat (first | exact Below.refl _ _ | refine Below.alloc ?_ (by first | omega | (simp; done) | (simp; omega)) _ | refine Below.setCell ?_ (by first | omega | (simp; done) | (simp; omega)) _ | refine Below.drew ?_))) hBa.size)).trans (hb5.mono (by have:=hBa.size; simp; omega))
 have hown6:=own_down (base':=w.heap.size) hown (by have:=hBa.size; simp; omega)
 rw [show i + 1 + (n - i) = n + 1 from by omega] at hown6
 clear hown hb5 hs1 hs2 hx0 hx1 hx2 hx3 hx4 hx5
 obtain ⟨A6,c6,rfl⟩:=slice_of_own hown6
 generalize (if c = i then A else Option.map (fun x => x.add (i * 6)) A) = A30
 go_wp2
 go_ret2
 exact ⟨_,i,rfl,hi,HL.out,HU.out,hown6,hfin⟩
def withRt (p:Co) (x:Int):Co:=⟨p.id,p.fr,p.tn,p.st,p.en,x⟩
theorem flatCo_rt:∀ (d:List Co) (i:Nat) (x:Int),i < d.length → (flatCo d).set (i * 6 + 5) (.int .i64 x) = flatCo (d.set i (withRt (gCo d i) x))
 | p :: d,0,x,_ => rfl
 | p :: d,i + 1,x,h => by
  rw [flatCo_cons,show (i + 1) * 6 + 5 = i * 6 + 5 + 1 + 1 + 1 + 1 + 1 + 1 from by omega]
  simp only [List.set_cons_succ]
  rw [flatCo_rt d i x (by simpa using h)]
  rfl
set_option maxHeartbeats 2000000 in
set_option maxRecDepth 100000 in
theorem change_arg (A:Option Addr) (n c:Nat) (d:List Co) (id rt:Int) (w:World) (hd:d.length = n) (hn:n ≤ 1000000) (h:Sl w w.heap.size 6 A n c (flatCo d)) (ho:inB rt 1 2147483647 = false) :
  Calls Tryz.prog 213 #[.slice A n c,.int .i64 id,.int .i64 rt] w fun e w' => ∃ v,e = .returned (.tuple #[v,.int .i64 1]) ∧ w'.ownsRow w.heap.size 34 6 v n (flatCo d) ∧ Below w.heap.size w w':=by
 have HD:=Lib.hid hd
 have HO:=Lib.hid ho
 clear hd ho
 go_enter Tryz.func213,Tryz.ntmps213
 go_wp2_with fail
 refine (cloneCo A n c d w HD.out hn h).mono ?_
 rintro e w3 ⟨v,rfl,hown5,hb3⟩
 clear h
 obtain ⟨A5,c5,rfl⟩:=slice_of_own hown5
 go_wp2_with fail
 refine (in_is false HO.out w3).mono ?_
 rintro e w4 ⟨rfl,rfl⟩
 go_wp2
 go_ret2
 exact ⟨_,rfl,hown5,hb3⟩
set_option maxHeartbeats 2000000 in
set_option maxRecDepth 100000 in
theorem change_none (A:Option Addr) (n c:Nat) (d:List Co) (id rt:Int) (w:World) (hd:d.length = n) (hn:n ≤ 1000000) (h:Sl w w.heap.size 6 A n c (flatCo d)) (ho:inB rt 1 2147483647 = true) (hq:∀ j,j < n → ((gCo d j).id == id) = false) :
  Calls Tryz.prog 213 #[.slice A n c,.int .i64 id,.int .i64 rt] w fun e w' => ∃ v,e = .returned (.tuple #[v,.int .i64 6]) ∧ w'.ownsRow w.heap.size 34 6 v n (flatCo d) ∧ Below w.heap.size w w':=by
 have HD:=Lib.hid hd
 have HO:=Lib.hid ho
 have HQ:=Lib.hid hq
 clear hd ho hq
 go_enter Tryz.func213,Tryz.ntmps213
 go_wp2_with fail
 refine (cloneCo A n c d w HD.out hn h).mono ?_
 rintro e w3 ⟨v,rfl,hown5,hBa⟩
 clear h
 obtain ⟨A5,c5,rfl⟩:=slice_of_own hown5
 go_wp2_with fail
 refine (in_is true HO.out w3).mono ?_
 rintro e w4 ⟨rfl,rfl⟩
 go_wp2_with fail
 refine (has_any id w3).mono ?_
 rintro e w4 ⟨g,rfl,hG,hg0,hbb⟩
 have hown6:=hown5.kept (grown_of_below (row:=some w3.heap.size) hbb) (.inr (fun e => by have:=(hown5.lt _ e).2; omega))
 replace hBa:=hBa.trans (hbb.mono hBa.size)
 go_wp2_with fail
 refine (indexCo A5 n c5 d _ _ none _ w4 HD.out hn (Sl.of_own hown6) (pred_has id g none w4 hG (by simp)) n (Nat.le_refl _) HQ.out (fun h => by omega)).mono ?_
 rintro e w5 ⟨rfl,hb5⟩
 rw [idxOf_no (by omega:¬ n < n)]
 have hown7:=hown6.kept (grown_of_below (row:=some w4.heap.size) hb5) (.inr (fun e => by have:=(hown6.lt _ e).2; omega))
 replace hBa:=hBa.trans (hb5.mono hBa.size)
 clear hown5 hown6 hb5 hbb hG
 go_wp2
 go_ret2
 exact ⟨_,rfl,hown7,hBa⟩
set_option maxHeartbeats 2000000 in
set_option maxRecDepth 100000 in
theorem change_yes (A:Option Addr) (n c:Nat) (d:List Co) (id rt:Int) (w:World) (q:Nat) (hd:d.length = n) (hn:n ≤ 1000000) (h:Sl w w.heap.size 6 A n c (flatCo d)) (ho:inB rt 1 2147483647 = true) (hqn:q < n) (hq:∀ j,j < q → ((gCo d j).id == id) = false) (hh:((gCo d q).id == id) = true) :
  Calls Tryz.prog 213 #[.slice A n c,.int .i64 id,.int .i64 rt] w fun e w' => ∃ v,e = .returned (.tuple #[v,.int .i64 0]) ∧ w'.ownsRow w.heap.size 34 6 v n (flatCo (d.set q (withRt (gCo d q) rt))) ∧ Below w.heap.size w w':=by
 have HD:=Lib.hid hd
 have HO:=Lib.hid ho
 have HQ:=Lib.hid hq
 have HH:=Lib.hid hh
 clear hd ho hq hh
 go_enter Tryz.func213,Tryz.ntmps213
 go_wp2_with fail
 refine (cloneCo A n c d w HD.out hn h).mono ?_
 rintro e w3 ⟨v,rfl,hown5,hBa⟩
 clear h
 obtain ⟨g5,c5,rfl,hnc5,hcm5,hgb5,hgl5⟩:=own_at hown5 (by omega)
 unfold maxLen at hcm5
 go_wp2_with fail
 refine (in_is true HO.out w3).mono ?_
 rintro e w4 ⟨rfl,rfl⟩
 go_wp2_with fail
 refine (has_any id w3).mono ?_
 rintro e w4 ⟨g,rfl,hG,hg0,hbb⟩
 have hown6:=hown5.kept (grown_of_below (row:=some w3.heap.size) hbb) (.inr (fun e => by have:=(hown5.lt _ e).2; omega))
 replace hBa:=hBa.trans (hbb.mono hBa.size)
 go_wp2_with fail
 refine (indexCo _ n c5 d _ _ none _ w4 HD.out hn (Sl.of_own hown6) (pred_has id g none w4 hG (by simp)) q (by omega) HQ.out (fun _ => HH.out)).mono ?_
 rintro e w5 ⟨rfl,hb5⟩
 rw [idxOf_yes hqn]
 have hown7:=hown6.kept (grown_of_below (row:=some w4.heap.size) hb5) (.inr (fun e => by have:=(hown6.lt _ e).2; omega))
 replace hBa:=hBa.trans (hb5.mono hBa.size)
 clear hown5 hown6 hb5 hbb hG
 have hqi:(0:Int) ≤ (q:Int):=by omega
 have hqnI:(q:Int) < (n:Int):=by omega
 have hc4:=(ownCo_at hown7 HD.out hqn).2.2.2.2.2
 have hf4:=hown7.frozenAt (q * 6 + 5)
 obtain ⟨hst,hgr⟩:=hown7.stored (q * 6 + 5) (.int .i64 rt)
 rw [flatCo_rt d q rt (by have:=HD.out; omega)] at hst
 clear hown7
 go_wp2
 go_ret2
 exact ⟨_,rfl,hst,Below.grown hBa hgr hBa.size (fun k hk => by simp at hk; omega)⟩
theorem run_makeMap_hint {P:Program} (t k e:TypeId) (kd:IntKind) (n:Int) (ht:P.underlying t = some (.map k e)) (w:World) :
  (Instr.makeMap t (some (.int kd n))).run P w = .ok (.map (some w.heap.size)) (w.alloc (.map #[] 0)):=by
 simp [Instr.makeMap,run_underlying ht]; rfl
def idIn (l:List Co) (id:Int):Bool:=l.any (fun o => o.id == id)
def stepC (d:List Co) (i:Nat):Bool:=okC (gCo d i) && !idIn (d.take i) (gCo d i).id && (i == 0 || (decide (cmpC (gCo d (i - 1)) (gCo d i) < 0) && !overC (gCo d (i - 1)) (gCo d i)))
def rightC (d:List Co):Bool:=decide (d.length ≤ 4096) && (List.range d.length).all (stepC d)
theorem rightC_true {d:List Co}:rightC d = true ↔ d.length ≤ 4096 ∧ ∀ i,i < d.length → stepC d i = true:=by
 simp [rightC,List.all_eq_true]
theorem rightC_false {d:List Co} {i:Nat} (hi:i < d.length) (h:stepC d i = false):rightC d = false:=by
 rw [Bool.eq_false_iff]
 intro e
 rw [(rightC_true.1 e).2 i hi] at h
 cases h
theorem okC_wf {x:Co} (h:okC x = true):(Lit.int .i64 x.id).wf = true:=by
 unfold okC contactB inB at h
 simp only [Bool.and_eq_true,decide_eq_true_eq] at h
 exact wfI (by omega)
theorem idIn_next {d:List Co} {k:Nat} (h:k < d.length) (j:Int):idIn (d.take (k + 1)) j = (if j = (gCo d k).id then true else idIn (d.take k) j):=by
 unfold idIn
 rw [take_nextCo h,List.any_append]
 by_cases e:j = (gCo d k).id
 ·subst e; simp
 ·rw [if_neg e]; simp; intro e2; exact absurd e2.symm e
set_option maxHeartbeats 4000000 in
set_option maxRecDepth 100000 in
theorem right_any (A:Option Addr) (n c:Nat) (d:List Co) (w:World) (hd:d.length = n) (hn:n ≤ 1000000) (h:Sl w w.heap.size 6 A n c (flatCo d)) :
  Calls Tryz.prog 74 #[.slice A n c] w fun e w' => e = .returned (.bool (rightC d)) ∧ Below w.heap.size w w':=by
 have HD:=Lib.hid hd
 by_cases hbig:4096 < n
 ·have hf:rightC d = false:=by
   rw [Bool.eq_false_iff]; intro e; have:=(rightC_true.1 e).1; omega
  have HF:=Lib.hid hf
  clear hf hd
  go_enter Tryz.func74,Tryz.ntmps74
  go_wp2
  go_ret
  exact ⟨by rw [HF.out]; rfl,Below.refl _ _⟩
 ·clear hd
  have hmk:=run_makeMap_hint (P:=Tryz.prog) 137 3 4 .i64 (n:Int) Tryz.underlying137 w
  obtain ⟨b0,hb0⟩:∃ b0,w.heap.size = b0:=⟨_,rfl⟩
  rw [hb0] at hmk
  have HB0:=Lib.hid hb0
  have hS0:=SetW.made w
  rw [hb0] at hS0
  have hB0:Below w.heap.size w (w.alloc (.map #[] 0)):=(Below.refl _ _).alloc (Nat.le_refl _) _
  have h0:=h.below hB0
  clear hb0 h
  go_enter Tryz.func74,Tryz.ntmps74
  go_wp2
  clear hmk
  go_loopw [14] (fun i wr => ∃ k:Nat,k ≤ n ∧ i = .int .i64 k ∧ Hid (∀ j,j < k → stepC d j = true) ∧ Below w.heap.size w wr ∧ SetW wr b0 k (idIn (d.take k)) ∧ Hid (Sl wr w.heap.size 6 A n c (flatCo d))) (fun i _ => n - (intOf i).toNat)
  case atStart => exact ⟨0,by omega,rfl,(fun j hj => by omega),hB0,hS0.congr (fun k _ => by simp [idIn]),h0⟩
  case round =>
   clear hB0 hS0 h0
   obtain ⟨k,hk,rfl,HQ,hB,hS,HL⟩:=hrel
   by_cases hkn:k < n
   ·obtain ⟨ad,rfl,hab,c0,c1,c2,c3,c4,c5⟩:=HL.out.lst.atCo HD.out hkn
    have hsw:=hB.size
    obtain ⟨x,hx⟩:∃ x,gCo d k = x:=⟨_,rfl⟩
    rw [hx] at c0 c1 c2 c3 c4 c5
    have HX:=Lib.hid hx
    clear hx
    have hBa:Below wr.heap.size wr (wr.alloc (.cells #[.int .i64 x.id,.int .i64 x.fr,.int .i64 x.tn,.int .i64 x.st,.int .i64 x.en,.int .i64 x.rt] 34)):=by (repeat (first | exact Below.refl _ _ | refine Below.alloc ?_ (by first | omega | (simp; done) | (simp; omega)) _ | refine Below.setCell ?_ (by first | omega | (simp; done) | (simp; omega)) _ | refine Below.drew ?_))
    have hX:=Blok.new wr 34 #[.int .i64 x.id,.int .i64 x.fr,.int .i64 x.tn,.int .i64 x.st,.int .i64 x.en,.int .i64 x.rt]
    have hB2:=hB.trans (hBa.mono hB.size)
    have hS2:=hS.below hBa
    have hL2:=HL.out.below (hBa.mono hB.size)
    have hbn:b0 ≠ wr.heap.size:=fun e => by have:=hS.lt; omega
    go_wp2_with fail
    clear c0 c1 c2 c3 c4 c5 hB hS HL hBa
    generalize wr.alloc (.cells #[.int .i64 x.id,.int .i64 x.fr,.int .i64 x.tn,.int .i64 x.st,.int .i64 x.en,.int .i64 x.rt] 34) = wx at *
    generalize wr.heap.size = bb at *
    cases ho:okC x with
    | false =>
     have HO:=Lib.hid ho
     have hf:rightC d = false:=rightC_false (i:=k) (by have:=HD.out; omega) (by unfold stepC; rw [HX.out,ho]; rfl)
     have HF:=Lib.hid hf
     clear ho hf hS2 hL2 hX
     refine (okC_call x _ false HO.out).mono ?_
     rintro e w3 ⟨rfl,hb3⟩
     replace hB2:=hB2.trans (hb3.mono hB2.size)
     clear hb3
     go_wp2
     go_ret
     exact ⟨by rw [HF.out]; rfl,hB2⟩
    | true =>
     have HO:=Lib.hid ho
     have hwf:=okC_wf ho
     obtain ⟨s,hsn⟩:∃ s,idIn (d.take k) x.id = s:=⟨_,rfl⟩
     have HSN:=Lib.hid hsn
     clear ho hsn
     refine (okC_call x _ true HO.out).mono ?_
     rintro e w3 ⟨rfl,hb3⟩
     have hS3:=hS2.below hb3
     have hX3:=hX.below hb3 hX.lt
     have hL3:=hL2.below (hb3.mono hB2.size)
     have hB3:=hB2.trans (hb3.mono hB2.size)
     have hs3:=hB3.size
     clear hb3 hS2 hX hL2 hB2 hsw
     have hlk:=hS3.look hwf
     rw [HSN.out] at hlk
     have x0:w3.cell? ⟨bb,0,none⟩ = some (.int .i64 x.id):=hX3.cell 0
     have hbl:=hX3.lt
     cases s with
     | true =>
      have hf:rightC d = false:=rightC_false (i:=k) (by have:=HD.out; omega) (by unfold stepC; rw [HX.out,HSN.out]; simp)
      have HF:=Lib.hid hf
      clear hf hS3 hL3 hX3
      go_wp2
      go_ret
      exact ⟨by rw [HF.out]; rfl,hB3⟩
     | false =>
      go_wp2_with (at_mapUpdate; refine wpList_put_set rfl _ _ _ rfl b0 k _ x.id true rfl hS3 (by unfold maxLen; omega) rfl hwf rfl ?_; intro w4 hS4 hg4)
      try simp only [Act.put,List.setIfInBounds_toArray,List.set_cons_succ,List.set_cons_zero]
      clear hlk x0
      have hX4:=hX3.grown hg4 (fun e => hbn (by simpa using e.symm))
      have hB4:Below w.heap.size w w4:=hB3.grown hg4 hs3 (fun j hj => by have:=HB0.out; simp at hj; omega)
      have hL4:Sl w4 w.heap.size 6 (some ad) n c (flatCo d):=hL3.below (Below.grown (Below.refl _ _) hg4 hs3 (fun j hj => by have:=HB0.out; simp at hj; omega))
      have hS5:SetW w4 b0 (k + 1) (idIn (d.take (k + 1))):=hS4.congr (fun j _ => by rw [idIn_next (by have:=HD.out; omega),HX.out])
      have hs4:=hB4.size
      have hbl4:=hX4.lt
      have habw:ad.block < w4.heap.size:=by omega
      have x0:w4.cell? ⟨bb,0,none⟩ = some (.int .i64 x.id):=hX4.cell 0
      have x1:w4.cell? ⟨bb,1,none⟩ = some (.int .i64 x.fr):=hX4.cell 1
      have x2:w4.cell? ⟨bb,2,none⟩ = some (.int .i64 x.tn):=hX4.cell 2
      have x3:w4.cell? ⟨bb,3,none⟩ = some (.int .i64 x.st):=hX4.cell 3
      have x4:w4.cell? ⟨bb,4,none⟩ = some (.int .i64 x.en):=hX4.cell 4
      have x5:w4.cell? ⟨bb,5,none⟩ = some (.int .i64 x.rt):=hX4.cell 5
      clear hS3 hS4 hg4 hX3 hL3 hB3 hs3 hbl hX4
      have hcase:k = 0 ∨ ∃ p,k = p + 1:=by cases k with | zero => exact .inl rfl | succ p => exact .inr ⟨p,rfl⟩
      rcases hcase with rfl | ⟨p,rfl⟩
      ·have hd0:decide (((0:Nat):Int) > 0) = false:=by simp
       have hN:∀ j,j < 0 + 1 → stepC d j = true:=fun j hj => by
        obtain rfl:j = 0:=by omega
        unfold stepC
        rw [HX.out,HO.out,HSN.out]; rfl
       have HN:=Lib.hid hN
       clear hN
       have HS5:=Lib.hid hS5
       have HL4:=Lib.hid hL4
       clear hS5 hL4
       have q_x0:=fun d os => cell_regrown x0 d os
       have q_x1:=fun d os => cell_regrown x1 d os
       have q_x2:=fun d os => cell_regrown x2 d os
       have q_x3:=fun d os => cell_regrown x3 d os
       have q_x4:=fun d os => cell_regrown x4 d os
       have q_x5:=fun d os => cell_regrown x5 d os
       try simp only [List.append]
       first | refine wp_region_text_below ?_ | refine wp_region_quiet_below (by kernel_rfl) (by kernel_rfl) ?_
       repeat (go_big_quiet_step ((fail)))
       refine wpQuiet_nil ?_
       intro _ hqw
       obtain ⟨pq,hqw⟩:=hqw
       subst hqw
       clear q_x0 q_x1 q_x2 q_x3 q_x4 q_x5
       have hbel:=below_regrown w4 pq.d pq.os
       replace hB4:=hB4.trans (hbel.mono hs4)
       have hS6:=HS5.out.below hbel
       have hL6:=HL4.out.below (hbel.mono hs4)
       clear hbel x0 x1 x2 x3 x4 x5 HS5 HL4
       generalize grow (redrawn w4 pq.d) pq.os = wq at *
       go_wp2
       go_roundw
       case rel => exact ⟨0 + 1,by omega,by go_num,HN.out,hB4,hS6,hL6⟩
       case measure => simp [intOf]; omega
      ·have hd0:decide (((p + 1:Nat):Int) > 0) = true:=decide_eq_true (by omega)
       obtain ⟨ad',hae,hab',z0,z1,z2,z3,z4,z5⟩:=hL4.lst.atCo HD.out (k:=p) (by omega)
       injection hae with hae
       subst hae
       obtain ⟨z,hz⟩:∃ z,gCo d p = z:=⟨_,rfl⟩
       rw [hz] at z0 z1 z2 z3 z4 z5
       obtain ⟨y,hy⟩:∃ y,cmpC z x = y:=⟨_,rfl⟩
       obtain ⟨v,hv⟩:∃ v,overC z x = v:=⟨_,rfl⟩
       have hst:stepC d (p + 1) = (decide (y < 0) && !v):=by
        unfold stepC
        rw [Nat.add_sub_cancel,HX.out,hz,hy,hv,HO.out,HSN.out]; simp
       have HY:=Lib.hid hy
       have HV:=Lib.hid hv
       have HST:=Lib.hid hst
       have HS5:=Lib.hid hS5
       have HL4:=Lib.hid hL4
       clear hz hy hv hst hS5 hL4
       by_cases hy0:y < 0
       ·have hdy:decide (0 ≤ y) = false:=by simp; omega
        cases v
        ·have hN:∀ j,j < p + 1 + 1 → stepC d j = true:=fun j hj => by
          by_cases e:j = p + 1
          ·rw [e,HST.out]; simp [hy0]
          ·exact HQ.out j (by omega)
         have HN:=Lib.hid hN
         clear hN
         have q_x0:=fun d os => cell_regrown x0 d os
         have q_x1:=fun d os => cell_regrown x1 d os
         have q_x2:=fun d os => cell_regrown x2 d os
         have q_x3:=fun d os => cell_regrown x3 d os
         have q_x4:=fun d os => cell_regrown x4 d os
         have q_x5:=fun d os => cell_regrown x5 d os
         have q_z0:=fun d os => cell_regrown z0 d os
         have q_z1:=fun d os => cell_regrown z1 d os
         have q_z2:=fun d os => cell_regrown z2 d os
         have q_z3:=fun d os => cell_regrown z3 d os
         have q_z4:=fun d os => cell_regrown z4 d os
         have q_z5:=fun d os => cell_regrown z5 d os
         try simp only [List.append]
         first | refine wp_region_text_below ?_ | refine wp_region_quiet_below (by kernel_rfl) (by kernel_rfl) ?_
         repeat (go_big_quiet_step ((first | (go_at_call 125; with_reducible exact Calls.regrown_of (HY.out ▸ cmpC_any z x _)) | (go_at_call 126; with_reducible exact Calls.regrown_of (HV.out ▸ overC_any z x _)))))
         refine wpQuiet_nil ?_
         intro _ hqw
         obtain ⟨pq,hqw⟩:=hqw
         subst hqw
         clear q_x0 q_x1 q_x2 q_x3 q_x4 q_x5 q_z0 q_z1 q_z2 q_z3 q_z4 q_z5
         have hbel:=below_regrown w4 pq.d pq.os
         replace hB4:=hB4.trans (hbel.mono hs4)
         have hS6:=HS5.out.below hbel
         have hL6:=HL4.out.below (hbel.mono hs4)
         clear hbel x0 x1 x2 x3 x4 x5 z0 z1 z2 z3 z4 z5 HS5 HL4
         generalize grow (redrawn w4 pq.d) pq.os = wq at *
         go_wp2
         go_roundw
         case rel => exact ⟨(p + 1) + 1,by omega,by go_num,HN.out,hB4,hS6,hL6⟩
         case measure => simp [intOf]; omega
        ·have hf:rightC d = false:=rightC_false (i:=p + 1) (by have:=HD.out; omega) (by rw [HST.out]; simp)
         have HF:=Lib.hid hf
         clear hf
         have q_x0:=fun d os => cell_regrown x0 d os
         have q_x1:=fun d os => cell_regrown x1 d os
         have q_x2:=fun d os => cell_regrown x2 d os
         have q_x3:=fun d os => cell_regrown x3 d os
         have q_x4:=fun d os => cell_regrown x4 d os
         have q_x5:=fun d os => cell_regrown x5 d os
         have q_z0:=fun d os => cell_regrown z0 d os
         have q_z1:=fun d os => cell_regrown z1 d os
         have q_z2:=fun d os => cell_regrown z2 d os
         have q_z3:=fun d os => cell_regrown z3 d os
         have q_z4:=fun d os => cell_regrown z4 d os
         have q_z5:=fun d os => cell_regrown z5 d os
         try simp only [List.append]
         first | refine wp_region_text_below ?_ | refine wp_region_quiet_below (by kernel_rfl) (by kernel_rfl) ?_
         repeat (go_big_quiet_step ((first | (go_at_call 125; with_reducible exact Calls.regrown_of (HY.out ▸ cmpC_any z x _)) | (go_at_call 126; with_reducible exact Calls.regrown_of (HV.out ▸ overC_any z x _)))))
         refine wpQuiet_nil ?_
         intro _ hqw
         obtain ⟨pq,hqw⟩:=hqw
         subst hqw
         clear q_x0 q_x1 q_x2 q_x3 q_x4 q_x5 q_z0 q_z1 q_z2 q_z3 q_z4 q_z5
         have hbel:=below_regrown w4 pq.d pq.os
         replace hB4:=hB4.trans (hbel.mono hs4)
         clear hbel x0 x1 x2 x3 x4 x5 z0 z1 z2 z3 z4 z5 HS5 HL4
         generalize grow (redrawn w4 pq.d) pq.os = wq at *
         go_wp2
         go_ret
         exact ⟨by rw [HF.out]; rfl,hB4⟩
       ·have hdy:decide (0 ≤ y) = true:=by simp; omega
        have hf:rightC d = false:=rightC_false (i:=p + 1) (by have:=HD.out; omega) (by rw [HST.out]; simp [hy0])
        have HF:=Lib.hid hf
        clear hf
        have q_x0:=fun d os => cell_regrown x0 d os
        have q_x1:=fun d os => cell_regrown x1 d os
        have q_x2:=fun d os => cell_regrown x2 d os
        have q_x3:=fun d os => cell_regrown x3 d os
        have q_x4:=fun d os => cell_regrown x4 d os
        have q_x5:=fun d os => cell_regrown x5 d os
        have q_z0:=fun d os => cell_regrown z0 d os
        have q_z1:=fun d os => cell_regrown z1 d os
        have q_z2:=fun d os => cell_regrown z2 d os
        have q_z3:=fun d os => cell_regrown z3 d os
        have q_z4:=fun d os => cell_regrown z4 d os
        have q_z5:=fun d os => cell_regrown z5 d os
        try simp only [List.append]
        first | refine wp_region_text_below ?_ | refine wp_region_quiet_below (by kernel_rfl) (by kernel_rfl) ?_
        repeat (go_big_quiet_step ((first | (go_at_call 125; with_reducible exact Calls.regrown_of (HY.out ▸ cmpC_any z x _)) | (go_at_call 126; with_reducible exact Calls.regrown_of (HV.out ▸ overC_any z x _)))))
        refine wpQuiet_nil ?_
        intro _ hqw
        obtain ⟨pq,hqw⟩:=hqw
        subst hqw
        clear q_x0 q_x1 q_x2 q_x3 q_x4 q_x5 q_z0 q_z1 q_z2 q_z3 q_z4 q_z5
        have hbel:=below_regrown w4 pq.d pq.os
        replace hB4:=hB4.trans (hbel.mono hs4)
        clear hbel x0 x1 x2 x3 x4 x5 z0 z1 z2 z3 z4 z5 HS5 HL4
        generalize grow (redrawn w4 pq.d) pq.os = wq at *
        go_wp2
        go_ret
        exact ⟨by rw [HF.out]; rfl,hB4⟩
   ·obtain rfl:k = n:=by omega
    have hr:rightC d = true:=rightC_true.2 ⟨by have:=HD.out; omega,fun i hi => HQ.out i (by have:=HD.out; omega)⟩
    have HR:=Lib.hid hr
    clear hr
    go_wp2
    go_ret
    exact ⟨by rw [HR.out]; rfl,hB⟩
end Go.Proofs.YtjldgcebadojiaaGreatDoor.Kc
