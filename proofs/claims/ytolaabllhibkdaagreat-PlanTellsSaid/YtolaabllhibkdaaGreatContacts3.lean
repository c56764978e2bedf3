/- Package contacts: Add, Change. No condition. -/
import Derived.Test.YtolaabllhibkdaaGreatContacts2
namespace Go.Proofs.YtolaabllhibkdaaGreat.Kc
open Go.ChangeShapes Go.WideShapes Go.ChangeAt Go.RowKit Go.Sort
set_option linter.unusedSimpArgs false
set_option linter.unusedVariables false
set_option maxHeartbeats 1000000 in
set_option maxRecDepth 100000 in
theorem add_no (A:Option Addr) (n c:Nat) (d:List Co) (r:Co) (w:World) (q:Int) (hd:d.length = n) (hn:n ≤ 1000000) (h:Sl w w.heap.size 6 A n c (flatCo d)) (hq:mayC d r = q) (hq0:q ≠ 0) :
  Calls Tryz.prog 102 #[.slice A n c,.agg #[.int .i64 r.id,.int .i64 r.fr,.int .i64 r.tn,.int .i64 r.st,.int .i64 r.en,.int .i64 r.rt]] w fun e w' => ∃ v,e = .returned (.tuple #[v,.int .i64 q]) ∧ w'.ownsRow w.heap.size 33 6 v n (flatCo d) ∧ Below w.heap.size w w':=by
 have hBa:Below w.heap.size w (w.alloc (.cells #[.int .i64 r.id,.int .i64 r.fr,.int .i64 r.tn,.int .i64 r.st,.int .i64 r.en,.int .i64 r.rt] 33)):=by (repeat (first | exact Below.refl _ _ | refine Below.alloc ?_ (by first | omega | (simp; done) | (simp; omega)) _ | refine Below.setCell ?_ (by first | omega | (simp; done) | (simp; omega)) _ | refine Below.drew ?_))
 have hs:=h.up hBa
 have HD:=Lib.hid hd
 have HQ:=Lib.hid hq
 have hqb:(q != 0) = true:=by simpa using hq0
 have hsz:w.heap.size < (w.alloc (.cells #[.int .i64 r.id,.int .i64 r.fr,.int .i64 r.tn,.int .i64 r.st,.int .i64 r.en,.int .i64 r.rt] 33)).heap.size:=by simp
 clear h hd hq hq0
 go_enter Tryz.func102,Tryz.ntmps102
 go_wp2_with fail
 generalize w.alloc (.cells #[.int .i64 r.id,.int .i64 r.fr,.int .i64 r.tn,.int .i64 r.st,.int .i64 r.en,.int .i64 r.rt] 33) = w2 at *
 refine (HQ.out ▸ mayAdd_any A n c d r w2 HD.out hn hs).mono ?_
 rintro e w3 ⟨rfl,hb3⟩
 replace hs:=hs.up hb3
 replace hBa:=hBa.trans (hb3.mono hBa.size)
 clear hb3
 go_wp2_with fail
 refine (cloneCo A n c d w3 HD.out hn hs).mono ?_
 rintro e w4 ⟨v,rfl,hown,hb4⟩
 have hown5:=own_down (base':=w.heap.size) hown hBa.size
 replace hBa:=hBa.trans (hb4.mono hBa.size)
 clear hown hb4 hs
 obtain ⟨A5,c5,rfl⟩:=slice_of_own hown5
 go_wp2
 go_ret2
 exact ⟨_,rfl,hown5,hBa⟩
theorem concat3Co (g cO:Nat) (T:TypeId) (A0 A1 A2:Option Addr) (n0 n1 n2 c0 c1 c2:Nat) (d0 d1 d2:List Co) (w:World) (hd0:d0.length = n0) (hd1:d1.length = n1) (hd2:d2.length = n2) (hn:n0 + n1 + n2 ≤ 1000000)
  (hO:Blok w g T #[.slice A0 n0 c0,.slice A1 n1 c1,.slice A2 n2 c2]) (h0:Sl w w.heap.size 6 A0 n0 c0 (flatCo d0)) (h1:Sl w w.heap.size 6 A1 n1 c1 (flatCo d1)) (h2:Sl w w.heap.size 6 A2 n2 c2 (flatCo d2)) :
  Calls Tryz.prog 135 #[.slice (some ⟨g,0,none⟩) 3 cO] w fun e w' => ∃ v,e = .returned v ∧ w'.ownsRow w.heap.size 33 6 v (n0 + n1 + n2) (flatCo (d0 ++ d1 ++ d2)) ∧ Below w.heap.size w w':=by
 have e3:catCo (fun k => if k = 0 then d0 else if k = 1 then d1 else d2) 3 = d0 ++ d1 ++ d2:=by simp [catCo]
 have h:=concatCo g 3 cO (fun k => if k = 0 then A0 else if k = 1 then A1 else A2) (fun k => if k = 0 then n0 else if k = 1 then n1 else n2) (fun k => if k = 0 then c0 else if k = 1 then c1 else c2) (fun k => if k = 0 then d0 else if k = 1 then d1 else d2) w (by omega)
  (fun k hk => by
   have h3:k = 0 ∨ k = 1 ∨ k = 2:=by omega
   rcases h3 with rfl | rfl | rfl <;> simpa) (by rw [e3]; simp; omega)
  (fun k hk => by
   have h3:k = 0 ∨ k = 1 ∨ k = 2:=by omega
   rcases h3 with rfl | rfl | rfl <;> (rw [hO.cell]; simp))
  (fun k hk => by
   have h3:k = 0 ∨ k = 1 ∨ k = 2:=by omega
   rcases h3 with rfl | rfl | rfl <;> simpa)
 rw [e3] at h
 refine h.mono ?_
 rintro e w' ⟨v,rfl,ho,hb⟩
 have hl:(d0 ++ d1 ++ d2).length = n0 + n1 + n2:=by simp; omega
 rw [hl] at ho
 exact ⟨v,rfl,ho,hb⟩
set_option maxHeartbeats 2000000 in
set_option maxRecDepth 100000 in
theorem add_yes (A:Option Addr) (n c:Nat) (d:List Co) (r:Co) (w:World) (hd:d.length = n) (hn:n ≤ 1000000 - 1) (h:Sl w w.heap.size 6 A n c (flatCo d)) (hq:mayC d r = 0) :
  Calls Tryz.prog 102 #[.slice A n c,.agg #[.int .i64 r.id,.int .i64 r.fr,.int .i64 r.tn,.int .i64 r.st,.int .i64 r.en,.int .i64 r.rt]] w fun e w' => ∃ v i,e = .returned (.tuple #[v,.int .i64 0]) ∧ i ≤ n ∧ (i = 0 ∨ cmpC (gCo d (i - 1)) r < 0) ∧ (i = n ∨ 0 ≤ cmpC (gCo d i) r) ∧ w'.ownsRow w.heap.size 33 6 v (n + 1) (flatCo (d.take i ++ [r] ++ d.drop i)) ∧ Below w.heap.size w w':=by
 have hBa:Below w.heap.size w (w.alloc (.cells #[.int .i64 r.id,.int .i64 r.fr,.int .i64 r.tn,.int .i64 r.st,.int .i64 r.en,.int .i64 r.rt] 33)):=by (repeat (first | exact Below.refl _ _ | refine Below.alloc ?_ (by first | omega | (simp; done) | (simp; omega)) _ | refine Below.setCell ?_ (by first | omega | (simp; done) | (simp; omega)) _ | refine Below.drew ?_))
 have hX:=Blok.new w 33 #[.int .i64 r.id,.int .i64 r.fr,.int .i64 r.tn,.int .i64 r.st,.int .i64 r.en,.int .i64 r.rt]
 have hs:=h.up hBa
 have HD:=Lib.hid hd
 have HQ:=Lib.hid hq
 have hcap:=h.cap
 have hmax:=h.max
 unfold maxLen at hmax
 have hsz:w.heap.size < (w.alloc (.cells #[.int .i64 r.id,.int .i64 r.fr,.int .i64 r.tn,.int .i64 r.st,.int .i64 r.en,.int .i64 r.rt] 33)).heap.size:=by simp
 clear h hd hq
 go_enter Tryz.func102,Tryz.ntmps102
 go_wp2_with fail
 generalize w.alloc (.cells #[.int .i64 r.id,.int .i64 r.fr,.int .i64 r.tn,.int .i64 r.st,.int .i64 r.en,.int .i64 r.rt] 33) = w2 at *
 refine (HQ.out ▸ mayAdd_any A n c d r w2 HD.out (by omega) hs).mono ?_
 rintro e w3 ⟨rfl,hb3⟩
 replace hs:=hs.up hb3
 replace hX:=hX.below hb3 hX.lt
 replace hBa:=hBa.trans (hb3.mono hBa.size)
 clear hb3
 have hx0:w3.cell? ⟨w.heap.size,0,none⟩ = some (.int .i64 r.id):=hX.cell 0
 have hx1:w3.cell? ⟨w.heap.size,1,none⟩ = some (.int .i64 r.fr):=hX.cell 1
 have hx2:w3.cell? ⟨w.heap.size,2,none⟩ = some (.int .i64 r.tn):=hX.cell 2
 have hx3:w3.cell? ⟨w.heap.size,3,none⟩ = some (.int .i64 r.st):=hX.cell 3
 have hx4:w3.cell? ⟨w.heap.size,4,none⟩ = some (.int .i64 r.en):=hX.cell 4
 have hx5:w3.cell? ⟨w.heap.size,5,none⟩ = some (.int .i64 r.rt):=hX.cell 5
 go_wp2_with fail
 clear hx0 hx1 hx2 hx3 hx4 hx5
 refine (binaryCo A n c d r _ _ _ w3 HD.out (by omega) hs (cmp_contacts r w3)).mono ?_
 rintro e w4 ⟨i,b,rfl,hi,hl,hu,hbv,hb4⟩
 have HL:=Lib.hid hl
 have HU:=Lib.hid hu
 replace hs:=hs.up hb4
 replace hX:=hX.below hb4 hX.lt
 replace hBa:=hBa.trans (hb4.mono hBa.size)
 clear hb4 hl hu hbv
 have hx0:w4.cell? ⟨w.heap.size,0,none⟩ = some (.int .i64 r.id):=hX.cell 0
 have hx1:w4.cell? ⟨w.heap.size,1,none⟩ = some (.int .i64 r.fr):=hX.cell 1
 have hx2:w4.cell? ⟨w.heap.size,2,none⟩ = some (.int .i64 r.tn):=hX.cell 2
 have hx3:w4.cell? ⟨w.heap.size,3,none⟩ = some (.int .i64 r.st):=hX.cell 3
 have hx4:w4.cell? ⟨w.heap.size,4,none⟩ = some (.int .i64 r.en):=hX.cell 4
 have hx5:w4.cell? ⟨w.heap.size,5,none⟩ = some (.int .i64 r.rt):=hX.cell 5
 have hiI:(i:Int) ≤ (n:Int):=by omega
 have hic:i ≤ c:=by omega
 have hicI:(i:Int) ≤ (c:Int):=by omega
 have hs1:=hs.upto hi
 have hs2:=hs.from_ hi
 rw [flatCo_take] at hs1
 rw [flatCo_drop] at hs2
 go_wp2_with fail
 have hdl:(d.drop i).length = n - i:=by rw [List.length_drop,HD.out]
 have hdt:(d.take i).length = i:=by rw [List.length_take,HD.out]; omega
 have HDL:=Lib.hid hdl
 have HDT:=Lib.hid hdt
 clear hdl hdt hX hs
 go_region_law (refine step_call rfl 135 #[.tmp 31] _ rfl #[.slice (some ⟨w4.heap.size + 1,0,none⟩) 3 3] (by simp [Act.eval,Act.put]) Tryz.func135 rfl rfl ?_; refine Calls.mono (concat3Co (w4.heap.size + 1) 3 22 A (some ⟨w4.heap.size,0,none⟩) _ i 1 (n - i) c 1 (c - i) (d.take i) [r] (d.drop i) _ HDT.out rfl HDL.out (by omega) (by have h:=Blok.new (w4.alloc (.cells #[.int .i64 r.id,.int .i64 r.fr,.int .i64 r.tn,.int .i64 r.st,.int .i64 r.en,.int .i64 r.rt] 33)) 22 #[.slice A i c,.slice (some ⟨w4.heap.size,0,none⟩) 1 1,.slice (if c = i then A else Option.map (fun x => x.add (i * 6)) A) (n - i) (c - i)]; rw [World.size_alloc] at h; exact h) (hs1.up (by (repeat (first | exact Below.refl _ _ | refine Below.alloc ?_ (by first | omega | (simp; done) | (simp; omega)) _ | refine Below.setCell ?_ (by first | omega | (simp; done) | (simp; omega)) _ | refine Below.drew ?_)))) (by exact Sl.of_own ((own_lit w4 0 33 6 1 #[.int .i64 r.id,.int .i64 r.fr,.int .i64 r.tn,.int .i64 r.st,.int .i64 r.en,.int .i64 r.rt] (by omega) rfl (by simp [maxLen])).alloc _)) (hs2.up (by (repeat (first | exact Below.refl _ _ | refine Below.alloc ?_ (by first | omega | (simp; done) | (simp; omega)) _ | refine Below.setCell ?_ (by first | omega | (simp; done) | (simp; omega)) _ | refine Below.drew ?_))))) ?_; rintro e w5 ⟨v,rfl,hown,hb5⟩; refine ⟨_,rfl,?_⟩)
 have hfin:Below w.heap.size w w5:=(hBa.trans (Below.mono (by (repeat (first | exact Below.refl _ _ | refine Below.alloc ?_ (by first | omega | (simp; done) | (simp; omega)) _ | refine Below.setCell ?_ (by first | omega | (simp; done) | (simp; omega)) _ | refine Below.drew ?_))) hBa.size)).trans (hb5.mono (by have:=hBa.size; simp; omega))
 have hown6:=own_down (base':=w.heap.size) hown (by have:=hBa.size; simp; omega)
 rw [show i + 1 + (n - i) = n + 1 from by omega] at hown6
 clear hown hb5 hs1 hs2 hx0 hx1 hx2 hx3 hx4 hx5
 obtain ⟨A6,c6,rfl⟩:=slice_of_own hown6
 generalize (if c = i then A else Option.map (fun x => x.add (i * 6)) A) = A30
 go_wp2
 go_ret2
 exact ⟨_,i,rfl,hi,HL.out,HU.out,hown6,hfin⟩
def withRt (p:Co) (x:Int):Co:=⟨p.id,p.fr,p.tn,p.st,p.en,x⟩
theorem flatCo_rt:∀ (d:List Co) (i:Nat) (x:Int),i < d.length → (flatCo d).set (i * 6 + 5) (.int .i64 x) = flatCo (d.set i (withRt (gCo d i) x))
 | p :: d,0,x,_ => rfl
 | p :: d,i + 1,x,h => by
  rw [flatCo_cons,show (i + 1) * 6 + 5 = i * 6 + 5 + 1 + 1 + 1 + 1 + 1 + 1 from by omega]
  simp only [List.set_cons_succ]
  rw [flatCo_rt d i x (by simpa using h)]
  rfl
set_option maxHeartbeats 2000000 in
set_option maxRecDepth 100000 in
theorem change_arg (A:Option Addr) (n c:Nat) (d:List Co) (id rt:Int) (w:World) (hd:d.length = n) (hn:n ≤ 1000000) (h:Sl w w.heap.size 6 A n c (flatCo d)) (ho:inB rt 1 2147483647 = false) :
  Calls Tryz.prog 104 #[.slice A n c,.int .i64 id,.int .i64 rt] w fun e w' => ∃ v,e = .returned (.tuple #[v,.int .i64 1]) ∧ w'.ownsRow w.heap.size 33 6 v n (flatCo d) ∧ Below w.heap.size w w':=by
 have HD:=Lib.hid hd
 have HO:=Lib.hid ho
 clear hd ho
 go_enter Tryz.func104,Tryz.ntmps104
 go_wp2_with fail
 refine (cloneCo A n c d w HD.out hn h).mono ?_
 rintro e w3 ⟨v,rfl,hown5,hb3⟩
 clear h
 obtain ⟨A5,c5,rfl⟩:=slice_of_own hown5
 go_wp2_with fail
 refine (in_is false HO.out w3).mono ?_
 rintro e w4 ⟨rfl,rfl⟩
 go_wp2
 go_ret2
 exact ⟨_,rfl,hown5,hb3⟩
set_option maxHeartbeats 2000000 in
set_option maxRecDepth 100000 in
theorem change_none (A:Option Addr) (n c:Nat) (d:List Co) (id rt:Int) (w:World) (hd:d.length = n) (hn:n ≤ 1000000) (h:Sl w w.heap.size 6 A n c (flatCo d)) (ho:inB rt 1 2147483647 = true) (hq:∀ j,j < n → ((gCo d j).id == id) = false) :
  Calls Tryz.prog 104 #[.slice A n c,.int .i64 id,.int .i64 rt] w fun e w' => ∃ v,e = .returned (.tuple #[v,.int .i64 6]) ∧ w'.ownsRow w.heap.size 33 6 v n (flatCo d) ∧ Below w.heap.size w w':=by
 have HD:=Lib.hid hd
 have HO:=Lib.hid ho
 have HQ:=Lib.hid hq
 clear hd ho hq
 go_enter Tryz.func104,Tryz.ntmps104
 go_wp2_with fail
 refine (cloneCo A n c d w HD.out hn h).mono ?_
 rintro e w3 ⟨v,rfl,hown5,hBa⟩
 clear h
 obtain ⟨A5,c5,rfl⟩:=slice_of_own hown5
 go_wp2_with fail
 refine (in_is true HO.out w3).mono ?_
 rintro e w4 ⟨rfl,rfl⟩
 go_wp2_with fail
 refine (has_any id w3).mono ?_
 rintro e w4 ⟨g,rfl,hG,hg0,hbb⟩
 have hown6:=hown5.kept (grown_of_below (row:=some w3.heap.size) hbb) (.inr (fun e => by have:=(hown5.lt _ e).2; omega))
 replace hBa:=hBa.trans (hbb.mono hBa.size)
 go_wp2_with fail
 refine (indexCo A5 n c5 d _ _ none _ w4 HD.out hn (Sl.of_own hown6) (pred_has id g none w4 hG (by simp)) n (Nat.le_refl _) HQ.out (fun h => by omega)).mono ?_
 rintro e w5 ⟨rfl,hb5⟩
 rw [idxOf_no (by omega:¬ n < n)]
 have hown7:=hown6.kept (grown_of_below (row:=some w4.heap.size) hb5) (.inr (fun e => by have:=(hown6.lt _ e).2; omega))
 replace hBa:=hBa.trans (hb5.mono hBa.size)
 clear hown5 hown6 hb5 hbb hG
 go_wp2
 go_ret2
 exact ⟨_,rfl,hown7,hBa⟩
set_option maxHeartbeats 2000000 in
set_option maxRecDepth 100000 in
theorem change_yes (A:Option Addr) (n c:Nat) (d:List Co) (id rt:Int) (w:World) (q:Nat) (hd:d.length = n) (hn:n ≤ 1000000) (h:Sl w w.heap.size 6 A n c (flatCo d)) (ho:inB rt 1 2147483647 = true) (hqn:q < n) (hq:∀ j,j < q → ((gCo d j).id == id) = false) (hh:((gCo d q).id == id) = true) :
  Calls Tryz.prog 104 #[.slice A n c,.int .i64 id,.int .i64 rt] w fun e w' => ∃ v,e = .returned (.tuple #[v,.int .i64 0]) ∧ w'.ownsRow w.heap.size 33 6 v n (flatCo (d.set q (withRt (gCo d q) rt))) ∧ Below w.heap.size w w':=by
 have HD:=Lib.hid hd
 have HO:=Lib.hid ho
 have HQ:=Lib.hid hq
 have HH:=Lib.hid hh
 clear hd ho hq hh
 go_enter Tryz.func104,Tryz.ntmps104
 go_wp2_with fail
 refine (cloneCo A n c d w HD.out hn h).mono ?_
 rintro e w3 ⟨v,rfl,hown5,hBa⟩
 clear h
 obtain ⟨g5,c5,rfl,hnc5,hcm5,hgb5,hgl5⟩:=own_at hown5 (by omega)
 unfold maxLen at hcm5
 go_wp2_with fail
 refine (in_is true HO.out w3).mono ?_
 rintro e w4 ⟨rfl,rfl⟩
 go_wp2_with fail
 refine (has_any id w3).mono ?_
 rintro e w4 ⟨g,rfl,hG,hg0,hbb⟩
 have hown6:=hown5.kept (grown_of_below (row:=some w3.heap.size) hbb) (.inr (fun e => by have:=(hown5.lt _ e).2; omega))
 replace hBa:=hBa.trans (hbb.mono hBa.size)
 go_wp2_with fail
 refine (indexCo _ n c5 d _ _ none _ w4 HD.out hn (Sl.of_own hown6) (pred_has id g none w4 hG (by simp)) q (by omega) HQ.out (fun _ => HH.out)).mono ?_
 rintro e w5 ⟨rfl,hb5⟩
 rw [idxOf_yes hqn]
 have hown7:=hown6.kept (grown_of_below (row:=some w4.heap.size) hb5) (.inr (fun e => by have:=(hown6.lt _ e).2; omega))
 replace hBa:=hBa.trans (hb5.mono hBa.size)
 clear hown5 hown6 hb5 hbb hG
 have hqi:(0:Int) ≤ (q:Int):=by omega
 have hqnI:(q:Int) < (n:Int):=by omega
 have hc4:=(ownCo_at hown7 HD.out hqn).2.2.2.2.2
 have hf4:=hown7.frozenAt (q * 6 + 5)
 obtain ⟨hst,hgr⟩:=hown7.stored (q * 6 + 5) (.int .i64 rt)
 rw [flatCo_rt d q rt (by have:=HD.out; omega)] at hst
 clear hown7
 go_wp2
 go_ret2
 exact ⟨_,rfl,hst,Below.grown hBa hgr hBa.size (fun k hk => by simp at hk; omega)⟩
end Go.Proofs.YtolaabllhibkdaaGreat.Kc
