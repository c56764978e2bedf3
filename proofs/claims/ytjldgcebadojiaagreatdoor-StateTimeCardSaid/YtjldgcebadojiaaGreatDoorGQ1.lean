/- Several texts of mine in one: Ranges3, Ranges4. No condition. -/
import Derived.Test.YtjldgcebadojiaaGreatDoorRanges2
namespace Go.Proofs.YtjldgcebadojiaaGreatDoor.Kr
open Go.ChangeShapes Go.WideShapes Go.ChangeAt Go.RowKit Go.Sort
set_option linter.unusedSimpArgs false
set_option linter.unusedVariables false
def okR (r:Rg):Bool:=rangeB r.fr r.tn r.st r.en r.ow
def mayF (d:List Rg) (r:Rg):Int:=if okR r = false then 1 else if 4096 ≤ d.length then 3 else if d.any (fun o => overR o r) = true then 5 else 0
theorem okR_call (r:Rg) (w:World) (b:Bool) (h:okR r = b):Calls Tryz.prog 127 #[.agg #[.int .i64 r.fr,.int .i64 r.tn,.int .i64 r.st,.int .i64 r.en,.int .i64 r.ow]] w fun e w' => e = .returned (.bool b) ∧ Below w.heap.size w w':=range_is b h w
set_option maxHeartbeats 1000000 in
set_option maxRecDepth 100000 in
theorem mayAdd_any (A:Option Addr) (n c:Nat) (d:List Rg) (r:Rg) (w:World) (hd:d.length = n) (hn:n ≤ 1000000) (h:Sl w w.heap.size 5 A n c (flatRg d)) :
  Calls Tryz.prog 231 #[.slice A n c,.agg #[.int .i64 r.fr,.int .i64 r.tn,.int .i64 r.st,.int .i64 r.en,.int .i64 r.ow]] w fun e w' => e = .returned (.int .i64 (mayF d r)) ∧ Below w.heap.size w w':=by
 have hBa:Below w.heap.size w (w.alloc (.cells #[.int .i64 r.fr,.int .i64 r.tn,.int .i64 r.st,.int .i64 r.en,.int .i64 r.ow] 36)):=by (repeat (first | exact Below.refl _ _ | refine Below.alloc ?_ (by first | omega | (simp; done) | (simp; omega)) _ | refine Below.setCell ?_ (by first | omega | (simp; done) | (simp; omega)) _ | refine Below.drew ?_))
 have hX:=Blok.new w 36 #[.int .i64 r.fr,.int .i64 r.tn,.int .i64 r.st,.int .i64 r.en,.int .i64 r.ow]
 have hs:=h.up hBa
 have HD:=Lib.hid hd
 have hsz:w.heap.size < (w.alloc (.cells #[.int .i64 r.fr,.int .i64 r.tn,.int .i64 r.st,.int .i64 r.en,.int .i64 r.ow] 36)).heap.size:=by simp
 clear h
 cases h1:okR r with
 | false =>
  have hf:mayF d r = 1:=by unfold mayF; rw [if_pos h1]
  rw [hf]
  have H1:=Lib.hid h1
  clear h1 hf hd
  go_enter Tryz.func231,Tryz.ntmps231
  go_wp2_with fail
  generalize w.alloc (.cells #[.int .i64 r.fr,.int .i64 r.tn,.int .i64 r.st,.int .i64 r.en,.int .i64 r.ow] 36) = w2 at *
  refine (okR_call r w2 false H1.out).mono ?_
  rintro e w3 ⟨rfl,hb3⟩
  replace hBa:=hBa.trans (hb3.mono hBa.size)
  clear hb3 hs hX
  go_wp2
  go_ret
  exact ⟨rfl,hBa⟩
 | true =>
  by_cases h2:4096 ≤ n
  ·have hf:mayF d r = 3:=by unfold mayF; rw [if_neg (by rw [h1]; simp),if_pos (by omega)]
   rw [hf]
   have H1:=Lib.hid h1
   clear h1 hf hd
   go_enter Tryz.func231,Tryz.ntmps231
   go_wp2_with fail
   generalize w.alloc (.cells #[.int .i64 r.fr,.int .i64 r.tn,.int .i64 r.st,.int .i64 r.en,.int .i64 r.ow] 36) = w2 at *
   refine (okR_call r w2 true H1.out).mono ?_
   rintro e w3 ⟨rfl,hb3⟩
   replace hBa:=hBa.trans (hb3.mono hBa.size)
   clear hb3 hs hX
   go_wp2
   go_ret
   exact ⟨rfl,hBa⟩
  ·obtain ⟨b,hb⟩:∃ b,d.any (fun o => overR o r) = b:=⟨_,rfl⟩
   have hf:mayF d r = if b = true then 5 else 0:=by unfold mayF; rw [if_neg (by rw [h1]; simp),if_neg (by omega),hb]
   rw [hf]
   have H1:=Lib.hid h1
   have HB:=Lib.hid hb
   clear h1 hf hd hb
   cases b
   all_goals
    go_enter Tryz.func231,Tryz.ntmps231
    go_wp2_with fail
    generalize w.alloc (.cells #[.int .i64 r.fr,.int .i64 r.tn,.int .i64 r.st,.int .i64 r.en,.int .i64 r.ow] 36) = w2 at *
    refine (okR_call r w2 true H1.out).mono ?_
    rintro e w3 ⟨rfl,hb3⟩
    replace hs:=hs.up hb3
    replace hX:=hX.below hb3 hX.lt
    replace hBa:=hBa.trans (hb3.mono hBa.size)
    clear hb3
    go_wp2_with fail
    refine (HB.out ▸ containsRg A n c d _ _ none _ w3 HD.out hn hs (pred_may r w.heap.size none w3 hX (by simp))).mono ?_
    rintro e w4 ⟨rfl,hb4⟩
    replace hBa:=hBa.trans (hb4.mono hBa.size)
    clear hb4 hs hX
    go_wp2
    go_ret
    exact ⟨rfl,hBa⟩
set_option maxHeartbeats 1000000 in
set_option maxRecDepth 100000 in
theorem add_no (A:Option Addr) (n c:Nat) (d:List Rg) (r:Rg) (w:World) (q:Int) (hd:d.length = n) (hn:n ≤ 1000000) (h:Sl w w.heap.size 5 A n c (flatRg d)) (hq:mayF d r = q) (hq0:q ≠ 0) :
  Calls Tryz.prog 214 #[.slice A n c,.agg #[.int .i64 r.fr,.int .i64 r.tn,.int .i64 r.st,.int .i64 r.en,.int .i64 r.ow]] w fun e w' => ∃ v,e = .returned (.tuple #[v,.int .i64 q]) ∧ w'.ownsRow w.heap.size 36 5 v n (flatRg d) ∧ Below w.heap.size w w':=by
 have hBa:Below w.heap.size w (w.alloc (.cells #[.int .i64 r.fr,.int .i64 r.tn,.int .i64 r.st,.int .i64 r.en,.int .i64 r.ow] 36)):=by (repeat (first | exact Below.refl _ _ | refine Below.alloc ?_ (by first | omega | (simp; done) | (simp; omega)) _ | refine Below.setCell ?_ (by first | omega | (simp; done) | (simp; omega)) _ | refine Below.drew ?_))
 have hs:=h.up hBa
 have HD:=Lib.hid hd
 have HQ:=Lib.hid hq
 have hqb:(q != 0) = true:=by simpa using hq0
 have hsz:w.heap.size < (w.alloc (.cells #[.int .i64 r.fr,.int .i64 r.tn,.int .i64 r.st,.int .i64 r.en,.int .i64 r.ow] 36)).heap.size:=by simp
 clear h hd hq hq0
 go_enter Tryz.func214,Tryz.ntmps214
 go_wp2_with fail
 generalize w.alloc (.cells #[.int .i64 r.fr,.int .i64 r.tn,.int .i64 r.st,.int .i64 r.en,.int .i64 r.ow] 36) = w2 at *
 refine (HQ.out ▸ mayAdd_any A n c d r w2 HD.out hn hs).mono ?_
 rintro e w3 ⟨rfl,hb3⟩
 replace hs:=hs.up hb3
 replace hBa:=hBa.trans (hb3.mono hBa.size)
 clear hb3
 go_wp2_with fail
 refine (cloneRg A n c d w3 HD.out hn hs).mono ?_
 rintro e w4 ⟨v,rfl,hown,hb4⟩
 have hown5:=own_down (base':=w.heap.size) hown hBa.size
 replace hBa:=hBa.trans (hb4.mono hBa.size)
 clear hown hb4 hs
 obtain ⟨A5,c5,rfl⟩:=slice_of_own hown5
 go_wp2
 go_ret2
 exact ⟨_,rfl,hown5,hBa⟩
theorem concat3Rg (g cO:Nat) (T:TypeId) (A0 A1 A2:Option Addr) (n0 n1 n2 c0 c1 c2:Nat) (d0 d1 d2:List Rg) (w:World) (hd0:d0.length = n0) (hd1:d1.length = n1) (hd2:d2.length = n2) (hn:n0 + n1 + n2 ≤ 1000000)
  (hO:Blok w g T #[.slice A0 n0 c0,.slice A1 n1 c1,.slice A2 n2 c2]) (h0:Sl w w.heap.size 5 A0 n0 c0 (flatRg d0)) (h1:Sl w w.heap.size 5 A1 n1 c1 (flatRg d1)) (h2:Sl w w.heap.size 5 A2 n2 c2 (flatRg d2)) :
  Calls Tryz.prog 233 #[.slice (some ⟨g,0,none⟩) 3 cO] w fun e w' => ∃ v,e = .returned v ∧ w'.ownsRow w.heap.size 36 5 v (n0 + n1 + n2) (flatRg (d0 ++ d1 ++ d2)) ∧ Below w.heap.size w w':=by
 have e3:catRg (fun k => if k = 0 then d0 else if k = 1 then d1 else d2) 3 = d0 ++ d1 ++ d2:=by simp [catRg]
 have h:=concatRg g 3 cO (fun k => if k = 0 then A0 else if k = 1 then A1 else A2) (fun k => if k = 0 then n0 else if k = 1 then n1 else n2) (fun k => if k = 0 then c0 else if k = 1 then c1 else c2) (fun k => if k = 0 then d0 else if k = 1 then d1 else d2) w (by omega)
  (fun k hk => by
   have h3:k = 0 ∨ k = 1 ∨ k = 2:=by omega
   rcases h3 with rfl | rfl | rfl <;> simpa) (by rw [e3]; simp; omega)
  (fun k hk => by
   have h3:k = 0 ∨ k = 1 ∨ k = 2:=by omega
   rcases h3 with rfl | rfl | rfl <;> (rw [hO.cell]; simp))
  (fun k hk => by
   have h3:k = 0 ∨ k = 1 ∨ k = 2:=by omega
   rcases h3 with rfl | rfl | rfl <;> simpa)
 rw [e3] at h
 refine h.mono ?_
 rintro e w' ⟨v,rfl,ho,hb⟩
 have hl:(d0 ++ d1 ++ d2).length = n0 + n1 + n2:=by simp; omega
 rw [hl] at ho
 exact ⟨v,rfl,ho,hb⟩
set_option maxHeartbeats 2000000 in
set_option maxRecDepth 100000 in
theorem add_yes (A:Option Addr) (n c:Nat) (d:List Rg) (r:Rg) (w:World) (hd:d.length = n) (hn:n ≤ 1000000 - 1) (h:Sl w w.heap.size 5 A n c (flatRg d)) (hq:mayF d r = 0) :
  Calls Tryz.prog 214 #[.slice A n c,.agg #[.int .i64 r.fr,.int .i64 r.tn,.int .i64 r.st,.int .i64 r.en,.int .i64 r.ow]] w fun e w' => ∃ v i,e = .returned (.tuple #[v,.int .i64 0]) ∧ i ≤ n ∧ (i = 0 ∨ cmpR (gRg d (i - 1)) r < 0) ∧ (i = n ∨ 0 ≤ cmpR (gRg d i) r) ∧ w'.ownsRow w.heap.size 36 5 v (n + 1) (flatRg (d.take i ++ [r] ++ d.drop i)) ∧ Below w.heap.size w w':=by
 have hBa:Below w.heap.size w (w.alloc (.cells #[.int .i64 r.fr,.int .i64 r.tn,.int .i64 r.st,.int .i64 r.en,.int .i64 r.ow] 36)):=by (repeat (first | exact Below.refl _ _ | refine Below.alloc ?_ (by first | omega | (simp; done) | (simp; omega)) _ | refine Below.setCell ?_ (by first | omega | (simp; done) | (simp; omega)) _ | refine Below.drew ?_))
 have hX:=Blok.new w 36 #[.int .i64 r.fr,.int .i64 r.tn,.int .i64 r.st,.int .i64 r.en,.int .i64 r.ow]
 have hs:=h.up hBa
 have HD:=Lib.hid hd
 have HQ:=Lib.hid hq
 have hcap:=h.cap
 have hmax:=h.max
 unfold maxLen at hmax
 have hsz:w.heap.size < (w.alloc (.cells #[.int .i64 r.fr,.int .i64 r.tn,.int .i64 r.st,.int .i64 r.en,.int .i64 r.ow] 36)).heap.size:=by simp
 clear h hd hq
 go_enter Tryz.func214,Tryz.ntmps214
 go_wp2_with fail
 generalize w.alloc (.cells #[.int .i64 r.fr,.int .i64 r.tn,.int .i64 r.st,.int .i64 r.en,.int .i64 r.ow] 36) = w2 at *
 refine (HQ.out ▸ mayAdd_any A n c d r w2 HD.out (by omega) hs).mono ?_
 rintro e w3 ⟨rfl,hb3⟩
 replace hs:=hs.up hb3
 replace hX:=hX.below hb3 hX.lt
 replace hBa:=hBa.trans (hb3.mono hBa.size)
 clear hb3
 have hx0:w3.cell? ⟨w.heap.size,0,none⟩ = some (.int .i64 r.fr):=hX.cell 0
 have hx1:w3.cell? ⟨w.heap.size,1,none⟩ = some (.int .i64 r.tn):=hX.cell 1
 have hx2:w3.cell? ⟨w.heap.size,2,none⟩ = some (.int .i64 r.st):=hX.cell 2
 have hx3:w3.cell? ⟨w.heap.size,3,none⟩ = some (.int .i64 r.en):=hX.cell 3
 have hx4:w3.cell? ⟨w.heap.size,4,none⟩ = some (.int .i64 r.ow):=hX.cell 4
 go_wp2_with fail
 clear hx0 hx1 hx2 hx3 hx4
 refine (binaryRg A n c d r _ _ _ w3 HD.out (by omega) hs (cmp_ranges r w3)).mono ?_
 rintro e w4 ⟨i,b,rfl,hi,hl,hu,hbv,hb4⟩
 have HL:=Lib.hid hl
 have HU:=Lib.hid hu
 replace hs:=hs.up hb4
 replace hX:=hX.below hb4 hX.lt
 replace hBa:=hBa.trans (hb4.mono hBa.size)
 clear hb4 hl hu hbv
 have hx0:w4.cell? ⟨w.heap.size,0,none⟩ = some (.int .i64 r.fr):=hX.cell 0
 have hx1:w4.cell? ⟨w.heap.size,1,none⟩ = some (.int .i64 r.tn):=hX.cell 1
 have hx2:w4.cell? ⟨w.heap.size,2,none⟩ = some (.int .i64 r.st):=hX.cell 2
 have hx3:w4.cell? ⟨w.heap.size,3,none⟩ = some (.int .i64 r.en):=hX.cell 3
 have hx4:w4.cell? ⟨w.heap.size,4,none⟩ = some (.int .i64 r.ow):=hX.cell 4
 have hiI:(i:Int) ≤ (n:Int):=by omega
 have hic:i ≤ c:=by omega
 have hicI:(i:Int) ≤ (c:Int):=by omega
 have hs1:=hs.upto hi
 have hs2:=hs.from_ hi
 rw [flatRg_take] at hs1
 rw [flatRg_drop] at hs2
 go_wp2_with fail
 have hdl:(d.drop i).length = n - i:=by rw [List.length_drop,HD.out]
 have hdt:(d.take i).length = i:=by rw [List.length_take,HD.out]; omega
 have HDL:=Lib.hid hdl
 have HDT:=Lib.hid hdt
 clear hdl hdt hX hs
 go_region_law (refine step_call rfl 233 #[.tmp 31] _ rfl #[.slice (some ⟨w4.heap.size + 1,0,none⟩) 3 3] (by simp [Act.eval,Act.put]) Tryz.func233 rfl rfl ?_; refine Calls.mono (concat3Rg (w4.heap.size + 1) 3 23 A (some ⟨w4.heap.size,0,none⟩) _ i 1 (n - i) c 1 (c - i) (d.take i) [r] (d.drop i) _ HDT.out rfl HDL.out (by omega) (by have h:=Blok.new (w4.alloc (.cells #[.int .i64 r.fr,.int .i64 r.tn,.int .i64 r.st,.int .i64 r.en,.int .i64 r.ow] 36)) 23 #[.slice A i c,.slice (some ⟨w4.heap.size,0,none⟩) 1 1,.slice (if c = i then A else Option.map (fun x => x.add (i * 5)) A) (n - i) (c - i)]; rw [World.size_alloc] at h; exact h) (hs1.up (by (repeat (first | exact Below.refl _ _ | refine Below.alloc ?_ (by first | omega | (simp; done) | (simp; omega)) _ | refine Below.setCell ?_ (by first | omega | (simp; done) | (simp; omega)) _ | refine Below.drew ?_)))) (by exact Sl.of_own ((own_lit w4 0 36 5 1 #[.int .i64 r.fr,.int .i64 r.tn,.int .i64 r.st,.int .i64 r.en,.int .i64 r.ow] (by omega) rfl (by simp [maxLen])).alloc _)) (hs2.up (by (repeat (first | exact Below.refl _ _ | refine Below.alloc ?_ (by first | omega | (simp; done) | (simp; omega)) _ | refine Below.setCell ?_ (by first | omega | (simp; done) | (simp; omega)) _ | refine Below.drew ?_))))) ?_; rintro e w5 ⟨v,rfl,hown,hb5⟩; refine ⟨_,rfl,?_⟩)
 have hfin:Below w.heap.size w w5:=(hBa.trans (Below.mono (by (repeat (first | exact Below.refl _ _ | refine Below.alloc ?_ (by first | omega | (simp; done) | (simp; omega)) _ | refine Below.setCell ?_ (by first | omega | (simp; done) | (simp; omega)) _ | refine Below.drew ?_))) hBa.size)).trans (hb5.mono (by have:=hBa.size; simp; omega))
 have hown6:=own_down (base':=w.heap.size) hown (by have:=hBa.size; simp; omega)
 rw [show i + 1 + (n - i) = n + 1 from by omega] at hown6
 clear hown hb5 hs1 hs2 hx0 hx1 hx2 hx3 hx4
 obtain ⟨A6,c6,rfl⟩:=slice_of_own hown6
 generalize (if c = i then A else Option.map (fun x => x.add (i * 5)) A) = A30
 go_wp2
 go_ret2
 exact ⟨_,i,rfl,hi,HL.out,HU.out,hown6,hfin⟩
def withOw (p:Rg) (x:Int):Rg:=⟨p.fr,p.tn,p.st,p.en,x⟩
theorem flatRg_ow:∀ (d:List Rg) (i:Nat) (x:Int),i < d.length → (flatRg d).set (i * 5 + 4) (.int .i64 x) = flatRg (d.set i (withOw (gRg d i) x))
 | p :: d,0,x,_ => rfl
 | p :: d,i + 1,x,h => by
  rw [flatRg_cons,show (i + 1) * 5 + 4 = i * 5 + 4 + 1 + 1 + 1 + 1 + 1 from by omega]
  simp only [List.set_cons_succ]
  rw [flatRg_ow d i x (by simpa using h)]
  rfl
set_option maxHeartbeats 2000000 in
set_option maxRecDepth 100000 in
theorem change_arg (A:Option Addr) (n c:Nat) (d:List Rg) (r:Rg) (w:World) (hd:d.length = n) (hn:n ≤ 1000000) (h:Sl w w.heap.size 5 A n c (flatRg d)) (ho:inB r.ow 0 2147483647 = false) :
  Calls Tryz.prog 216 #[.slice A n c,.agg #[.int .i64 r.fr,.int .i64 r.tn,.int .i64 r.st,.int .i64 r.en,.int .i64 r.ow]] w fun e w' => ∃ v,e = .returned (.tuple #[v,.int .i64 1]) ∧ w'.ownsRow w.heap.size 36 5 v n (flatRg d) ∧ Below w.heap.size w w':=by
 have hBa:Below w.heap.size w (w.alloc (.cells #[.int .i64 r.fr,.int .i64 r.tn,.int .i64 r.st,.int .i64 r.en,.int .i64 r.ow] 36)):=by (repeat (first | exact Below.refl _ _ | refine Below.alloc ?_ (by first | omega | (simp; done) | (simp; omega)) _ | refine Below.setCell ?_ (by first | omega | (simp; done) | (simp; omega)) _ | refine Below.drew ?_))
 have hX:=Blok.new w 36 #[.int .i64 r.fr,.int .i64 r.tn,.int .i64 r.st,.int .i64 r.en,.int .i64 r.ow]
 have hs:=h.up hBa
 have HD:=Lib.hid hd
 have HO:=Lib.hid ho
 have hsz:w.heap.size < (w.alloc (.cells #[.int .i64 r.fr,.int .i64 r.tn,.int .i64 r.st,.int .i64 r.en,.int .i64 r.ow] 36)).heap.size:=by simp
 clear h hd ho
 go_enter Tryz.func216,Tryz.ntmps216
 go_wp2_with fail
 generalize w.alloc (.cells #[.int .i64 r.fr,.int .i64 r.tn,.int .i64 r.st,.int .i64 r.en,.int .i64 r.ow] 36) = w2 at *
 refine (cloneRg A n c d w2 HD.out hn hs).mono ?_
 rintro e w3 ⟨v,rfl,hown,hb3⟩
 replace hX:=hX.below hb3 hX.lt
 have hown5:=own_down (base':=w.heap.size) hown hBa.size
 replace hBa:=hBa.trans (hb3.mono hBa.size)
 have hx0:w3.cell? ⟨w.heap.size,0,none⟩ = some (.int .i64 r.fr):=hX.cell 0
 have hx1:w3.cell? ⟨w.heap.size,1,none⟩ = some (.int .i64 r.tn):=hX.cell 1
 have hx2:w3.cell? ⟨w.heap.size,2,none⟩ = some (.int .i64 r.st):=hX.cell 2
 have hx3:w3.cell? ⟨w.heap.size,3,none⟩ = some (.int .i64 r.en):=hX.cell 3
 have hx4:w3.cell? ⟨w.heap.size,4,none⟩ = some (.int .i64 r.ow):=hX.cell 4
 clear hown hb3 hs hX
 obtain ⟨A5,c5,rfl⟩:=slice_of_own hown5
 go_wp2_with fail
 refine (in_is false HO.out w3).mono ?_
 rintro e w4 ⟨rfl,rfl⟩
 go_wp2
 go_ret2
 exact ⟨_,rfl,hown5,hBa⟩
set_option maxHeartbeats 2000000 in
set_option maxRecDepth 100000 in
theorem change_none (A:Option Addr) (n c:Nat) (d:List Rg) (r:Rg) (w:World) (hd:d.length = n) (hn:n ≤ 1000000) (h:Sl w w.heap.size 5 A n c (flatRg d)) (ho:inB r.ow 0 2147483647 = true) (hq:∀ j,j < n → sameR (gRg d j) r = false) :
  Calls Tryz.prog 216 #[.slice A n c,.agg #[.int .i64 r.fr,.int .i64 r.tn,.int .i64 r.st,.int .i64 r.en,.int .i64 r.ow]] w fun e w' => ∃ v,e = .returned (.tuple #[v,.int .i64 6]) ∧ w'.ownsRow w.heap.size 36 5 v n (flatRg d) ∧ Below w.heap.size w w':=by
 have hBa:Below w.heap.size w (w.alloc (.cells #[.int .i64 r.fr,.int .i64 r.tn,.int .i64 r.st,.int .i64 r.en,.int .i64 r.ow] 36)):=by (repeat (first | exact Below.refl _ _ | refine Below.alloc ?_ (by first | omega | (simp; done) | (simp; omega)) _ | refine Below.setCell ?_ (by first | omega | (simp; done) | (simp; omega)) _ | refine Below.drew ?_))
 have hX:=Blok.new w 36 #[.int .i64 r.fr,.int .i64 r.tn,.int .i64 r.st,.int .i64 r.en,.int .i64 r.ow]
 have hs:=h.up hBa
 have HD:=Lib.hid hd
 have HO:=Lib.hid ho
 have HQ:=Lib.hid hq
 have hsz:w.heap.size < (w.alloc (.cells #[.int .i64 r.fr,.int .i64 r.tn,.int .i64 r.st,.int .i64 r.en,.int .i64 r.ow] 36)).heap.size:=by simp
 clear h hd ho hq
 go_enter Tryz.func216,Tryz.ntmps216
 go_wp2_with fail
 generalize w.alloc (.cells #[.int .i64 r.fr,.int .i64 r.tn,.int .i64 r.st,.int .i64 r.en,.int .i64 r.ow] 36) = w2 at *
 refine (cloneRg A n c d w2 HD.out hn hs).mono ?_
 rintro e w3 ⟨v,rfl,hown,hb3⟩
 replace hX:=hX.below hb3 hX.lt
 have hown5:=own_down (base':=w.heap.size) hown hBa.size
 replace hBa:=hBa.trans (hb3.mono hBa.size)
 have hx0:w3.cell? ⟨w.heap.size,0,none⟩ = some (.int .i64 r.fr):=hX.cell 0
 have hx1:w3.cell? ⟨w.heap.size,1,none⟩ = some (.int .i64 r.tn):=hX.cell 1
 have hx2:w3.cell? ⟨w.heap.size,2,none⟩ = some (.int .i64 r.st):=hX.cell 2
 have hx3:w3.cell? ⟨w.heap.size,3,none⟩ = some (.int .i64 r.en):=hX.cell 3
 have hx4:w3.cell? ⟨w.heap.size,4,none⟩ = some (.int .i64 r.ow):=hX.cell 4
 clear hown hb3 hs
 obtain ⟨A5,c5,rfl⟩:=slice_of_own hown5
 go_wp2_with fail
 refine (in_is true HO.out w3).mono ?_
 rintro e w4 ⟨rfl,rfl⟩
 go_wp2_with fail
 clear hx0 hx1 hx2 hx3 hx4
 refine (begins_any r w3).mono ?_
 rintro e w4 ⟨g,rfl,hG,hg0,hbb⟩
 have hown6:=hown5.kept (grown_of_below (row:=some w3.heap.size) hbb) (.inr (fun e => by have:=(hown5.lt _ e).2; omega))
 replace hBa:=hBa.trans (hbb.mono hBa.size)
 go_wp2_with fail
 refine (indexRg A5 n c5 d _ _ none _ w4 HD.out hn (Sl.of_own hown6) (pred_begins r g none w4 hG (by simp)) n (Nat.le_refl _) HQ.out (fun h => by omega)).mono ?_
 rintro e w5 ⟨rfl,hb5⟩
 rw [idxOf_no (by omega:¬ n < n)]
 have hown7:=hown6.kept (grown_of_below (row:=some w4.heap.size) hb5) (.inr (fun e => by have:=(hown6.lt _ e).2; omega))
 replace hBa:=hBa.trans (hb5.mono hBa.size)
 clear hown5 hown6 hb5 hbb hG hX
 go_wp2
 go_ret2
 exact ⟨_,rfl,hown7,hBa⟩
set_option maxHeartbeats 2000000 in
set_option maxRecDepth 100000 in
theorem change_yes (A:Option Addr) (n c:Nat) (d:List Rg) (r:Rg) (w:World) (q:Nat) (hd:d.length = n) (hn:n ≤ 1000000) (h:Sl w w.heap.size 5 A n c (flatRg d)) (ho:inB r.ow 0 2147483647 = true) (hqn:q < n) (hq:∀ j,j < q → sameR (gRg d j) r = false) (hh:sameR (gRg d q) r = true) :
  Calls Tryz.prog 216 #[.slice A n c,.agg #[.int .i64 r.fr,.int .i64 r.tn,.int .i64 r.st,.int .i64 r.en,.int .i64 r.ow]] w fun e w' => ∃ v,e = .returned (.tuple #[v,.int .i64 0]) ∧ w'.ownsRow w.heap.size 36 5 v n (flatRg (d.set q (withOw (gRg d q) r.ow))) ∧ Below w.heap.size w w':=by
 have hBa:Below w.heap.size w (w.alloc (.cells #[.int .i64 r.fr,.int .i64 r.tn,.int .i64 r.st,.int .i64 r.en,.int .i64 r.ow] 36)):=by (repeat (first | exact Below.refl _ _ | refine Below.alloc ?_ (by first | omega | (simp; done) | (simp; omega)) _ | refine Below.setCell ?_ (by first | omega | (simp; done) | (simp; omega)) _ | refine Below.drew ?_))
 have hX:=Blok.new w 36 #[.int .i64 r.fr,.int .i64 r.tn,.int .i64 r.st,.int .i64 r.en,.int .i64 r.ow]
 have hs:=h.up hBa
 have HD:=Lib.hid hd
 have HO:=Lib.hid ho
 have HQ:=Lib.hid hq
 have HH:=Lib.hid hh
 have hsz:w.heap.size < (w.alloc (.cells #[.int .i64 r.fr,.int .i64 r.tn,.int .i64 r.st,.int .i64 r.en,.int .i64 r.ow] 36)).heap.size:=by simp
 clear h hd ho hq hh
 go_enter Tryz.func216,Tryz.ntmps216
 go_wp2_with fail
 generalize w.alloc (.cells #[.int .i64 r.fr,.int .i64 r.tn,.int .i64 r.st,.int .i64 r.en,.int .i64 r.ow] 36) = w2 at *
 refine (cloneRg A n c d w2 HD.out hn hs).mono ?_
 rintro e w3 ⟨v,rfl,hown,hb3⟩
 replace hX:=hX.below hb3 hX.lt
 have hown5:=own_down (base':=w.heap.size) hown hBa.size
 have hgR:v.ownBlock ≠ some w.heap.size:=fun e => by have:=(hown.lt _ e).1; omega
 replace hBa:=hBa.trans (hb3.mono hBa.size)
 have hx0:w3.cell? ⟨w.heap.size,0,none⟩ = some (.int .i64 r.fr):=hX.cell 0
 have hx1:w3.cell? ⟨w.heap.size,1,none⟩ = some (.int .i64 r.tn):=hX.cell 1
 have hx2:w3.cell? ⟨w.heap.size,2,none⟩ = some (.int .i64 r.st):=hX.cell 2
 have hx3:w3.cell? ⟨w.heap.size,3,none⟩ = some (.int .i64 r.en):=hX.cell 3
 have hx4:w3.cell? ⟨w.heap.size,4,none⟩ = some (.int .i64 r.ow):=hX.cell 4
 clear hown hb3 hs
 obtain ⟨g5,c5,rfl,hnc5,hcm5,hgb5,hgl5⟩:=own_at hown5 (by omega)
 unfold maxLen at hcm5
 go_wp2_with fail
 refine (in_is true HO.out w3).mono ?_
 rintro e w4 ⟨rfl,rfl⟩
 go_wp2_with fail
 clear hx0 hx1 hx2 hx3 hx4
 refine (begins_any r w3).mono ?_
 rintro e w4 ⟨g,rfl,hG,hg0,hbb⟩
 have hown6:=hown5.kept (grown_of_below (row:=some w3.heap.size) hbb) (.inr (fun e => by have:=(hown5.lt _ e).2; omega))
 replace hX:=hX.below hbb hX.lt
 replace hBa:=hBa.trans (hbb.mono hBa.size)
 go_wp2_with fail
 refine (indexRg _ n c5 d _ _ none _ w4 HD.out hn (Sl.of_own hown6) (pred_begins r g none w4 hG (by simp)) q (by omega) HQ.out (fun _ => HH.out)).mono ?_
 rintro e w5 ⟨rfl,hb5⟩
 rw [idxOf_yes hqn]
 have hown7:=hown6.kept (grown_of_below (row:=some w4.heap.size) hb5) (.inr (fun e => by have:=(hown6.lt _ e).2; omega))
 replace hX:=hX.below hb5 hX.lt
 replace hBa:=hBa.trans (hb5.mono hBa.size)
 clear hown5 hown6 hb5 hbb hG
 have hqi:(0:Int) ≤ (q:Int):=by omega
 have hqnI:(q:Int) < (n:Int):=by omega
 have hx4:w5.cell? ⟨w.heap.size,4,none⟩ = some (.int .i64 r.ow):=hX.cell 4
 have hc4:=(ownRg_at hown7 HD.out hqn).2.2.2.2
 have hf4:=hown7.frozenAt (q * 5 + 4)
 obtain ⟨hst,hgr⟩:=hown7.stored (q * 5 + 4) (.int .i64 r.ow)
 rw [flatRg_ow d q r.ow (by have:=HD.out; omega)] at hst
 clear hown7 hX
 go_wp2
 go_ret2
 exact ⟨_,rfl,hst,Below.grown hBa hgr hBa.size (fun k hk => by simp at hk; omega)⟩
end Go.Proofs.YtjldgcebadojiaaGreatDoor.Kr
