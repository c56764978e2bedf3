/- Several texts of mine in one: BiBk, Ledger. No condition. -/
import Derived.Test.YtjldgcebadojiaaGreatDoorGQ12
import Derived.Test.YtjldgcebadojiaaGreatDoorGQ3
import Derived.Test.YtjldgcebadojiaaGreatDoorGQ0
namespace Go.Proofs.YtjldgcebadojiaaGreatDoor.Kb
open Go.ChangeShapes Go.WideShapes Go.ChangeAt Go.RowKit Go.Sort
set_option linter.unusedSimpArgs false
set_option linter.unusedVariables false
structure CmpIBk (g:FuncId) (lb:Array Value) (t:Int) (W:World) (cf:Bk → Int):Prop where
 run:∀ vals w,(callFunc g vals).run Tryz.prog w = .ok (.enter g vals) w
 tells:∀ w',Below W.heap.size W w' → ∀ x:Bk,Calls Tryz.prog g (#[.agg #[.int .i64 x.id,.int .i64 x.ua,.int .i64 x.ub,.int .i64 x.uc],.int .i64 t] ++ lb) w' fun e w'' => e = .returned (.int .i64 (cf x)) ∧ Below w'.heap.size w' w''
set_option maxHeartbeats 1000000 in
set_option maxRecDepth 100000 in
theorem binaryIBk (A:Option Addr) (n c:Nat) (d:List Bk) (t:Int) (g:FuncId) (lb:Array Value) (cf:Bk → Int) (w:World) (hd:d.length = n) (hn:n ≤ 1000000) (h:Sl w w.heap.size 4 A n c (flatBk d)) (hp:CmpIBk g lb t w cf) :
  Calls Tryz.prog 117 #[.slice A n c,.int .i64 t,.func (.func g) #[] lb] w fun e w' => ∃ (i:Nat) (b:Bool),e = .returned (.tuple #[.int .i64 i,.bool b]) ∧ i ≤ n ∧ (i = 0 ∨ cf (gBk d (i - 1)) < 0) ∧ (i = n ∨ 0 ≤ cf (gBk d i)) ∧ b = (decide (i < n) && cf (gBk d i) == 0) ∧ Below w.heap.size w w':=by
 have hcf:=hp.run
 have HP:=Lib.hid hp
 have HD:=Lib.hid hd
 clear hp hd
 go_enter Tryz.func117,Tryz.ntmps117
 go_wp2
 go_loopw [9,10] (fun iv jv wr => ∃ i j:Nat,iv = .int .i64 i ∧ jv = .int .i64 j ∧ i ≤ j ∧ j ≤ n ∧ Hid (i = 0 ∨ cf (gBk d (i - 1)) < 0) ∧ Hid (j = n ∨ 0 ≤ cf (gBk d j)) ∧ Below w.heap.size w wr) (fun iv jv _ => (intOf jv - intOf iv).toNat)
 case atStart => exact ⟨0,n,rfl,rfl,by omega,Nat.le_refl _,.inl rfl,.inl rfl,Below.refl _ _⟩
 case round =>
  obtain ⟨i,j,rfl,rfl,hij,hjn,HI,HJ,hB⟩:=hrel
  have hs:=hB.size
  by_cases hlt:i < j
  ·obtain ⟨m,hm⟩:∃ m:Nat,(i + j) / 2 = m:=⟨_,rfl⟩
   have hmi:((i:Int) + (j:Int)) / 2 = (m:Int):=by omega
   have hm1:i ≤ m:=by omega
   have hm2:m < j:=by omega
   have hmn:m < n:=by omega
   have hmI:(m:Int) < (n:Int):=by omega
   clear hm
   obtain ⟨ad,rfl,hab,c0,c1,c2,c3⟩:=(h.below hB).lst.atBk HD.out (k:=m) (by omega)
   obtain ⟨x,hx⟩:∃ x,gBk d m = x:=⟨_,rfl⟩
   rw [hx] at c0 c1 c2 c3
   have HX:=Lib.hid hx
   clear hx
   have ht:=HP.out.tells wr hB x
   obtain ⟨y,hy⟩:∃ y,cf x = y:=⟨_,rfl⟩
   rw [hy] at ht
   have HT:=Lib.hid ht
   have HY:=Lib.hid hy
   clear ht hy
   by_cases hneg:y < 0
   ·go_wp2_with fail
    refine HT.out.mono ?_
    rintro e w1 ⟨rfl,hbel⟩
    replace hB:=hB.trans (hbel.mono hs)
    clear hbel c0 c1 c2 c3 hmi
    go_wp2
    go_roundw
    case rel => exact ⟨m + 1,j,by go_num,rfl,by omega,by omega,(.inr (by rw [Nat.add_sub_cancel,HX.out,HY.out]; exact hneg)),HJ,hB⟩
    case measure => simp [intOf]; omega
   ·go_wp2_with fail
    refine HT.out.mono ?_
    rintro e w1 ⟨rfl,hbel⟩
    replace hB:=hB.trans (hbel.mono hs)
    clear hbel c0 c1 c2 c3 hmi
    go_wp2
    go_roundw
    case rel => exact ⟨i,m,rfl,rfl,by omega,by omega,HI,(.inr (by rw [HX.out,HY.out]; omega)),hB⟩
    case measure => simp [intOf]; omega
  ·obtain rfl:i = j:=by omega
   by_cases hin:i < n
   ·obtain ⟨ad,rfl,hab,c0,c1,c2,c3⟩:=(h.below hB).lst.atBk HD.out (k:=i) (by omega)
    obtain ⟨x,hx⟩:∃ x,gBk d i = x:=⟨_,rfl⟩
    rw [hx] at c0 c1 c2 c3
    have HX:=Lib.hid hx
    clear hx
    have hini:(i:Int) < (n:Int):=by omega
    have ht:=HP.out.tells wr hB x
    obtain ⟨y,hy⟩:∃ y,cf x = y:=⟨_,rfl⟩
    rw [hy] at ht
    have HT:=Lib.hid ht
    have HY:=Lib.hid hy
    clear ht hy
    go_wp2_with fail
    refine HT.out.mono ?_
    rintro e w1 ⟨rfl,hbel⟩
    replace hB:=hB.trans (hbel.mono hs)
    clear hbel c0 c1 c2 c3
    go_wp2
    go_ret2
    refine ⟨i,(y == 0),rfl,hjn,HI.out,HJ.out,?_,hB⟩
    rw [HX.out,HY.out,decide_eq_true hin]; simp
   ·have hdn:decide ((i:Int) < (n:Int)) = false:=by simp; omega
    go_wp2
    go_ret2
    refine ⟨i,false,rfl,hjn,HI.out,HJ.out,?_,hB⟩
    rw [decide_eq_false hin]; simp
def SortB (d:List Bk):Prop:=d.Pairwise (fun a b => a.id < b.id)
def pl (d:List Bk) (id:Int):Nat:=(d.filter (fun x => decide (x.id < id))).length
def hit (d:List Bk) (id:Int):Bool:=d.any (fun x => x.id == id)
def rowB (d:List Bk) (id:Int):Bk:=if hit d id = true then gBk d (pl d id) else ⟨id,0,0,0⟩
theorem mem_gBk {d:List Bk} {y:Bk} (h:y ∈ d):∃ j,j < d.length ∧ gBk d j = y:=by
 obtain ⟨j,hj,e⟩:=List.mem_iff_getElem.1 h
 exact ⟨j,hj,by rw [gBk_eq hj,e]⟩
theorem SortB.at_ {d:List Bk} (h:SortB d) {i j:Nat} (hij:i < j) (hj:j < d.length):(gBk d i).id < (gBk d j).id:=by
 have:=List.pairwise_iff_getElem.1 h i j (by omega) hj hij
 rw [gBk_eq hj,gBk_eq (by omega:i < d.length)]
 exact this
theorem pl_of {d:List Bk} {id:Int} {i:Nat} (hs:SortB d) (hi:i ≤ d.length) (h1:i = 0 ∨ (gBk d (i - 1)).id < id) (h2:i = d.length ∨ id ≤ (gBk d i).id):pl d id = i:=by
 unfold pl
 have e1:(d.take i).filter (fun x => decide (x.id < id)) = d.take i:=List.filter_eq_self.2 (fun x hx => by
  obtain ⟨j,hj,rfl⟩:=List.mem_take_iff_getElem.1 hx
  rw [decide_eq_true_eq]
  rcases h1 with h1 | h1
  ·omega
  ·by_cases e:j = i - 1
   ·rw [gBk_eq (by omega)] at h1
    subst e
    exact h1
   ·have:=hs.at_ (i:=j) (j:=i - 1) (by omega) (by omega)
    rw [gBk_eq (by omega:j < d.length)] at this
    omega)
 have e2:(d.drop i).filter (fun x => decide (x.id < id)) = []:=List.filter_eq_nil_iff.2 (fun x hx => by
  obtain ⟨j,hj',rfl⟩:=List.mem_drop_iff_getElem.1 hx
  have hj:i + j < d.length:=by omega
  rw [decide_eq_true_eq]
  rcases h2 with h2 | h2
  ·omega
  ·by_cases e:j = 0
   ·subst e
    rw [gBk_eq (by omega)] at h2
    simp only [Nat.add_zero]
    omega
   ·have:=hs.at_ (i:=i) (j:=i + j) (by omega) hj
    rw [gBk_eq hj] at this
    omega)
 conv => lhs; rw [← List.take_append_drop i d]
 rw [List.filter_append,e1,e2,List.append_nil,List.length_take]
 omega
theorem pl_le (d:List Bk) (id:Int):pl d id ≤ d.length:=List.length_filter_le _ _
theorem hit_iff {d:List Bk} {id:Int} {i:Nat} (hs:SortB d) (hi:i ≤ d.length) (h1:i = 0 ∨ (gBk d (i - 1)).id < id) (h2:i = d.length ∨ id ≤ (gBk d i).id):hit d id = (decide (i < d.length) && ((gBk d i).id == id)):=by
 unfold hit
 rw [Bool.eq_iff_iff]
 simp only [List.any_eq_true,beq_iff_eq,Bool.and_eq_true,decide_eq_true_eq]
 constructor
 ·rintro ⟨x,hx,rfl⟩
  obtain ⟨j,hj,rfl⟩:=mem_gBk hx
  have h3:¬ j < i:=fun hlt => by
   rcases h1 with h1 | h1
   ·omega
   ·by_cases e:j = i - 1
    ·rw [← e] at h1; omega
    ·have:=hs.at_ (i:=j) (j:=i - 1) (by omega) (by omega)
     omega
  rcases h2 with h2 | h2
  ·omega
  ·by_cases e:j = i
   ·subst e; exact ⟨hj,rfl⟩
   ·have:=hs.at_ (i:=i) (j:=j) (by omega) hj
    omega
 ·rintro ⟨hi2,he⟩
  exact ⟨_,gBk_mem hi2,he⟩
theorem hit_at {d:List Bk} {id:Int} (hs:SortB d) (h:hit d id = true):pl d id < d.length ∧ (gBk d (pl d id)).id = id:=by
 unfold hit at h
 obtain ⟨x,hx,he⟩:=List.any_eq_true.1 h
 obtain ⟨j,hj,rfl⟩:=mem_gBk hx
 have he:(gBk d j).id = id:=by simpa using he
 have:pl d id = j:=pl_of hs (by omega) (by
  by_cases e:j = 0
  ·exact .inl e
  ·right
   have:=hs.at_ (i:=j - 1) (j:=j) (by omega) hj
   omega) (.inr (by omega))
 rw [this]
 exact ⟨hj,he⟩
set_option maxHeartbeats 1000000 in
set_option maxRecDepth 100000 in
theorem find1_any (x:Bk) (id:Int) (w:World):Calls Tryz.prog 118 #[.agg #[.int .i64 x.id,.int .i64 x.ua,.int .i64 x.ub,.int .i64 x.uc],.int .i64 id] w fun e w' => e = .returned (.int .i64 (cmpI x.id id)) ∧ Below w.heap.size w w':=by
 obtain ⟨p,hp⟩:∃ p,cmpI x.id id = p:=⟨_,rfl⟩
 have HP:=Lib.hid hp
 rw [hp]
 clear hp
 go_enter Tryz.func118,Tryz.ntmps118
 go_wp2_with fail
 refine (HP.out ▸ cmp_any x.id id _).mono ?_
 rintro e w3 ⟨rfl,rfl⟩
 go_wp2
 go_ret
 exact ⟨rfl,by (repeat (first | exact Below.refl _ _ | refine Below.alloc ?_ (by first | omega | (simp; done) | (simp; omega)) _ | refine Below.setCell ?_ (by first | omega | (simp; done) | (simp; omega)) _ | refine Below.drew ?_))⟩
theorem cmpI_neg {a b:Int}:cmpI a b < 0 ↔ a < b:=by
 rcases Int.lt_trichotomy a b with h | h | h
 ·rw [cmpI_lt h]; omega
 ·rw [cmpI_zero.2 h]; omega
 ·rw [cmpI_gt h]; omega
theorem cmp_bk (t:Int) (w:World):CmpIBk 118 #[] t w (fun x => cmpI x.id t):=
 ⟨enter_run Tryz.func118 rfl rfl,fun w' _ x => find1_any x t w'⟩
set_option maxRecDepth 100000 in
theorem find_any (A:Option Addr) (n c:Nat) (d:List Bk) (id:Int) (w:World) (hd:d.length = n) (hn:n ≤ 1000000) (h:Sl w w.heap.size 4 A n c (flatBk d)) (hs:SortB d) (i:Nat) (b:Bool) (hi:pl d id = i) (hb:hit d id = b) :
  Calls Tryz.prog 68 #[.slice A n c,.int .i64 id] w fun e w' => e = .returned (.tuple #[.int .i64 i,.bool b]) ∧ Below w.heap.size w w':=by
 have hc:=(binaryIBk A n c d id _ _ _ w hd hn h (cmp_bk id w)).mono (fun e w' ⟨j,b',he,hj,h1,h2,hb',hB⟩ => (show e = Ending.returned (.tuple #[.int .i64 i,.bool b]) ∧ Below w.heap.size w w' from by
  have h1':j = 0 ∨ (gBk d (j - 1)).id < id:=h1.imp (fun h => h) (fun h => cmpI_neg.1 h)
  have h2':j = d.length ∨ id ≤ (gBk d j).id:=h2.imp (fun h => by omega) (fun h => by
   by_cases e:(gBk d j).id < id
   ·have:=cmpI_neg.2 e
    omega
   ·omega)
  have e1:j = i:=by rw [← hi]; exact (pl_of hs (by omega) h1' h2').symm
  have e2:b' = b:=by
   rw [hb',← hb,hit_iff hs (by omega) h1' h2',hd]
   congr 1
   rw [Bool.eq_iff_iff,beq_iff_eq,beq_iff_eq,cmpI_zero]
  rw [he,e1,e2]
  exact ⟨rfl,hB⟩))
 have HC:=Lib.hid hc
 clear hc hi hb hs
 go_enter Tryz.func68,Tryz.ntmps68
 go_wp2_with fail
 refine HC.out.mono ?_
 rintro e w1 ⟨rfl,hB⟩
 go_wp2
 go_ret2
 exact ⟨rfl,hB⟩
set_option maxHeartbeats 1000000 in
set_option maxRecDepth 100000 in
theorem used_any (A:Option Addr) (n c:Nat) (d:List Bk) (id:Int) (w:World) (hd:d.length = n) (hn:n ≤ 1000000) (h:Sl w w.heap.size 4 A n c (flatBk d)) (hs:SortB d) (x:Bk) (hx:rowB d id = x) :
  Calls Tryz.prog 28 #[.slice A n c,.int .i64 id] w fun e w' => e = .returned (.agg #[.int .i64 x.ua,.int .i64 x.ub,.int .i64 x.uc]) ∧ Below w.heap.size w w':=by
 obtain ⟨b,hb⟩:∃ b,hit d id = b:=⟨_,rfl⟩
 have hBa:Below w.heap.size w (w.alloc (.cells #[.int .i64 0,.int .i64 0,.int .i64 0] 48)):=by (repeat (first | exact Below.refl _ _ | refine Below.alloc ?_ (by first | omega | (simp; done) | (simp; omega)) _ | refine Below.setCell ?_ (by first | omega | (simp; done) | (simp; omega)) _ | refine Below.drew ?_))
 have hX:=Blok.new w 48 #[.int .i64 0,.int .i64 0,.int .i64 0]
 have hl:=h.up hBa
 cases b with
 | false =>
  have hz:x = ⟨id,0,0,0⟩:=by rw [← hx]; unfold rowB; rw [if_neg (by rw [hb]; simp)]
  subst hz
  have HF:=Lib.hid (find_any A n c d id _ hd hn hl hs _ false rfl hb)
  clear hx hb h hl
  go_enter Tryz.func28,Tryz.ntmps28
  go_wp2_with fail
  generalize w.alloc (.cells #[.int .i64 0,.int .i64 0,.int .i64 0] 48) = w2 at *
  refine HF.out.mono ?_
  rintro e w5 ⟨rfl,hb5⟩
  replace hX:=hX.below hb5 hX.lt
  replace hBa:=hBa.trans (hb5.mono hBa.size)
  clear hb5 HF
  have r0:w5.cell? ⟨w.heap.size,0,none⟩ = some (.int .i64 0):=hX.cell 0
  have r1:w5.cell? ⟨w.heap.size,1,none⟩ = some (.int .i64 0):=hX.cell 1
  have r2:w5.cell? ⟨w.heap.size,2,none⟩ = some (.int .i64 0):=hX.cell 2
  have f0:=hX.free 0
  have f1:=hX.free 1
  have f2:=hX.free 2
  have hlt:=hX.lt
  have HXX:=Lib.hid hX
  clear hX
  go_wp2
  have hX:=HXX.out
  clear r0 r1 r2
  have hF:Blok (((w5.setCell ⟨w.heap.size,0,none⟩ (.int .i64 0)).setCell ⟨w.heap.size,1,none⟩ (.int .i64 0)).setCell ⟨w.heap.size,2,none⟩ (.int .i64 0)) w.heap.size 48 #[.int .i64 0,.int .i64 0,.int .i64 0]:=by have h:=(((hX.set_ 0 (.int .i64 0)).set_ 1 (.int .i64 0)).set_ 2 (.int .i64 0)); simpa using h
  have hle0:w.heap.size ≤ w.heap.size:=by first | exact Nat.le_refl _ | omega
  have hWf:Below w.heap.size w (((w5.setCell ⟨w.heap.size,0,none⟩ (.int .i64 0)).setCell ⟨w.heap.size,1,none⟩ (.int .i64 0)).setCell ⟨w.heap.size,2,none⟩ (.int .i64 0)):=(((hBa.setCell (p:=⟨w.heap.size,0,none⟩) hle0 (.int .i64 0)).setCell (p:=⟨w.heap.size,1,none⟩) hle0 (.int .i64 0)).setCell (p:=⟨w.heap.size,2,none⟩) hle0 (.int .i64 0))
  have hlF:=hF.lt
  generalize (((w5.setCell ⟨w.heap.size,0,none⟩ (.int .i64 0)).setCell ⟨w.heap.size,1,none⟩ (.int .i64 0)).setCell ⟨w.heap.size,2,none⟩ (.int .i64 0)) = wf at *
  have r0:wf.cell? ⟨w.heap.size,0,none⟩ = some (.int .i64 0):=hF.cell 0
  have r1:wf.cell? ⟨w.heap.size,1,none⟩ = some (.int .i64 0):=hF.cell 1
  have r2:wf.cell? ⟨w.heap.size,2,none⟩ = some (.int .i64 0):=hF.cell 2
  refine bodyPost_ret (v:=.agg #[.int .i64 0,.int .i64 0,.int .i64 0]) (by simp [results,Tryz.results28,go_sem,r0,r1,r2,hlF]) rfl ?_
  exact ⟨rfl,hWf⟩
 | true =>
  obtain ⟨hp,_⟩:=hit_at hs hb
  have hxg:gBk d (pl d id) = x:=by rw [← hx]; unfold rowB; rw [if_pos hb]
  obtain ⟨q,hq⟩:∃ q,pl d id = q:=⟨_,rfl⟩
  rw [hq] at hp hxg
  have hqn:q < n:=by omega
  obtain ⟨ad,rfl, -⟩:=h.lst.atBk hd hqn
  have hcap:=h.cap
  have HF:=Lib.hid (find_any (some ad) n c d id _ hd hn hl hs q true hq hb)
  have HX:=Lib.hid hxg
  have HD:=Lib.hid hd
  clear hx hb h hq hp hxg hd hs
  go_enter Tryz.func28,Tryz.ntmps28
  go_wp2_with fail
  generalize w.alloc (.cells #[.int .i64 0,.int .i64 0,.int .i64 0] 48) = w2 at *
  refine HF.out.mono ?_
  rintro e w5 ⟨rfl,hb5⟩
  replace hl:=hl.up hb5
  replace hX:=hX.below hb5 hX.lt
  replace hBa:=hBa.trans (hb5.mono hBa.size)
  clear hb5 HF
  obtain ⟨ad',he,hab,c0,c1,c2,c3⟩:=hl.lst.atBk HD.out hqn
  injection he with he
  subst he
  rw [HX.out] at c0 c1 c2 c3
  have r0:w5.cell? ⟨w.heap.size,0,none⟩ = some (.int .i64 0):=hX.cell 0
  have r1:w5.cell? ⟨w.heap.size,1,none⟩ = some (.int .i64 0):=hX.cell 1
  have r2:w5.cell? ⟨w.heap.size,2,none⟩ = some (.int .i64 0):=hX.cell 2
  have f0:=hX.free 0
  have f1:=hX.free 1
  have f2:=hX.free 2
  have hlt:=hX.lt
  have hq0:(0:Int) ≤ (q:Int):=by omega
  have hqI:(q:Int) < (n:Int):=by omega
  have HXX:=Lib.hid hX
  clear hl hX
  go_wp2
  have hX:=HXX.out
  clear r0 r1 r2
  have hF:Blok (((w5.setCell ⟨w.heap.size,0,none⟩ (.int .i64 x.ua)).setCell ⟨w.heap.size,1,none⟩ (.int .i64 x.ub)).setCell ⟨w.heap.size,2,none⟩ (.int .i64 x.uc)) w.heap.size 48 #[.int .i64 x.ua,.int .i64 x.ub,.int .i64 x.uc]:=by have h:=(((hX.set_ 0 (.int .i64 x.ua)).set_ 1 (.int .i64 x.ub)).set_ 2 (.int .i64 x.uc)); simpa using h
  have hle0:w.heap.size ≤ w.heap.size:=by first | exact Nat.le_refl _ | omega
  have hWf:Below w.heap.size w (((w5.setCell ⟨w.heap.size,0,none⟩ (.int .i64 x.ua)).setCell ⟨w.heap.size,1,none⟩ (.int .i64 x.ub)).setCell ⟨w.heap.size,2,none⟩ (.int .i64 x.uc)):=(((hBa.setCell (p:=⟨w.heap.size,0,none⟩) hle0 (.int .i64 x.ua)).setCell (p:=⟨w.heap.size,1,none⟩) hle0 (.int .i64 x.ub)).setCell (p:=⟨w.heap.size,2,none⟩) hle0 (.int .i64 x.uc))
  have hlF:=hF.lt
  generalize (((w5.setCell ⟨w.heap.size,0,none⟩ (.int .i64 x.ua)).setCell ⟨w.heap.size,1,none⟩ (.int .i64 x.ub)).setCell ⟨w.heap.size,2,none⟩ (.int .i64 x.uc)) = wf at *
  have r0:wf.cell? ⟨w.heap.size,0,none⟩ = some (.int .i64 x.ua):=hF.cell 0
  have r1:wf.cell? ⟨w.heap.size,1,none⟩ = some (.int .i64 x.ub):=hF.cell 1
  have r2:wf.cell? ⟨w.heap.size,2,none⟩ = some (.int .i64 x.uc):=hF.cell 2
  refine bodyPost_ret (v:=.agg #[.int .i64 x.ua,.int .i64 x.ub,.int .i64 x.uc]) (by simp [results,Tryz.results28,go_sem,r0,r1,r2,hlF]) rfl ?_
  exact ⟨rfl,hWf⟩
theorem class_any (cl:Int) (w:World) (b:Bool) (hb:inB cl 0 2 = b) :
  Calls Tryz.prog 56 #[.int .i64 cl] w fun e w' => e = .returned (.bool b) ∧ w = w':=by
 have HB:=Lib.hid hb
 clear hb
 go_enter Tryz.func56,Tryz.ntmps56
 go_wp2_with fail
 refine (in_is b HB.out w).mono ?_
 rintro e w1 ⟨rfl,rfl⟩
 go_wp2
 go_ret
 exact ⟨rfl,rfl⟩
end Go.Proofs.YtjldgcebadojiaaGreatDoor.Kb
