/- Several texts of mine in one: View2, View3, SortE. No condition. -/
import Derived.Test.YtodcoockhkghdaaGreatView
import Derived.Test.YtodcoockhkghdaaGreatGQ0
import Derived.Test.YtodcoockhkghdaaGreatShelf
import Derived.Sort.OwnSorted
namespace Go.Proofs.YtodcoockhkghdaaGreat.Kv
open Go.ChangeShapes Go.WideShapes Go.ChangeAt Go.RowKit Go.Sort
set_option linter.unusedSimpArgs false
set_option linter.unusedVariables false
theorem own_below {w w':World} {base:Nat} {e:TypeId} {size n:Nat} {v:Value} {xs:List Value} (h:w.ownsRow base e size v n xs) (hb:Below w.heap.size w w'):w'.ownsRow base e size v n xs:=
 h.kept (grown_of_below (row:=some w.heap.size) hb) (.inr (fun e => by have:=(h.lt _ e).2; omega))
theorem flatEd_one_ (y:Ed):flatEd [y] = [.int .i64 y.id,.int .i64 y.fr,.int .i64 y.tn,.int .i64 y.op,.int .i64 y.en,.int .i64 y.ra,.int .i64 y.ow,.int .i64 y.ro]:=rfl
def stepE (l:List Ed) (i:Nat):Bool:=(gEd l i).ok && (i == 0 || decide ((gEd l (i - 1)).id < (gEd l i).id))
def rightE (l:List Ed):Bool:=(List.range l.length).all (stepE l)
theorem rightE_true {l:List Ed}:rightE l = true ↔ ∀ i,i < l.length → stepE l i = true:=by simp [rightE,List.all_eq_true]
theorem rightE_false {l:List Ed} {i:Nat} (hi:i < l.length) (h:stepE l i = false):rightE l = false:=by
 rw [Bool.eq_false_iff]; intro e
 have:=rightE_true.1 e i hi
 rw [h] at this; cases this
theorem rightE_at {l:List Ed} (h:rightE l = true) {i:Nat} (hi:i < l.length):(gEd l i).ok = true ∧ (i ≠ 0 → (gEd l (i - 1)).id < (gEd l i).id):=by
 have:=rightE_true.1 h i hi
 unfold stepE at this
 simp only [Bool.and_eq_true,Bool.or_eq_true,beq_iff_eq,decide_eq_true_eq] at this
 exact ⟨this.1,fun h0 => this.2.resolve_left h0⟩
theorem rightE_lt {l:List Ed} (h:rightE l = true):∀ (j i:Nat),i < j → j < l.length → (gEd l i).id < (gEd l j).id
 | 0,i,h1,_ => by omega
 | j + 1,i,h1,h2 => by
  have hs:=(rightE_at h h2).2 (by omega)
  rw [Nat.add_sub_cancel] at hs
  by_cases e:i = j
  ·rw [e]; exact hs
  ·have:=rightE_lt h j i (by omega) (by omega); omega
theorem mem_gEd {l:List Ed} {e:Ed} (h:e ∈ l):∃ i,i < l.length ∧ gEd l i = e:=by
 obtain ⟨i,hi,rfl⟩:=List.getElem_of_mem h
 exact ⟨i,hi,gEd_eq hi⟩
theorem rightE_ok {l:List Ed} (h:rightE l = true) {e:Ed} (he:e ∈ l):e.ok = true:=by
 obtain ⟨i,hi,rfl⟩:=mem_gEd he
 exact (rightE_at h hi).1
def findE (l:List Ed) (id:Int):Option Ed:=l.find? (fun e => e.id == id)
theorem findE_some {l:List Ed} {id:Int} {e:Ed} (h:findE l id = some e):e ∈ l ∧ e.id = id:=
 ⟨List.mem_of_find?_eq_some h,by simpa using List.find?_some h⟩
theorem findE_at {l:List Ed} {id:Int} {i:Nat} (hi:i < l.length) (he:(gEd l i).id = id) (hn:∀ j,j < i → (gEd l j).id ≠ id):findE l id = some (gEd l i):=by
 unfold findE
 rw [List.find?_eq_some_iff_getElem]
 refine ⟨by simpa using he,i,hi,(gEd_eq hi).symm,fun j hj => ?_⟩
 have:=hn j hj
 rw [gEd_eq (by omega:j < l.length)] at this
 simpa using this
theorem findE_right {l:List Ed} (h:rightE l = true) {i:Nat} (hi:i < l.length):findE l (gEd l i).id = some (gEd l i):=
 findE_at hi rfl fun j hj => by have:=rightE_lt h i j hj hi; omega
theorem own_base {w:World} {b b':Nat} {e:TypeId} {s n:Nat} {v:Value} {xs:List Value} (h:w.ownsRow b e s v n xs) (hb:b' ≤ b):w.ownsRow b' e s v n xs:=
 ⟨h.1,h.2.imp id fun ⟨g,cap,cur,e,hg,r⟩ => ⟨g,cap,cur,e,Nat.le_trans hb hg,r⟩⟩
theorem take_snocCo {l:List Co} {i:Nat} (h:i < l.length):l.take (i + 1) = l.take i ++ [gCo l i]:=by
 rw [List.take_succ_eq_append_getElem h,gCo_eq h]
def allL (rs:List Rg) (bk:List Bk) (cl:Int) (cs:List Co):List Ed:=cs.filterMap fun c => edgeF rs bk c cl
def SortEdC:Prop:=∀ (u:Value) (l:List Ed) (base:Nat) (w:World),l.length ≤ 1000000 → w.ownsRow base 86 8 u l.length (flatEd l) →
  Calls Tryz.prog 52 #[u,.func (.func 53) #[] #[]] w fun e w' => ∃ m:List Ed,e = .returned (.tuple #[]) ∧ m.Perm l ∧ (∀ i j,i < j → j < m.length → (gEd m i).id ≤ (gEd m j).id) ∧ w'.ownsRow base 86 8 u l.length (flatEd m) ∧ w.grownBy w' u.ownBlock
set_option maxHeartbeats 8000000 in
set_option maxRecDepth 100000 in
theorem vall_of (HSORT:SortEdC) (A1:Option Addr) (n1 c1:Nat) (cs:List Co) (A:Option Addr) (n c:Nat) (rs:List Rg) (clk ver:Int) (A2:Option Addr) (n2 c2:Nat) (bk:List Bk) (cl:Int) (w:World) (hd1:cs.length = n1) (hn1:n1 ≤ 1000000) (hd:rs.length = n) (hn:n ≤ 1000000) (hd2:bk.length = n2) (hn2:n2 ≤ 1000000) (h1:Sl w w.heap.size 6 A1 n1 c1 (flatCo cs)) (h:Sl w w.heap.size 5 A n c (flatRg rs)) (h2:Sl w w.heap.size 4 A2 n2 c2 (flatBk bk)) (hr:Kr.rightB rs = true) (hr2:Kb.rightB bk = true) :
  Calls Tryz.prog 20 #[.agg #[.slice A1 n1 c1,.slice A n c,.int .i64 clk,.int .i64 ver],.slice A2 n2 c2,.int .i64 cl] w fun e w' => ∃ v m,e = .returned v ∧ m.Perm (allL rs bk cl cs) ∧ (∀ i j,i < j → j < m.length → (gEd m i).id ≤ (gEd m j).id) ∧ w'.ownsRow w.heap.size 86 8 v m.length (flatEd m) ∧ Below w.heap.size w w':=by
 obtain ⟨i0,hi0,hz0,hz1,hz2⟩:=info_parts infoEd
 have hB:Below w.heap.size w (w.alloc (.cells #[.slice A1 n1 c1,.slice A n c,.int .i64 clk,.int .i64 ver] 25)):=by (repeat (first | exact Below.refl _ _ | refine Below.alloc ?_ (by first | omega | (simp; done) | (simp; omega)) _ | refine Below.setCell ?_ (by first | omega | (simp; done) | (simp; omega)) _ | refine Below.drew ?_))
 have hP:=Blok.new w 25 #[.slice A1 n1 c1,.slice A n c,.int .i64 clk,.int .i64 ver]
 replace h:=h.below hB
 replace h1:=h1.below hB
 replace h2:=h2.below hB
 have HD:=Lib.hid hd
 have HD1:=Lib.hid hd1
 have HD2:=Lib.hid hd2
 have HR:=Lib.hid hr
 have HR2:=Lib.hid hr2
 have HS:=Lib.hid HSORT
 clear hd hd1 hd2 hr hr2 HSORT
 have p0:(w.alloc (.cells #[.slice A1 n1 c1,.slice A n c,.int .i64 clk,.int .i64 ver] 25)).cell? ⟨w.heap.size,0,none⟩ = some (.slice A1 n1 c1):=hP.cell 0
 have lt_p:=hP.lt
 have HP:=Lib.hid hP
 have HL:=Lib.hid h
 have HL1:=Lib.hid h1
 have HL2:=Lib.hid h2
 have HB:=Lib.hid hB
 have hs0:=hB.size
 clear h h1 h2 hB hP
 go_enter Tryz.func20,Tryz.ntmps20
 go_upto_region 2 with fail
 generalize w.alloc (.cells #[.slice A1 n1 c1,.slice A n c,.int .i64 clk,.int .i64 ver] 25) = w0 at *
 go_wp2_with fail
 clear p0 lt_p
 go_loopw [7,15] (fun ev iv wr => ∃ (es:List Ed) (k i:Nat),iv = .int .i64 i ∧ i ≤ n1 ∧ k ≤ i ∧ Hid (es.length = k) ∧ Hid (allL rs bk cl (cs.take i) = es) ∧ wr.ownsRow (w.heap.size + 1) 86 8 ev k (flatEd es) ∧ Below w.heap.size w wr ∧ Hid (Blok wr w.heap.size 25 #[.slice A1 n1 c1,.slice A n c,.int .i64 clk,.int .i64 ver]) ∧ Hid (Sl wr w.heap.size 6 A1 n1 c1 (flatCo cs)) ∧ Hid (Sl wr w.heap.size 5 A n c (flatRg rs)) ∧ Hid (Sl wr w.heap.size 4 A2 n2 c2 (flatBk bk))) (fun ev iv _ => n1 - (intOf iv).toNat)
 case atStart => exact ⟨[],0,0,rfl,by omega,by omega,rfl,by simp [Hid,allL],World.ownsRow_nil _ _ _ _,HB.out,HP.out,HL1.out,HL.out,HL2.out⟩
 case round =>
  clear HL HL1 HL2 HP HB hs0
  obtain ⟨es,k,i,rfl,hi,hk,HE,HF,hown,hB,HP,HL1,HL,HL2⟩:=hrel
  have hs:=hB.size
  obtain ⟨Ae,ce,rfl⟩:=slice_of_own hown
  have hltp:=HP.out.lt
  by_cases hin:i < n1
  ·obtain ⟨ad,rfl,hab,c0,c1',c2',c3,c4,c5⟩:=HL1.out.lst.atCo HD1.out hin
   have hin':i < cs.length:=by rw [HD1.out]; exact hin
   have hst:=take_snocCo hin'
   obtain ⟨x,hx⟩:∃ x,gCo cs i = x:=⟨_,rfl⟩
   rw [hx] at c0 c1' c2' c3 c4 c5 hst
   have HST:=Lib.hid hst
   have hX:=Blok.new wr 59 #[.int .i64 x.id,.int .i64 x.fr,.int .i64 x.tn,.int .i64 x.st,.int .i64 x.en,.int .i64 x.rt]
   have hBa:Below wr.heap.size wr (wr.alloc (.cells #[.int .i64 x.id,.int .i64 x.fr,.int .i64 x.tn,.int .i64 x.st,.int .i64 x.en,.int .i64 x.rt] 59)):=by (repeat (first | exact Below.refl _ _ | refine Below.alloc ?_ (by first | omega | (simp; done) | (simp; omega)) _ | refine Below.setCell ?_ (by first | omega | (simp; done) | (simp; omega)) _ | refine Below.drew ?_))
   have hB2:=hB.trans (hBa.mono hs)
   have hL2:=HL2.out.below (hBa.mono hs)
   have hL:=HL.out.below (hBa.mono hs)
   have hL1:=HL1.out.below (hBa.mono hs)
   have hP2:=HP.out.below hBa HP.out.lt
   have hown2:=own_below hown hBa
   clear hx hst
   go_upto_region 5 with fail
   clear c0 c1' c2' c3 c4 c5 hBa hB hown HL HL1 HL2 HP
   generalize wr.alloc (.cells #[.int .i64 x.id,.int .i64 x.fr,.int .i64 x.tn,.int .i64 x.st,.int .i64 x.en,.int .i64 x.rt] 59) = wx at *
   generalize wr.heap.size = bb at *
   have x0:wx.cell? ⟨bb,0,none⟩ = some (.int .i64 x.id):=hX.cell 0
   have x1:wx.cell? ⟨bb,1,none⟩ = some (.int .i64 x.fr):=hX.cell 1
   have x2:wx.cell? ⟨bb,2,none⟩ = some (.int .i64 x.tn):=hX.cell 2
   have x3:wx.cell? ⟨bb,3,none⟩ = some (.int .i64 x.st):=hX.cell 3
   have x4:wx.cell? ⟨bb,4,none⟩ = some (.int .i64 x.en):=hX.cell 4
   have x5:wx.cell? ⟨bb,5,none⟩ = some (.int .i64 x.rt):=hX.cell 5
   have lt_x:=hX.lt
   have p0:wx.cell? ⟨w.heap.size,0,none⟩ = some (.slice (some ad) n1 c1):=hP2.cell 0
   have p1:wx.cell? ⟨w.heap.size,1,none⟩ = some (.slice A n c):=hP2.cell 1
   have p2:wx.cell? ⟨w.heap.size,2,none⟩ = some (.int .i64 clk):=hP2.cell 2
   have p3:wx.cell? ⟨w.heap.size,3,none⟩ = some (.int .i64 ver):=hP2.cell 3
   have lt_p:=hP2.lt
   have hsx:=hB2.size
   obtain ⟨o,ho⟩:∃ o,edgeF rs bk x cl = o:=⟨_,rfl⟩
   obtain ⟨y,hy⟩:∃ y,o.getD zeroEd = y:=⟨_,rfl⟩
   have HO:=Lib.hid ho
   have HY:=Lib.hid hy
   have HE5:=Lib.hid (edge_any (some ad) n1 c1 A n c rs clk ver A2 n2 c2 bk x cl wx HD.out hn HD2.out hn2 (hL.more hsx) (hL2.more hsx) HR.out HR2.out o ho y hy)
   clear ho hy
   go_wp2_with fail
   refine HE5.out.mono ?_
   rintro e w4 ⟨rfl,hb⟩
   replace hB2:=hB2.trans (hb.mono hsx)
   have hL2:=hL2.below (hb.mono hsx)
   have hL:=hL.below (hb.mono hsx)
   have hL1:=hL1.below (hb.mono hsx)
   have hP2:=hP2.below hb hP2.lt
   have hown2:=own_below hown2 hb
   have hsx4:=hB2.size
   clear hb p0 p1 p2 p3 lt_p x0 x1 x2 x3 x4 x5 lt_x hX HE5 hsx
   have hBe:Below w4.heap.size w4 (w4.alloc (.cells #[.int .i64 y.id,.int .i64 y.fr,.int .i64 y.tn,.int .i64 y.op,.int .i64 y.en,.int .i64 y.ra,.int .i64 y.ow,.int .i64 y.ro] 86)):=by (repeat (first | exact Below.refl _ _ | refine Below.alloc ?_ (by first | omega | (simp; done) | (simp; omega)) _ | refine Below.setCell ?_ (by first | omega | (simp; done) | (simp; omega)) _ | refine Below.drew ?_))
   have hY:=Blok.new w4 86 #[.int .i64 y.id,.int .i64 y.fr,.int .i64 y.tn,.int .i64 y.op,.int .i64 y.en,.int .i64 y.ra,.int .i64 y.ow,.int .i64 y.ro]
   have hB2:=hB2.trans (hBe.mono hsx4)
   have hL2:=Lib.hid (hL2.below (hBe.mono hsx4))
   have hL:=Lib.hid (hL.below (hBe.mono hsx4))
   have hL1:=Lib.hid (hL1.below (hBe.mono hsx4))
   have hP2:=hP2.below hBe hP2.lt
   have hown2:=own_below hown2 hBe
   cases o with
   | none =>
    have hnx:allL rs bk cl (cs.take (i + 1)) = es:=by
     rw [HST.out,← HF.out]; unfold allL; rw [List.filterMap_append]; simp [HO.out]
    have HNX:=Lib.hid hnx
    have HP2:=Lib.hid hP2
    clear hnx hP2 HO HY hY
    go_wp2_with fail
    go_roundw
    case rel => exact ⟨es,k,i + 1,by go_num,by omega,by omega,HE,HNX,hown2,hB2,HP2,hL1,hL,hL2⟩
    case measure => simp [intOf]; omega
   | some y' =>
    obtain rfl:y' = y:=HY.out
    have hnx:allL rs bk cl (cs.take (i + 1)) = es ++ [y']:=by
     rw [HST.out,← HF.out]; unfold allL; rw [List.filterMap_append]; simp [HO.out]
    have HNX:=Lib.hid hnx
    clear hnx HO HY hBe
    go_upto_region 6 with fail
    generalize w4.alloc (.cells #[.int .i64 y'.id,.int .i64 y'.fr,.int .i64 y'.tn,.int .i64 y'.op,.int .i64 y'.en,.int .i64 y'.ra,.int .i64 y'.ow,.int .i64 y'.ro] 86) = w5 at *
    generalize w4.heap.size = be at *
    have y0:w5.cell? ⟨be,0,none⟩ = some (.int .i64 y'.id):=hY.cell 0
    have y1:w5.cell? ⟨be,1,none⟩ = some (.int .i64 y'.fr):=hY.cell 1
    have y2:w5.cell? ⟨be,2,none⟩ = some (.int .i64 y'.tn):=hY.cell 2
    have y3:w5.cell? ⟨be,3,none⟩ = some (.int .i64 y'.op):=hY.cell 3
    have y4:w5.cell? ⟨be,4,none⟩ = some (.int .i64 y'.en):=hY.cell 4
    have y5:w5.cell? ⟨be,5,none⟩ = some (.int .i64 y'.ra):=hY.cell 5
    have y6:w5.cell? ⟨be,6,none⟩ = some (.int .i64 y'.ow):=hY.cell 6
    have y7:w5.cell? ⟨be,7,none⟩ = some (.int .i64 y'.ro):=hY.cell 7
    have lt_y:=hY.lt
    have hsx:=hB2.size
    have HP2:=Lib.hid hP2
    clear hP2
    go_wp2_with (first | (at_builtin; refine wpList_append_own _ rfl _ _ 47 rfl (w.heap.size + 1) 86 i0 _ 8 64 Tryz.underlying47 hi0 hz0 hz1 hz2 rfl (by decide) _ _ _ rfl (hown2.alloc _) ⟨w5.heap.size,0,none⟩ 1 1 [.int .i64 y'.id,.int .i64 y'.fr,.int .i64 y'.tn,.int .i64 y'.op,.int .i64 y'.en,.int .i64 y'.ra,.int .i64 y'.ow,.int .i64 y'.ro] rfl rfl (by exact lit_cells w5 #[.int .i64 y'.id,.int .i64 y'.fr,.int .i64 y'.tn,.int .i64 y'.op,.int .i64 y'.en,.int .i64 y'.ra,.int .i64 y'.ow,.int .i64 y'.ro] _ _ rfl) (by simp [Value.oneCell']) (by unfold maxLen; omega) (by omega) (by simp; omega) ?_; intro v' w3 hown' hgrow3 hnil3; clear hnil3))
    have hbN:Below w.heap.size w w3:=(hB2.alloc hsx _).grown hgrow3 (by simp; omega) (fun q hq => by have:=(hown2.lt q hq).1; omega)
    have hgB:Below w5.heap.size w5 (w5.alloc (.cells #[.int .i64 y'.id,.int .i64 y'.fr,.int .i64 y'.tn,.int .i64 y'.op,.int .i64 y'.en,.int .i64 y'.ra,.int .i64 y'.ow,.int .i64 y'.ro] 86)):=by (repeat (first | exact Below.refl _ _ | refine Below.alloc ?_ (by first | omega | (simp; done) | (simp; omega)) _ | refine Below.setCell ?_ (by first | omega | (simp; done) | (simp; omega)) _ | refine Below.drew ?_))
    have hPN:=Lib.hid ((HP2.out.alloc (.cells #[.int .i64 y'.id,.int .i64 y'.fr,.int .i64 y'.tn,.int .i64 y'.op,.int .i64 y'.en,.int .i64 y'.ra,.int .i64 y'.ow,.int .i64 y'.ro] 86)).grown hgrow3 (fun e => by have:=(hown2.lt w.heap.size e.symm).1; omega))
    have hLN:=Lib.hid (hL.out.below (((Below.refl _ _).alloc hsx (.cells #[.int .i64 y'.id,.int .i64 y'.fr,.int .i64 y'.tn,.int .i64 y'.op,.int .i64 y'.en,.int .i64 y'.ra,.int .i64 y'.ow,.int .i64 y'.ro] 86)).grown hgrow3 (by simp; omega) (fun q hq => by have:=(hown2.lt q hq).1; omega)))
    have hLN1:=Lib.hid (hL1.out.below (((Below.refl _ _).alloc hsx (.cells #[.int .i64 y'.id,.int .i64 y'.fr,.int .i64 y'.tn,.int .i64 y'.op,.int .i64 y'.en,.int .i64 y'.ra,.int .i64 y'.ow,.int .i64 y'.ro] 86)).grown hgrow3 (by simp; omega) (fun q hq => by have:=(hown2.lt q hq).1; omega)))
    have hLN2:=Lib.hid (hL2.out.below (((Below.refl _ _).alloc hsx (.cells #[.int .i64 y'.id,.int .i64 y'.fr,.int .i64 y'.tn,.int .i64 y'.op,.int .i64 y'.en,.int .i64 y'.ra,.int .i64 y'.ow,.int .i64 y'.ro] 86)).grown hgrow3 (by simp; omega) (fun q hq => by have:=(hown2.lt q hq).1; omega)))
    clear hgrow3 y0 y1 y2 y3 y4 y5 y6 y7 lt_y hY hgB
    go_roundw
    case rel => exact ⟨es ++ [y'],k + 1,i + 1,by go_num,by omega,by omega,by simp [Hid,HE.out],HNX,(by rw [flatEd_append,flatEd_one_]; exact hown'),hbN,hPN,hLN1,hLN,hLN2⟩
    case measure => simp [intOf]; omega
  ·obtain rfl:i = n1:=by omega
   have hme:allL rs bk cl cs = es:=by
    rw [← HF.out,List.take_of_length_le (by rw [HD1.out]; omega)]
   have HM:=Lib.hid hme
   have hke:es.length = k:=HE.out
   subst hke
   have HSE:=Lib.hid (HS.out _ es (w.heap.size + 1) wr (by omega) hown)
   clear hme HE hown
   go_wp2_with fail
   refine HSE.out.mono ?_
   rintro e w6 ⟨m,rfl,hpm,hso,hown6,hg⟩
   have hB6:Below w.heap.size w w6:=hB.grown hg (by omega) (fun q hq => by have:=(hown6.lt q hq).1; omega)
   have HPM:=Lib.hid hpm
   have HSO:=Lib.hid hso
   have hle:=hpm.length_eq
   clear hpm hso hg
   go_wp2_with fail
   go_ret
   exact ⟨_,m,rfl,HM.out ▸ HPM.out,HSO.out,by rw [hle]; exact own_base hown6 (by omega),hB6⟩
instance inhEd:Inhabited Ed:=⟨zeroEd⟩
theorem flatEd_bang (l:List Ed):∀ t,t < l.length * 8 → (flatEd l)[t]? = (Ed.cs (l.toArray[t / 8]!))[t % 8]?:=by
 induction l with
 | nil => intro t h; simp at h
 | cons p d ih =>
  intro t h
  have hc:flatEd (p :: d) = Ed.cs p ++ flatEd d:=rfl
  rw [hc]
  by_cases h8:t < 8
  ·rw [List.getElem?_append_left (by exact h8)]
   have h1:t / 8 = 0:=by omega
   have h2:t % 8 = t:=by omega
   rw [h1,h2]; simp
  ·obtain ⟨s,rfl⟩:∃ s,t = s + 8:=⟨t - 8,by omega⟩
   rw [List.getElem?_append_right (by show 8 ≤ s + 8; omega)]
   show (flatEd d)[s + 8 - 8]? = _
   rw [Nat.add_sub_cancel,ih s (by simp at h; omega)]
   have h1:(s + 8) / 8 = s / 8 + 1:=by omega
   have h2:(s + 8) % 8 = s % 8:=by omega
   rw [h1,h2]
   have h3:d.toArray[s / 8]! = (p :: d).toArray[s / 8 + 1]!:=by simp
   rw [h3]
theorem flatK_Ed (l:List Ed):flatK Ed.cs 8 l.toArray = (flatEd l).toArray:=by
 refine ext_get! (by simp [flatEd_length]) fun t ht => ?_
 have ht':t < l.length * 8:=by simpa using ht
 rw [get_flatK _ _ _ _ (by simpa using ht'),List.getElem!_eq_getElem?_getD,← flatEd_bang l t ht']
 simp
theorem holds_of_blockV {w:World} {g:Nat} {cur:Array Value} {e:TypeId} {ss:List Value} (hb:w.heap[g]? = some (.cells cur e (0,0))) (ht:cur.toList.take ss.length = ss):Holds id w g 0 ss.toArray:=by
 intro j hj
 have hj':j < ss.length:=by simpa using hj
 refine ⟨?_,by simp [World.frozen?,hb]⟩
 have h1:(cur.toList.take ss.length)[j]? = ss[j]?:=by rw [ht]
 rw [List.getElem?_take_of_lt hj'] at h1
 simp only [World.cell?,hb,Nat.zero_add]
 simp only [Option.isSome_none,Bool.false_eq_true,if_false]
 rw [← Array.getElem?_toList,h1]
 simp [hj']
theorem heap_sortedV {w:World} {g n:Nat} {os:Array Obj} {cur:Array Value} {e:TypeId} {fr:Nat × Nat} (d:Array Value) (hb:w.heap[g]? = some (.cells cur e fr)) :
  (grow (putRow id (Sort.ahead w n) g 0 d) os).heap[g]? = some (.cells (putCells id 0 d cur) e fr):=by
 have hg:g < w.heap.size:=(Array.getElem?_eq_some_iff.1 hb).1
 rw [heap_grow_old _ _ (by simpa using hg)]
 simp [putRow,mapBlock,Sort.ahead,Array.getElem?_modify,hb,onCells]
theorem grownBy_sortedV {w:World} {g n:Nat} {os:Array Obj} (d:Array Value):w.grownBy (grow (putRow id (Sort.ahead w n) g 0 d) os) (some g):=by
 refine ⟨rfl,rfl,rfl,by simp,fun k hk hne => ?_⟩
 rw [heap_grow_old _ _ (by simpa using hk)]
 have:g ≠ k:=fun e => hne (by rw [e])
 simp [putRow,mapBlock,Sort.ahead,Array.getElem?_modify,this]
theorem take_putCellsV (cur:Array Value) (ts:List Value) (h:ts.length ≤ cur.size):(putCells id 0 ts.toArray cur).toList.take ts.length = ts:=by
 apply List.ext_getElem?
 intro j
 by_cases hj:j < ts.length
 ·rw [List.getElem?_take_of_lt hj,Array.getElem?_toList]
  simp [putCells,hj,show j < cur.size by omega]
 ·rw [List.getElem?_take_eq_none (by omega),List.getElem?_eq_none (by omega)]
theorem ownsRow_sortedV {w:World} {base g cap n k m:Nat} {e:TypeId} {os:Array Obj} {cur:Array Value} {ts:List Value} (hl:ts.length = n * k) (hbase:base ≤ g) (hb:w.heap[g]? = some (.cells cur e (0,0)))
  (h1:n ≤ cap) (h2:cap ≤ maxLen) (h3:cur.size = cap * k) :
  (grow (putRow id (Sort.ahead w m) g 0 ts.toArray) os).ownsRow base e k (.slice (some ⟨g,0,none⟩) n cap) n ts:=
 ⟨hl,.inr ⟨g,cap,_,rfl,hbase,heap_sortedV _ hb,h1,h2,by simp [putCells,h3],by rw [← hl]; exact take_putCellsV cur ts (by rw [h3,hl]; exact Nat.mul_le_mul_right k h1)⟩⟩
def cfEd (x y:Ed):Int:=Lib.compareInt x.id y.id
theorem ltEd (x y:Ed):ltOf cfEd x y = decide (x.id < y.id):=by
 unfold ltOf cfEd Lib.compareInt
 by_cases h1:x.id < y.id
 ·simp [h1]
 ·by_cases h2:y.id < x.id <;> simp [h1,h2]
theorem swoEd:SWO (ltOf cfEd):=
 ⟨fun x => by rw [ltEd]; simp,fun x y z h1 h2 => by rw [ltEd] at *; simp at *; omega,fun x y z h1 h2 => by rw [ltEd] at *; simp at *; omega⟩
set_option maxHeartbeats 1000000 in
theorem closureEd (x y:Ed) (W:World):Calls Tryz.prog 53 #[.agg #[.int .i64 x.id,.int .i64 x.fr,.int .i64 x.tn,.int .i64 x.op,.int .i64 x.en,.int .i64 x.ra,.int .i64 x.ow,.int .i64 x.ro],.agg #[.int .i64 y.id,.int .i64 y.fr,.int .i64 y.tn,.int .i64 y.op,.int .i64 y.en,.int .i64 y.ra,.int .i64 y.ow,.int .i64 y.ro]] W fun e w' => e = .returned (.int .i64 (cfEd x y)) ∧ ∃ q os',w' = grow (W.drewN q) os':=by
 have hcon:=fun W' => AnyG.cmp_Compare_int Tryz.cmpIntEd x.id y.id W'
 change ∀ W',Calls Tryz.prog 54 _ _ _ at hcon
 unfold cfEd
 generalize Lib.compareInt x.id y.id = r at hcon ⊢
 go_enter Tryz.func53,Tryz.ntmps53
 go_wp2_with (go_at_call 54; refine (hcon _).mono ?_; rintro e w' ⟨rfl,rfl⟩)
 go_ret
 exact ⟨rfl,0,_,by rw [alloc_eq_grow,alloc_eq_grow,grow_grow]; rfl⟩
theorem sortEd_any (u:Value) (l:List Ed) (base:Nat) (w:World) (hl:l.length ≤ 1000000) (hown:w.ownsRow base 86 8 u l.length (flatEd l)) :
  Calls Tryz.prog 52 #[u,.func (.func 53) #[] #[]] w fun e w' => ∃ m:List Ed,e = .returned (.tuple #[]) ∧ m.Perm l ∧ (∀ i j,i < j → j < m.length → (gEd m i).id ≤ (gEd m j).id) ∧ w'.ownsRow base 86 8 u l.length (flatEd m) ∧ w.grownBy w' u.ownBlock:=by
 rcases hown.2 with ⟨rfl,h0⟩ | ⟨g,cap,cur,rfl,hbase,hb,h1,h2,h3,h4⟩
 ·have hl0:l = []:=by
   have h:=flatEd_length l
   rw [h0] at h
   exact List.eq_nil_of_length_eq_zero (by simp at h; omega)
  subst hl0
  have hcon:=AnyF.slices_SortFunc_none Tryz.sortEd none 0 (.func (.func 53) #[] #[]) w
  change Calls Tryz.prog 52 _ _ _ at hcon
  refine hcon.mono ?_
  rintro e w' ⟨rfl,rfl⟩
  exact ⟨[],rfl,List.Perm.refl _,(fun i j _ hj => by simp at hj),hown,grown_refl _ _⟩
 ·have hH:HoldsK Ed.cs 8 w g 0 l.toArray:=by
   unfold HoldsK
   rw [flatK_Ed]
   exact holds_of_blockV hb (by rw [flatEd_length]; exact h4)
  have hgl:g < w.heap.size:=(Array.getElem?_eq_some_iff.1 hb).1
  have eg:∀ args w,(callFunc 53 args).run Tryz.prog w = .ok (.enter 53 args) w:=enters_of Tryz.func53 (by kernel_rfl) rfl
  have hcon:=AnyQ.slices_SortFunc Tryz.sortEd 8 Tryz.isAgg86 Tryz.sizeOf86 Ed.cs (fun _ => rfl) (fun x v hv => by simp [Ed.cs] at hv; rcases hv with rfl | rfl | rfl | rfl | rfl | rfl | rfl | rfl <;> rfl) cfEd swoEd 53 #[] g 0 cap l.toArray w eg (fun _ _ _ _ x y => closureEd x y _) hH hgl (by simp; omega)
  change Calls Tryz.prog 52 _ _ _ at hcon
  simp only [List.size_toArray] at hcon
  refine hcon.mono ?_
  rintro e w' ⟨rfl,d',n,os,hp,hs,rfl⟩
  obtain ⟨hsz,_,hpm⟩:=hp
  have hz:d'.size = l.length:=by simpa using hsz
  have hpm2:d'.toList.Perm l:=by
   have e1:(d'.extract 0 l.length) = d':=by rw [← hz]; simp
   have e2:(l.toArray.extract 0 l.length) = l.toArray:=by simp
   rw [e1,e2] at hpm
   simpa using hpm
  have hlen:d'.toList.length = l.length:=by simpa using hz
  refine ⟨d'.toList,rfl,hpm2,fun i j hij hj => ?_,?_,?_⟩
  ·have h:=hs i j (by omega) hij (by omega)
   rw [ltEd] at h
   have g1:∀ k,k < d'.size → d'[k]! = gEd d'.toList k:=fun k hk => by
    rw [gEd_eq (by simpa using hk)]; simp [hk]
   rw [g1 j (by simpa using hj),g1 i (by simp at hj; omega)] at h
   simpa using h
  ·have e1:sortWorldK Ed.cs 8 w g 0 n d' os = grow (putRow id (Sort.ahead w n) g 0 (flatEd d'.toList).toArray) os:=by
    unfold sortWorldK putRowK
    rw [show d' = d'.toList.toArray by simp,flatK_Ed]
   rw [e1]
   exact ownsRow_sortedV (by rw [flatEd_length,hlen]) hbase hb h1 h2 h3
  ·exact grownBy_sortedV _
end Go.Proofs.YtodcoockhkghdaaGreat.Kv
