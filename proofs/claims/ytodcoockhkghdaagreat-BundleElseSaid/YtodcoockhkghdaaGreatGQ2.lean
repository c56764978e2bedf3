/- Several texts of mine in one: MapIB, Ledger, TyCo, SlCo, StCo, Contacts. No condition. -/
import Derived.Test.YtodcoockhkghdaaGreatChecked
import Derived.Test.YtodcoockhkghdaaGreatGQ0
import Derived.Maps.OwnOps
import Derived.Maps.Views
import Derived.Test.YtodcoockhkghdaaGreatGQ1
import Derived.Test.YtodcoockhkghdaaGreatGQ4
import Derived.Test.YtodcoockhkghdaaGreatGQ36
import Derived.StillTailTactics
import Derived.Deep.RegionHeld3
namespace Go.Proofs.YtodcoockhkghdaaGreat
open Go.ChangeShapes Go.WideShapes Go.ChangeAt Go.RowKit Go.Sort
set_option linter.unusedSimpArgs false
set_option linter.unusedVariables false
open Go.Maps (Keyed)
theorem keyedI:Keyed Tryz.prog 3:=Maps.int_keyed Tryz.underlying3
theorem zeroB (w:World):(zeroValue 4).run Tryz.prog w = .ok (.bool false) w:=by kernel_rfl
def SetW (w:World) (b n:Nat) (S:Int → Bool):Prop:=
 ∃ D:DataW Unit,w.ownsMap Tryz.prog 3 (plainElem Tryz.prog 4) b n D ∧ Maps.IsMap D ∧ ∀ k,(Lit.int .i64 k).wf = true → D.atKey (.int .i64 k) (.lit (.bool false)) = .lit (.bool (S k))
theorem wfI {k:Int} (h : -9223372036854775808 ≤ k ∧ k ≤ 9223372036854775807):(Lit.int .i64 k).wf = true:=by
 simp [Lit.wf,IntKind.min,IntKind.max,IntKind.signed,IntKind.bits]; omega
theorem plainElem_bool_inv {P:Program} {e:TypeId} (he:P.underlying e = some .bool) {v:Value} {z:DataW Unit × List MemPlace} (h:plainElem P e v = some z):∃ x,v = .bool x ∧ z = (.lit (.bool x),[]):=by
 unfold plainElem at h
 rw [he] at h
 cases v <;> simp at h
 rename_i x
 exact ⟨x,rfl,h.symm⟩
theorem SetW.made (w:World):SetW (w.alloc (.map #[] 0)) w.heap.size 0 (fun _ => false):=
 ⟨.map [],World.ownsMap_made _ _ _ _,⟨[],rfl⟩,fun k _ => rfl⟩
theorem SetW.lt {w:World} {b n:Nat} {S:Int → Bool} (h:SetW w b n S):b < w.heap.size:=let ⟨_,h,_⟩:=h; h.lt
theorem SetW.kept {w w':World} {b n:Nat} {S:Int → Bool} {row:Option Nat} (h:SetW w b n S) (hg:w.grownBy w' row) (hne:some b ≠ row):SetW w' b n S:=let ⟨D,h1,h2⟩:=h; ⟨D,h1.kept hg hne,h2⟩
theorem SetW.below {w w':World} {b n:Nat} {S:Int → Bool} (h:SetW w b n S) (hb:Below w.heap.size w w'):SetW w' b n S:=h.kept (grown_of_below (row:=none) hb) (by simp)
theorem SetW.alloc {w:World} {b n:Nat} {S:Int → Bool} (h:SetW w b n S) (o:Obj):SetW (w.alloc o) b n S:=let ⟨D,h1,h2⟩:=h; ⟨D,h1.alloc o,h2⟩
theorem SetW.drew {w:World} {b n:Nat} {S:Int → Bool} (h:SetW w b n S):SetW w.drew b n S:=h
theorem SetW.congr {w:World} {b n:Nat} {S S':Int → Bool} (h:SetW w b n S) (e:∀ k,(Lit.int .i64 k).wf = true → S k = S' k):SetW w b n S':=let ⟨D,h1,h2,h3⟩:=h; ⟨D,h1,h2,fun k hk => by rw [h3 k hk,e k hk]⟩
theorem SetW.look {w:World} {b n:Nat} {S:Int → Bool} (h:SetW w b n S) {k:Int} (hk:(Lit.int .i64 k).wf = true):(Instr.lookup 134 (.map (some b)) (.int .i64 k) false).run Tryz.prog w = .ok (.bool (S k)) w:=by
 obtain ⟨D,h1,h2,h3⟩:=h
 obtain ⟨v,ps,hrun,hv⟩:=h1.lookup keyedI Tryz.underlying134 (zeroB w) (plainElem_bool Tryz.underlying4 false) (Maps.keyOf_int_mk Tryz.underlying3 hk)
 obtain ⟨x,rfl,hx⟩:=plainElem_bool_inv Tryz.underlying4 hv
 rw [h3 k hk] at hx
 simp only [Prod.mk.injEq,DataW.lit.injEq,Lit.bool.injEq] at hx
 rw [hrun,hx.1]
theorem SetW.put {w:World} {b n:Nat} {S:Int → Bool} (h:SetW w b n S) (hn:n < maxLen) {k:Int} (hk:(Lit.int .i64 k).wf = true) (v:Bool) :
  ∃ w',(Instr.mapUpdate 134 (.map (some b)) (.int .i64 k) (.bool v)).run Tryz.prog w = .ok () w' ∧ SetW w' b (n + 1) (fun j => if j = k then v else S j) ∧ w.grownBy w' (some b):=by
 obtain ⟨D,h1,h2,h3⟩:=h
 obtain ⟨w',hrun,hown,hg⟩:=h1.update keyedI Tryz.underlying134 hn (Maps.keyOf_int_mk Tryz.underlying3 hk) (plainElem_bool Tryz.underlying4 v)
 refine ⟨w',hrun,⟨_,hown,h2.put _ _,fun j hj => ?_⟩,hg⟩
 by_cases e:j = k
 ·subst e
  rw [Maps.atKey_put_same h2 (by simp [WideAt.IsKeyLit])]; simp
 ·rw [Maps.atKey_put_other (by intro e2; injection e2 with _ e3; exact e e3),h3 j hj]; simp [e]
theorem wpList_put_set {ops:Array Oper} {rest:List Oper} {o:Oper} {a:Act} {w:World} {Q:Exit → Act → World → Prop} (hg:o.guard = none) (m x v:Operand) (hop:o.op = Op.mapUpdate 134 m x v) (b n:Nat) (S:Int → Bool) (k:Int) (vb:Bool)
  (hm:a.eval m = .map (some b)) (h:SetW w b n S) (hn:n < maxLen) (hx:a.eval x = .int .i64 k) (hk:(Lit.int .i64 k).wf = true) (hv:a.eval v = .bool vb)
  (hK:∀ w',SetW w' b (n + 1) (fun j => if j = k then vb else S j) → w.grownBy w' (some b) → wpList Tryz.prog ops Q rest (a.put o.dst undef) w'):wpList Tryz.prog ops Q (o :: rest) a w:=by
 refine wpList_plain hg fun K' hK' => ?_
 obtain ⟨w',hrun,h1,h2⟩:=h.put hn hk vb
 unfold Oper.wp
 simp [execOp,hop,hm,hx,hv,hrun,Result.andThen]
 exact hK' _ _ (hK w' h1 h2)
end Go.Proofs.YtodcoockhkghdaaGreat
namespace Go.Proofs.YtodcoockhkghdaaGreat.Kb
open Go.ChangeShapes Go.WideShapes Go.ChangeAt Go.RowKit Go.Sort
set_option linter.unusedSimpArgs false
set_option linter.unusedVariables false
def SortB (d:List Bk):Prop:=d.Pairwise (fun a b => a.id < b.id)
def pl (d:List Bk) (id:Int):Nat:=(d.filter (fun x => decide (x.id < id))).length
def hit (d:List Bk) (id:Int):Bool:=d.any (fun x => x.id == id)
def rowB (d:List Bk) (id:Int):Bk:=if hit d id = true then gBk d (pl d id) else ⟨id,0,0,0⟩
theorem mem_gBk {d:List Bk} {y:Bk} (h:y ∈ d):∃ j,j < d.length ∧ gBk d j = y:=by
 obtain ⟨j,hj,e⟩:=List.mem_iff_getElem.1 h
 exact ⟨j,hj,by rw [gBk_eq hj,e]⟩
theorem SortB.at_ {d:List Bk} (h:SortB d) {i j:Nat} (hij:i < j) (hj:j < d.length):(gBk d i).id < (gBk d j).id:=by
 have:=List.pairwise_iff_getElem.1 h i j (by omega) hj hij
 rw [gBk_eq hj,gBk_eq (by omega:i < d.length)]
 exact this
theorem pl_of {d:List Bk} {id:Int} {i:Nat} (hs:SortB d) (hi:i ≤ d.length) (h1:i = 0 ∨ (gBk d (i - 1)).id < id) (h2:i = d.length ∨ id ≤ (gBk d i).id):pl d id = i:=by
 unfold pl
 have e1:(d.take i).filter (fun x => decide (x.id < id)) = d.take i:=List.filter_eq_self.2 (fun x hx => by
  obtain ⟨j,hj,rfl⟩:=List.mem_take_iff_getElem.1 hx
  rw [decide_eq_true_eq]
  rcases h1 with h1 | h1
  ·omega
  ·by_cases e:j = i - 1
   ·rw [gBk_eq (by omega)] at h1
    subst e
    exact h1
   ·have:=hs.at_ (i:=j) (j:=i - 1) (by omega) (by omega)
    rw [gBk_eq (by omega:j < d.length)] at this
    omega)
 have e2:(d.drop i).filter (fun x => decide (x.id < id)) = []:=List.filter_eq_nil_iff.2 (fun x hx => by
  obtain ⟨j,hj',rfl⟩:=List.mem_drop_iff_getElem.1 hx
  have hj:i + j < d.length:=by omega
  rw [decide_eq_true_eq]
  rcases h2 with h2 | h2
  ·omega
  ·by_cases e:j = 0
   ·subst e
    rw [gBk_eq (by omega)] at h2
    simp only [Nat.add_zero]
    omega
   ·have:=hs.at_ (i:=i) (j:=i + j) (by omega) hj
    rw [gBk_eq hj] at this
    omega)
 conv => lhs; rw [← List.take_append_drop i d]
 rw [List.filter_append,e1,e2,List.append_nil,List.length_take]
 omega
theorem pl_le (d:List Bk) (id:Int):pl d id ≤ d.length:=List.length_filter_le _ _
theorem hit_iff {d:List Bk} {id:Int} {i:Nat} (hs:SortB d) (hi:i ≤ d.length) (h1:i = 0 ∨ (gBk d (i - 1)).id < id) (h2:i = d.length ∨ id ≤ (gBk d i).id):hit d id = (decide (i < d.length) && ((gBk d i).id == id)):=by
 unfold hit
 rw [Bool.eq_iff_iff]
 simp only [List.any_eq_true,beq_iff_eq,Bool.and_eq_true,decide_eq_true_eq]
 constructor
 ·rintro ⟨x,hx,rfl⟩
  obtain ⟨j,hj,rfl⟩:=mem_gBk hx
  have h3:¬ j < i:=fun hlt => by
   rcases h1 with h1 | h1
   ·omega
   ·by_cases e:j = i - 1
    ·rw [← e] at h1; omega
    ·have:=hs.at_ (i:=j) (j:=i - 1) (by omega) (by omega)
     omega
  rcases h2 with h2 | h2
  ·omega
  ·by_cases e:j = i
   ·subst e; exact ⟨hj,rfl⟩
   ·have:=hs.at_ (i:=i) (j:=j) (by omega) hj
    omega
 ·rintro ⟨hi2,he⟩
  exact ⟨_,gBk_mem hi2,he⟩
theorem hit_at {d:List Bk} {id:Int} (hs:SortB d) (h:hit d id = true):pl d id < d.length ∧ (gBk d (pl d id)).id = id:=by
 unfold hit at h
 obtain ⟨x,hx,he⟩:=List.any_eq_true.1 h
 obtain ⟨j,hj,rfl⟩:=mem_gBk hx
 have he:(gBk d j).id = id:=by simpa using he
 have:pl d id = j:=pl_of hs (by omega) (by
  by_cases e:j = 0
  ·exact .inl e
  ·right
   have:=hs.at_ (i:=j - 1) (j:=j) (by omega) hj
   omega) (.inr (by omega))
 rw [this]
 exact ⟨hj,he⟩
set_option maxHeartbeats 1000000 in
set_option maxRecDepth 100000 in
theorem find1_any (x:Bk) (id:Int) (w:World):Calls Tryz.prog 145 #[.agg #[.int .i64 x.id,.int .i64 x.ua,.int .i64 x.ub,.int .i64 x.uc],.int .i64 id] w fun e w' => e = .returned (.int .i64 (cmpI x.id id)) ∧ Below w.heap.size w w':=by
 obtain ⟨p,hp⟩:∃ p,cmpI x.id id = p:=⟨_,rfl⟩
 have HP:=Lib.hid hp
 rw [hp]
 clear hp
 go_enter Tryz.func145,Tryz.ntmps145
 go_wp2_with fail
 refine (HP.out ▸ cmp_any x.id id _).mono ?_
 rintro e w3 ⟨rfl,rfl⟩
 go_wp2
 go_ret
 exact ⟨rfl,by (repeat (first | exact Below.refl _ _ | refine Below.alloc ?_ (by first | omega | (simp; done) | (simp; omega)) _ | refine Below.setCell ?_ (by first | omega | (simp; done) | (simp; omega)) _ | refine Below.drew ?_))⟩
theorem cmpI_neg {a b:Int}:cmpI a b < 0 ↔ a < b:=by
 rcases Int.lt_trichotomy a b with h | h | h
 ·rw [cmpI_lt h]; omega
 ·rw [cmpI_zero.2 h]; omega
 ·rw [cmpI_gt h]; omega
theorem cmp_bk (t:Int) (w:World):CmpIBk 145 #[] t w (fun x => cmpI x.id t):=
 ⟨enter_run Tryz.func145 rfl rfl,fun w' _ x => find1_any x t w'⟩
set_option maxRecDepth 100000 in
theorem find_any (A:Option Addr) (n c:Nat) (d:List Bk) (id:Int) (w:World) (hd:d.length = n) (hn:n ≤ 1000000) (h:Sl w w.heap.size 4 A n c (flatBk d)) (hs:SortB d) (i:Nat) (b:Bool) (hi:pl d id = i) (hb:hit d id = b) :
  Calls Tryz.prog 97 #[.slice A n c,.int .i64 id] w fun e w' => e = .returned (.tuple #[.int .i64 i,.bool b]) ∧ Below w.heap.size w w':=by
 have hc:=(binaryIBk A n c d id _ _ _ w hd hn h (cmp_bk id w)).mono (fun e w' ⟨j,b',he,hj,h1,h2,hb',hB⟩ => (show e = Ending.returned (.tuple #[.int .i64 i,.bool b]) ∧ Below w.heap.size w w' from by
  have h1':j = 0 ∨ (gBk d (j - 1)).id < id:=h1.imp (fun h => h) (fun h => cmpI_neg.1 h)
  have h2':j = d.length ∨ id ≤ (gBk d j).id:=h2.imp (fun h => by omega) (fun h => by
   by_cases e:(gBk d j).id < id
   ·have:=cmpI_neg.2 e
    omega
   ·omega)
  have e1:j = i:=by rw [← hi]; exact (pl_of hs (by omega) h1' h2').symm
  have e2:b' = b:=by
   rw [hb',← hb,hit_iff hs (by omega) h1' h2',hd]
   congr 1
   rw [Bool.eq_iff_iff,beq_iff_eq,beq_iff_eq,cmpI_zero]
  rw [he,e1,e2]
  exact ⟨rfl,hB⟩))
 have HC:=Lib.hid hc
 clear hc hi hb hs
 go_enter Tryz.func97,Tryz.ntmps97
 go_wp2_with fail
 refine HC.out.mono ?_
 rintro e w1 ⟨rfl,hB⟩
 go_wp2
 go_ret2
 exact ⟨rfl,hB⟩
set_option maxHeartbeats 1000000 in
set_option maxRecDepth 100000 in
theorem used_any (A:Option Addr) (n c:Nat) (d:List Bk) (id:Int) (w:World) (hd:d.length = n) (hn:n ≤ 1000000) (h:Sl w w.heap.size 4 A n c (flatBk d)) (hs:SortB d) (x:Bk) (hx:rowB d id = x) :
  Calls Tryz.prog 96 #[.slice A n c,.int .i64 id] w fun e w' => e = .returned (.agg #[.int .i64 x.ua,.int .i64 x.ub,.int .i64 x.uc]) ∧ Below w.heap.size w w':=by
 obtain ⟨b,hb⟩:∃ b,hit d id = b:=⟨_,rfl⟩
 have hBa:Below w.heap.size w (w.alloc (.cells #[.int .i64 0,.int .i64 0,.int .i64 0] 63)):=by (repeat (first | exact Below.refl _ _ | refine Below.alloc ?_ (by first | omega | (simp; done) | (simp; omega)) _ | refine Below.setCell ?_ (by first | omega | (simp; done) | (simp; omega)) _ | refine Below.drew ?_))
 have hX:=Blok.new w 63 #[.int .i64 0,.int .i64 0,.int .i64 0]
 have hl:=h.up hBa
 cases b with
 | false =>
  have hz:x = ⟨id,0,0,0⟩:=by rw [← hx]; unfold rowB; rw [if_neg (by rw [hb]; simp)]
  subst hz
  have HF:=Lib.hid (find_any A n c d id _ hd hn hl hs _ false rfl hb)
  clear hx hb h hl
  go_enter Tryz.func96,Tryz.ntmps96
  go_wp2_with fail
  generalize w.alloc (.cells #[.int .i64 0,.int .i64 0,.int .i64 0] 63) = w2 at *
  refine HF.out.mono ?_
  rintro e w5 ⟨rfl,hb5⟩
  replace hX:=hX.below hb5 hX.lt
  replace hBa:=hBa.trans (hb5.mono hBa.size)
  clear hb5 HF
  have r0:w5.cell? ⟨w.heap.size,0,none⟩ = some (.int .i64 0):=hX.cell 0
  have r1:w5.cell? ⟨w.heap.size,1,none⟩ = some (.int .i64 0):=hX.cell 1
  have r2:w5.cell? ⟨w.heap.size,2,none⟩ = some (.int .i64 0):=hX.cell 2
  have f0:=hX.free 0
  have f1:=hX.free 1
  have f2:=hX.free 2
  have hlt:=hX.lt
  have HXX:=Lib.hid hX
  clear hX
  go_wp2
  have hX:=HXX.out
  clear r0 r1 r2
  have hF:Blok (((w5.setCell ⟨w.heap.size,0,none⟩ (.int .i64 0)).setCell ⟨w.heap.size,1,none⟩ (.int .i64 0)).setCell ⟨w.heap.size,2,none⟩ (.int .i64 0)) w.heap.size 63 #[.int .i64 0,.int .i64 0,.int .i64 0]:=by have h:=(((hX.set_ 0 (.int .i64 0)).set_ 1 (.int .i64 0)).set_ 2 (.int .i64 0)); simpa using h
  have hle0:w.heap.size ≤ w.heap.size:=by first | exact Nat.le_refl _ | omega
  have hWf:Below w.heap.size w (((w5.setCell ⟨w.heap.size,0,none⟩ (.int .i64 0)).setCell ⟨w.heap.size,1,none⟩ (.int .i64 0)).setCell ⟨w.heap.size,2,none⟩ (.int .i64 0)):=(((hBa.setCell (p:=⟨w.heap.size,0,none⟩) hle0 (.int .i64 0)).setCell (p:=⟨w.heap.size,1,none⟩) hle0 (.int .i64 0)).setCell (p:=⟨w.heap.size,2,none⟩) hle0 (.int .i64 0))
  have hlF:=hF.lt
  generalize (((w5.setCell ⟨w.heap.size,0,none⟩ (.int .i64 0)).setCell ⟨w.heap.size,1,none⟩ (.int .i64 0)).setCell ⟨w.heap.size,2,none⟩ (.int .i64 0)) = wf at *
  have r0:wf.cell? ⟨w.heap.size,0,none⟩ = some (.int .i64 0):=hF.cell 0
  have r1:wf.cell? ⟨w.heap.size,1,none⟩ = some (.int .i64 0):=hF.cell 1
  have r2:wf.cell? ⟨w.heap.size,2,none⟩ = some (.int .i64 0):=hF.cell 2
  refine bodyPost_ret (v:=.agg #[.int .i64 0,.int .i64 0,.int .i64 0]) (by simp [results,Tryz.results96,go_sem,r0,r1,r2,hlF]) rfl ?_
  exact ⟨rfl,hWf⟩
 | true =>
  obtain ⟨hp,_⟩:=hit_at hs hb
  have hxg:gBk d (pl d id) = x:=by rw [← hx]; unfold rowB; rw [if_pos hb]
  obtain ⟨q,hq⟩:∃ q,pl d id = q:=⟨_,rfl⟩
  rw [hq] at hp hxg
  have hqn:q < n:=by omega
  obtain ⟨ad,rfl, -⟩:=h.lst.atBk hd hqn
  have hcap:=h.cap
  have HF:=Lib.hid (find_any (some ad) n c d id _ hd hn hl hs q true hq hb)
  have HX:=Lib.hid hxg
  have HD:=Lib.hid hd
  clear hx hb h hq hp hxg hd hs
  go_enter Tryz.func96,Tryz.ntmps96
  go_wp2_with fail
  generalize w.alloc (.cells #[.int .i64 0,.int .i64 0,.int .i64 0] 63) = w2 at *
  refine HF.out.mono ?_
  rintro e w5 ⟨rfl,hb5⟩
  replace hl:=hl.up hb5
  replace hX:=hX.below hb5 hX.lt
  replace hBa:=hBa.trans (hb5.mono hBa.size)
  clear hb5 HF
  obtain ⟨ad',he,hab,c0,c1,c2,c3⟩:=hl.lst.atBk HD.out hqn
  injection he with he
  subst he
  rw [HX.out] at c0 c1 c2 c3
  have r0:w5.cell? ⟨w.heap.size,0,none⟩ = some (.int .i64 0):=hX.cell 0
  have r1:w5.cell? ⟨w.heap.size,1,none⟩ = some (.int .i64 0):=hX.cell 1
  have r2:w5.cell? ⟨w.heap.size,2,none⟩ = some (.int .i64 0):=hX.cell 2
  have f0:=hX.free 0
  have f1:=hX.free 1
  have f2:=hX.free 2
  have hlt:=hX.lt
  have hq0:(0:Int) ≤ (q:Int):=by omega
  have hqI:(q:Int) < (n:Int):=by omega
  have HXX:=Lib.hid hX
  clear hl hX
  go_wp2
  have hX:=HXX.out
  clear r0 r1 r2
  have hF:Blok (((w5.setCell ⟨w.heap.size,0,none⟩ (.int .i64 x.ua)).setCell ⟨w.heap.size,1,none⟩ (.int .i64 x.ub)).setCell ⟨w.heap.size,2,none⟩ (.int .i64 x.uc)) w.heap.size 63 #[.int .i64 x.ua,.int .i64 x.ub,.int .i64 x.uc]:=by have h:=(((hX.set_ 0 (.int .i64 x.ua)).set_ 1 (.int .i64 x.ub)).set_ 2 (.int .i64 x.uc)); simpa using h
  have hle0:w.heap.size ≤ w.heap.size:=by first | exact Nat.le_refl _ | omega
  have hWf:Below w.heap.size w (((w5.setCell ⟨w.heap.size,0,none⟩ (.int .i64 x.ua)).setCell ⟨w.heap.size,1,none⟩ (.int .i64 x.ub)).setCell ⟨w.heap.size,2,none⟩ (.int .i64 x.uc)):=(((hBa.setCell (p:=⟨w.heap.size,0,none⟩) hle0 (.int .i64 x.ua)).setCell (p:=⟨w.heap.size,1,none⟩) hle0 (.int .i64 x.ub)).setCell (p:=⟨w.heap.size,2,none⟩) hle0 (.int .i64 x.uc))
  have hlF:=hF.lt
  generalize (((w5.setCell ⟨w.heap.size,0,none⟩ (.int .i64 x.ua)).setCell ⟨w.heap.size,1,none⟩ (.int .i64 x.ub)).setCell ⟨w.heap.size,2,none⟩ (.int .i64 x.uc)) = wf at *
  have r0:wf.cell? ⟨w.heap.size,0,none⟩ = some (.int .i64 x.ua):=hF.cell 0
  have r1:wf.cell? ⟨w.heap.size,1,none⟩ = some (.int .i64 x.ub):=hF.cell 1
  have r2:wf.cell? ⟨w.heap.size,2,none⟩ = some (.int .i64 x.uc):=hF.cell 2
  refine bodyPost_ret (v:=.agg #[.int .i64 x.ua,.int .i64 x.ub,.int .i64 x.uc]) (by simp [results,Tryz.results96,go_sem,r0,r1,r2,hlF]) rfl ?_
  exact ⟨rfl,hWf⟩
theorem class_any (cl:Int) (w:World) (b:Bool) (hb:inB cl 0 2 = b) :
  Calls Tryz.prog 59 #[.int .i64 cl] w fun e w' => e = .returned (.bool b) ∧ w = w':=by
 have HB:=Lib.hid hb
 clear hb
 go_enter Tryz.func59,Tryz.ntmps59
 go_wp2_with fail
 refine (in_is b HB.out w).mono ?_
 rintro e w1 ⟨rfl,rfl⟩
 go_wp2
 go_ret
 exact ⟨rfl,rfl⟩
end Go.Proofs.YtodcoockhkghdaaGreat.Kb
namespace Go.Proofs.YtodcoockhkghdaaGreat
open Go.ChangeShapes Go.WideShapes Go.ChangeAt Go.RowKit Go.Sort
set_option linter.unusedSimpArgs false
set_option linter.unusedVariables false
structure Co where
 id:Int
 fr:Int
 tn:Int
 st:Int
 en:Int
 rt:Int
theorem Co.ext_ {a b:Co} (h0:a.id = b.id) (h1:a.fr = b.fr) (h2:a.tn = b.tn) (h3:a.st = b.st) (h4:a.en = b.en) (h5:a.rt = b.rt):a = b:=by cases a; cases b; simp_all
instance:DecidableEq Co:=fun a b => if h:a.id = b.id ∧ a.fr = b.fr ∧ a.tn = b.tn ∧ a.st = b.st ∧ a.en = b.en ∧ a.rt = b.rt then isTrue (Co.ext_ h.1 h.2.1 h.2.2.1 h.2.2.2.1 h.2.2.2.2.1 h.2.2.2.2.2) else isFalse (by rintro rfl; simp at h)
def Co.cs (r:Co):List Value:=[.int .i64 r.id,.int .i64 r.fr,.int .i64 r.tn,.int .i64 r.st,.int .i64 r.en,.int .i64 r.rt]
def flatCo (d:List Co):List Value:=d.flatMap Co.cs
def gCo (d:List Co) (i:Nat):Co:=d.getD i ⟨0,0,0,0,0,0⟩
theorem flatCo_cons (p:Co) (d:List Co):flatCo (p :: d) = .int .i64 p.id :: .int .i64 p.fr :: .int .i64 p.tn :: .int .i64 p.st :: .int .i64 p.en :: .int .i64 p.rt :: flatCo d:=rfl
theorem flatCo_at0:∀ (d:List Co) (i:Nat),i < d.length → (flatCo d)[i * 6]? = some (.int .i64 (gCo d i).id)
 | p :: d,0,_ => rfl
 | p :: d,i + 1,h => by
  rw [flatCo_cons,show (i + 1) * 6 = i * 6 + 1 + 1 + 1 + 1 + 1 + 1 from by omega]
  simp only [List.getElem?_cons_succ]
  exact flatCo_at0 d i (by simpa using h)
theorem flatCo_at1:∀ (d:List Co) (i:Nat),i < d.length → (flatCo d)[i * 6 + 1]? = some (.int .i64 (gCo d i).fr)
 | p :: d,0,_ => rfl
 | p :: d,i + 1,h => by
  rw [flatCo_cons,show (i + 1) * 6 + 1 = i * 6 + 1 + 1 + 1 + 1 + 1 + 1 + 1 from by omega]
  simp only [List.getElem?_cons_succ]
  exact flatCo_at1 d i (by simpa using h)
theorem flatCo_at2:∀ (d:List Co) (i:Nat),i < d.length → (flatCo d)[i * 6 + 2]? = some (.int .i64 (gCo d i).tn)
 | p :: d,0,_ => rfl
 | p :: d,i + 1,h => by
  rw [flatCo_cons,show (i + 1) * 6 + 2 = i * 6 + 2 + 1 + 1 + 1 + 1 + 1 + 1 from by omega]
  simp only [List.getElem?_cons_succ]
  exact flatCo_at2 d i (by simpa using h)
theorem flatCo_at3:∀ (d:List Co) (i:Nat),i < d.length → (flatCo d)[i * 6 + 3]? = some (.int .i64 (gCo d i).st)
 | p :: d,0,_ => rfl
 | p :: d,i + 1,h => by
  rw [flatCo_cons,show (i + 1) * 6 + 3 = i * 6 + 3 + 1 + 1 + 1 + 1 + 1 + 1 from by omega]
  simp only [List.getElem?_cons_succ]
  exact flatCo_at3 d i (by simpa using h)
theorem flatCo_at4:∀ (d:List Co) (i:Nat),i < d.length → (flatCo d)[i * 6 + 4]? = some (.int .i64 (gCo d i).en)
 | p :: d,0,_ => rfl
 | p :: d,i + 1,h => by
  rw [flatCo_cons,show (i + 1) * 6 + 4 = i * 6 + 4 + 1 + 1 + 1 + 1 + 1 + 1 from by omega]
  simp only [List.getElem?_cons_succ]
  exact flatCo_at4 d i (by simpa using h)
theorem flatCo_at5:∀ (d:List Co) (i:Nat),i < d.length → (flatCo d)[i * 6 + 5]? = some (.int .i64 (gCo d i).rt)
 | p :: d,0,_ => rfl
 | p :: d,i + 1,h => by
  rw [flatCo_cons,show (i + 1) * 6 + 5 = i * 6 + 5 + 1 + 1 + 1 + 1 + 1 + 1 from by omega]
  simp only [List.getElem?_cons_succ]
  exact flatCo_at5 d i (by simpa using h)
theorem rowsCo_of:∀ (n:Nat) (ns:List Int),ns.length = n * 6 → ∃ d:List Co,d.length = n ∧ ns.map (Value.int .i64) = flatCo d
 | 0,[],_ => ⟨[],rfl,rfl⟩
 | 0,_ :: _,h => by simp at h
 | n + 1,a0 :: a1 :: a2 :: a3 :: a4 :: a5 :: ns,h => by
  obtain ⟨d,h1,h2⟩:=rowsCo_of n ns (by simp at h; omega)
  exact ⟨⟨a0,a1,a2,a3,a4,a5⟩ :: d,by simp [h1],by simp [flatCo_cons,h2]⟩
 | n + 1,[],h => by simp at h <;> omega
 | n + 1,[_],h => by simp at h <;> omega
 | n + 1,[_,_],h => by simp at h <;> omega
 | n + 1,[_,_,_],h => by simp at h <;> omega
 | n + 1,[_,_,_,_],h => by simp at h <;> omega
 | n + 1,[_,_,_,_,_],h => by simp at h <;> omega

theorem Lst.atCo {w:World} {B:Nat} {A:Option Addr} {n:Nat} {l:List Co} (h:Lst w B 6 A n (flatCo l)) (hl:l.length = n) {k:Nat} (hk:k < n):∃ ad,A = some ad ∧ ad.block < B ∧ w.cell? (ad.add (k * 6)) = some (.int .i64 (gCo l k).id) ∧ w.cell? ⟨(ad.add (k * 6)).block,(ad.add (k * 6)).off + 1,none⟩ = some (.int .i64 (gCo l k).fr) ∧ w.cell? ⟨(ad.add (k * 6)).block,(ad.add (k * 6)).off + 2,none⟩ = some (.int .i64 (gCo l k).tn) ∧ w.cell? ⟨(ad.add (k * 6)).block,(ad.add (k * 6)).off + 3,none⟩ = some (.int .i64 (gCo l k).st) ∧ w.cell? ⟨(ad.add (k * 6)).block,(ad.add (k * 6)).off + 4,none⟩ = some (.int .i64 (gCo l k).en) ∧ w.cell? ⟨(ad.add (k * 6)).block,(ad.add (k * 6)).off + 5,none⟩ = some (.int .i64 (gCo l k).rt):=by
 obtain ⟨ad,e,hb,hc⟩:=h.at_ (by omega)
 exact ⟨ad,e,hb,hc _ _ (flatCo_at0 l k (by omega)),by rw [addr_next _ _ _ (by omega)]; exact hc _ _ (flatCo_at1 l k (by omega)),by rw [addr_next _ _ _ (by omega)]; exact hc _ _ (flatCo_at2 l k (by omega)),by rw [addr_next _ _ _ (by omega)]; exact hc _ _ (flatCo_at3 l k (by omega)),by rw [addr_next _ _ _ (by omega)]; exact hc _ _ (flatCo_at4 l k (by omega)),by rw [addr_next _ _ _ (by omega)]; exact hc _ _ (flatCo_at5 l k (by omega))⟩
theorem gCo_mem {d:List Co} {i:Nat} (h:i < d.length):gCo d i ∈ d:=by
 unfold gCo; rw [List.getD_eq_getElem?_getD,List.getElem?_eq_getElem h]; simp
theorem gCo_eq {d:List Co} {i:Nat} (h:i < d.length):gCo d i = d[i]:=by
 unfold gCo; rw [List.getD_eq_getElem?_getD,List.getElem?_eq_getElem h]; rfl
structure PredCo (g:FuncId) (lb:Array Value) (row:Option Nat) (W:World) (p:Co → Bool):Prop where
 run:∀ vals w,(callFunc g vals).run Tryz.prog w = .ok (.enter g vals) w
 tells:∀ w',W.grownBy w' row → ∀ x:Co,Calls Tryz.prog g (#[.agg #[.int .i64 x.id,.int .i64 x.fr,.int .i64 x.tn,.int .i64 x.st,.int .i64 x.en,.int .i64 x.rt]] ++ lb) w' fun e w'' => e = .returned (.bool (p x)) ∧ Below w'.heap.size w' w''
theorem PredCo.next {g:FuncId} {lb:Array Value} {row:Option Nat} {W W':World} {p:Co → Bool} (h:PredCo g lb row W p) (hg:W.grownBy W' row):PredCo g lb row W' p:=⟨h.run,fun w' h' x => h.tells w' (grown_trans hg h') x⟩
theorem PredCo.below {g:FuncId} {lb:Array Value} {row:Option Nat} {W W':World} {p:Co → Bool} (h:PredCo g lb row W p) (hb:Below W.heap.size W W'):PredCo g lb row W' p:=h.next (grown_of_below hb)
end Go.Proofs.YtodcoockhkghdaaGreat
namespace Go.Proofs.YtodcoockhkghdaaGreat.Kc
open Go.ChangeShapes Go.WideShapes Go.ChangeAt Go.RowKit Go.Sort
set_option linter.unusedSimpArgs false
set_option linter.unusedVariables false
def cmpC (a b:Co):Int:=orF [cmpI a.fr b.fr,cmpI a.tn b.tn,cmpI a.st b.st,cmpI a.id b.id]
def ltC (a b:Co):Prop:=a.fr < b.fr ∨ a.fr = b.fr ∧ (a.tn < b.tn ∨ a.tn = b.tn ∧ (a.st < b.st ∨ a.st = b.st ∧ a.id < b.id))
theorem cmpI_spec (a b:Int):(a < b ∧ cmpI a b = -1) ∨ (a = b ∧ cmpI a b = 0) ∨ (b < a ∧ cmpI a b = 1):=by
 rcases Int.lt_trichotomy a b with h | h | h
 ·exact .inl ⟨h,cmpI_lt h⟩
 ·exact .inr (.inl ⟨h,cmpI_zero.2 h⟩)
 ·exact .inr (.inr ⟨h,cmpI_gt h⟩)
theorem cmpC_spec (a b:Co):(ltC a b ∧ cmpC a b = -1) ∨ (a.fr = b.fr ∧ a.tn = b.tn ∧ a.st = b.st ∧ a.id = b.id ∧ cmpC a b = 0) ∨ (ltC b a ∧ cmpC a b = 1):=by
 unfold cmpC ltC
 rcases cmpI_spec a.fr b.fr with ⟨h1,e1⟩ | ⟨h1,e1⟩ | ⟨h1,e1⟩ <;> rcases cmpI_spec a.tn b.tn with ⟨h2,e2⟩ | ⟨h2,e2⟩ | ⟨h2,e2⟩ <;> rcases cmpI_spec a.st b.st with ⟨h3,e3⟩ | ⟨h3,e3⟩ | ⟨h3,e3⟩ <;> rcases cmpI_spec a.id b.id with ⟨h4,e4⟩ | ⟨h4,e4⟩ | ⟨h4,e4⟩ <;>
  simp only [e1,e2,e3,e4,orF] <;> simp <;> omega
def overC (a b:Co):Bool:=decide (a.fr = b.fr ∧ a.tn = b.tn ∧ a.st < b.en ∧ b.st < a.en)
end Go.Proofs.YtodcoockhkghdaaGreat.Kc
