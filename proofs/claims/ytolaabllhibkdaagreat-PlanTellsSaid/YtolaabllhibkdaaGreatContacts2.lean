/- Package contacts: Same, Find, Delete, mayAdd. No condition. -/
import Derived.Test.YtolaabllhibkdaaGreatContacts
namespace Go.Proofs.YtolaabllhibkdaaGreat.Kc
open Go.ChangeShapes Go.WideShapes Go.ChangeAt Go.RowKit Go.Sort
set_option linter.unusedSimpArgs false
set_option linter.unusedVariables false
def delCode (q n:Nat):Int:=if q = n then 6 else 0
set_option maxRecDepth 100000 in
theorem same_any (A A':Option Addr) (n c n' c':Nat) (d d':List Co) (w:World) (hd:d.length = n) (hd':d'.length = n') (hn:n ≤ 1000000) (hn':n' ≤ 1000000) (h:Sl w w.heap.size 6 A n c (flatCo d)) (h':Sl w w.heap.size 6 A' n' c' (flatCo d')) :
  Calls Tryz.prog 29 #[.slice A n c,.slice A' n' c'] w fun e w' => e = .returned (.bool (decide (d = d'))) ∧ Below w.heap.size w w':=by
 have HD:=Lib.hid hd
 have HD':=Lib.hid hd'
 obtain ⟨b,hb⟩:∃ b,decide (d = d') = b:=⟨_,rfl⟩
 rw [hb]
 have HB:=Lib.hid hb
 clear hd hd' hb
 go_enter Tryz.func29,Tryz.ntmps29
 go_wp2_with fail
 refine (HB.out ▸ equalCo A A' n c n' c' d d' w HD.out HD'.out hn hn' h h').mono ?_
 rintro e w1 ⟨rfl,hB⟩
 go_wp2
 go_ret
 exact ⟨rfl,hB⟩
set_option maxHeartbeats 1000000 in
set_option maxRecDepth 100000 in
theorem del_any (A:Option Addr) (n c:Nat) (d:List Co) (id:Int) (w:World) (hd:d.length = n) (hn:n ≤ 1000000) (h:Sl w w.heap.size 6 A n c (flatCo d)) :
  Calls Tryz.prog 103 #[.slice A n c,.int .i64 id] w fun e w' => ∃ v,e = .returned (.tuple #[v,.int .i64 (delCode (d.filter (fun x => !(x.id == id))).length n)]) ∧ w'.ownsRow w.heap.size 33 6 v (d.filter (fun x => !(x.id == id))).length (flatCo (d.filter (fun x => !(x.id == id)))) ∧ Below w.heap.size w w':=by
 have HD:=Lib.hid hd
 clear hd
 go_enter Tryz.func103,Tryz.ntmps103
 go_wp2_with fail
 refine (cloneCo A n c d w HD.out hn h).mono ?_
 rintro e w3 ⟨v,rfl,hown,hb3⟩
 clear h
 have hl3:=hb3.size
 go_wp2_with fail
 refine (has_any id w3).mono ?_
 rintro e w4 ⟨g,rfl,hG,hg0,hbb⟩
 have hown2:=hown.kept (grown_of_below (row:=some w3.heap.size) hbb) (.inr (fun e => by have:=(hown.lt _ e).2; omega))
 have hB4:=hb3.trans (hbb.mono hl3)
 have hgne:v.ownBlock ≠ some g:=fun e => by have:=(hown.lt _ e).2; omega
 clear hown
 go_wp2_with fail
 refine (deleteCo v n d _ _ _ w4 _ HD.out hn hown2 (pred_has id g v.ownBlock w4 hG hgne)).mono ?_
 rintro e w5 ⟨v',rfl,hown',hg4⟩
 have hfin:Below w.heap.size w w5:=Below.grown hB4 hg4 hB4.size (fun k hk => (hown2.lt k hk).1)
 have hown5:=hown'
 clear hown' hg4 hG hown2 hb3 hbb hB4
 obtain ⟨q,hq⟩:∃ q,(d.filter (fun x => !(x.id == id))).length = q:=⟨_,rfl⟩
 rw [hq] at hown5
 have HQ:=Lib.hid hq
 clear hq
 obtain ⟨A5,c5,rfl⟩:=slice_of_own hown5
 by_cases hqn:q = n
 ·have hqb:((q:Int) == (n:Int)) = true:=by simp [hqn]
  have HQN:=Lib.hid hqn
  clear hqn
  go_wp2
  go_ret2
  refine ⟨_,?_,by rw [HQ.out]; exact hown5,hfin⟩
  rw [HQ.out,delCode,if_pos HQN.out]; rfl
 ·have hqb:((q:Int) == (n:Int)) = false:=beq_eq_false_iff_ne.2 (by omega)
  go_wp2
  go_ret2
  refine ⟨_,?_,by rw [HQ.out]; exact hown5,hfin⟩
  rw [HQ.out,delCode,if_neg hqn]; rfl
def okC (r:Co):Bool:=contactB r.id r.fr r.tn r.st r.en r.rt
def mayC (d:List Co) (r:Co):Int:=if okC r = false then 1 else if 4096 ≤ d.length then 3 else if d.any (fun o => o.id == r.id) = true then 4 else if d.any (fun o => overC o r) = true then 5 else 0
theorem okC_call (r:Co) (w:World) (b:Bool) (h:okC r = b):Calls Tryz.prog 64 #[.agg #[.int .i64 r.id,.int .i64 r.fr,.int .i64 r.tn,.int .i64 r.st,.int .i64 r.en,.int .i64 r.rt]] w fun e w' => e = .returned (.bool b) ∧ Below w.heap.size w w':=contact_is b h w
set_option maxHeartbeats 1000000 in
set_option maxRecDepth 100000 in
theorem mayAdd_any (A:Option Addr) (n c:Nat) (d:List Co) (r:Co) (w:World) (hd:d.length = n) (hn:n ≤ 1000000) (h:Sl w w.heap.size 6 A n c (flatCo d)) :
  Calls Tryz.prog 133 #[.slice A n c,.agg #[.int .i64 r.id,.int .i64 r.fr,.int .i64 r.tn,.int .i64 r.st,.int .i64 r.en,.int .i64 r.rt]] w fun e w' => e = .returned (.int .i64 (mayC d r)) ∧ Below w.heap.size w w':=by
 have hBa:Below w.heap.size w (w.alloc (.cells #[.int .i64 r.id,.int .i64 r.fr,.int .i64 r.tn,.int .i64 r.st,.int .i64 r.en,.int .i64 r.rt] 33)):=by (repeat (first | exact Below.refl _ _ | refine Below.alloc ?_ (by first | omega | (simp; done) | (simp; omega)) _ | refine Below.setCell ?_ (by first | omega | (simp; done) | (simp; omega)) _ | refine Below.drew ?_))
 have hX:=Blok.new w 33 #[.int .i64 r.id,.int .i64 r.fr,.int .i64 r.tn,.int .i64 r.st,.int .i64 r.en,.int .i64 r.rt]
 have hs:=h.up hBa
 have HD:=Lib.hid hd
 have hsz:w.heap.size < (w.alloc (.cells #[.int .i64 r.id,.int .i64 r.fr,.int .i64 r.tn,.int .i64 r.st,.int .i64 r.en,.int .i64 r.rt] 33)).heap.size:=by simp
 clear h
 cases h1:okC r with
 | false =>
  have hf:mayC d r = 1:=by unfold mayC; rw [if_pos h1]
  rw [hf]
  have H1:=Lib.hid h1
  clear h1 hf hd
  go_enter Tryz.func133,Tryz.ntmps133
  go_wp2_with fail
  generalize w.alloc (.cells #[.int .i64 r.id,.int .i64 r.fr,.int .i64 r.tn,.int .i64 r.st,.int .i64 r.en,.int .i64 r.rt] 33) = w2 at *
  refine (okC_call r w2 false H1.out).mono ?_
  rintro e w3 ⟨rfl,hb3⟩
  replace hBa:=hBa.trans (hb3.mono hBa.size)
  clear hb3 hs hX
  go_wp2
  go_ret
  exact ⟨rfl,hBa⟩
 | true =>
  by_cases h2:4096 ≤ n
  ·have hf:mayC d r = 3:=by unfold mayC; rw [if_neg (by rw [h1]; simp),if_pos (by omega)]
   rw [hf]
   have H1:=Lib.hid h1
   clear h1 hf hd
   go_enter Tryz.func133,Tryz.ntmps133
   go_wp2_with fail
   generalize w.alloc (.cells #[.int .i64 r.id,.int .i64 r.fr,.int .i64 r.tn,.int .i64 r.st,.int .i64 r.en,.int .i64 r.rt] 33) = w2 at *
   refine (okC_call r w2 true H1.out).mono ?_
   rintro e w3 ⟨rfl,hb3⟩
   replace hBa:=hBa.trans (hb3.mono hBa.size)
   clear hb3 hs hX
   go_wp2
   go_ret
   exact ⟨rfl,hBa⟩
  ·obtain ⟨b,hb⟩:∃ b,d.any (fun o => o.id == r.id) = b:=⟨_,rfl⟩
   cases b with
   | true =>
    have hf:mayC d r = 4:=by unfold mayC; rw [if_neg (by rw [h1]; simp),if_neg (by omega),if_pos hb]
    rw [hf]
    have H1:=Lib.hid h1
    have HB:=Lib.hid hb
    clear h1 hf hd hb
    go_enter Tryz.func133,Tryz.ntmps133
    go_wp2_with fail
    generalize w.alloc (.cells #[.int .i64 r.id,.int .i64 r.fr,.int .i64 r.tn,.int .i64 r.st,.int .i64 r.en,.int .i64 r.rt] 33) = w2 at *
    refine (okC_call r w2 true H1.out).mono ?_
    rintro e w3 ⟨rfl,hb3⟩
    replace hs:=hs.up hb3
    replace hX:=hX.below hb3 hX.lt
    replace hBa:=hBa.trans (hb3.mono hBa.size)
    have hx0:w3.cell? ⟨w.heap.size,0,none⟩ = some (.int .i64 r.id):=hX.cell 0
    have hlt:=hX.lt
    clear hb3
    go_wp2_with fail
    refine (has_any r.id w3).mono ?_
    rintro e w4 ⟨g,rfl,hG,hg0,hbb⟩
    replace hs:=hs.up hbb
    replace hBa:=hBa.trans (hbb.mono hBa.size)
    clear hbb hg0 hX hx0
    go_wp2_with fail
    refine (HB.out ▸ containsCo A n c d _ _ none _ w4 HD.out hn hs (pred_has r.id g none w4 hG (by simp))).mono ?_
    rintro e w5 ⟨rfl,hb5⟩
    replace hBa:=hBa.trans (hb5.mono hBa.size)
    clear hb5 hs hG
    go_wp2
    go_ret
    exact ⟨rfl,hBa⟩
   | false =>
    obtain ⟨b2,hb2⟩:∃ b,d.any (fun o => overC o r) = b:=⟨_,rfl⟩
    have hf:mayC d r = if b2 = true then 5 else 0:=by unfold mayC; rw [if_neg (by rw [h1]; simp),if_neg (by omega),if_neg (by rw [hb]; simp),hb2]
    rw [hf]
    have H1:=Lib.hid h1
    have HB:=Lib.hid hb
    have HB2:=Lib.hid hb2
    clear h1 hf hd hb hb2
    cases b2
    all_goals
     go_enter Tryz.func133,Tryz.ntmps133
     go_wp2_with fail
     generalize w.alloc (.cells #[.int .i64 r.id,.int .i64 r.fr,.int .i64 r.tn,.int .i64 r.st,.int .i64 r.en,.int .i64 r.rt] 33) = w2 at *
     refine (okC_call r w2 true H1.out).mono ?_
     rintro e w3 ⟨rfl,hb3⟩
     replace hs:=hs.up hb3
     replace hX:=hX.below hb3 hX.lt
     replace hBa:=hBa.trans (hb3.mono hBa.size)
     have hx0:w3.cell? ⟨w.heap.size,0,none⟩ = some (.int .i64 r.id):=hX.cell 0
     have hlt:=hX.lt
     clear hb3
     go_wp2_with fail
     refine (has_any r.id w3).mono ?_
     rintro e w4 ⟨g,rfl,hG,hg0,hbb⟩
     replace hs:=hs.up hbb
     replace hX:=hX.below hbb hX.lt
     replace hBa:=hBa.trans (hbb.mono hBa.size)
     clear hbb hg0 hx0
     go_wp2_with fail
     refine (HB.out ▸ containsCo A n c d _ _ none _ w4 HD.out hn hs (pred_has r.id g none w4 hG (by simp))).mono ?_
     rintro e w5 ⟨rfl,hb5⟩
     replace hs:=hs.up hb5
     replace hX:=hX.below hb5 hX.lt
     replace hBa:=hBa.trans (hb5.mono hBa.size)
     clear hb5 hG
     go_wp2_with fail
     refine (HB2.out ▸ containsCo A n c d _ _ none _ w5 HD.out hn hs (pred_mayC r w.heap.size none w5 hX (by simp))).mono ?_
     rintro e w6 ⟨rfl,hb6⟩
     replace hBa:=hBa.trans (hb6.mono hBa.size)
     clear hb6 hs hX
     go_wp2
     go_ret
     exact ⟨rfl,hBa⟩
end Go.Proofs.YtolaabllhibkdaaGreat.Kc
