/- Several texts of mine in one: Plan2, PlanMath. No condition. -/
import Derived.Test.YtjldgcebadojiaaGreatDoorGQ10
import Derived.Deep.RegionHeld3
namespace Go.Proofs.YtjldgcebadojiaaGreatDoor
open Go.ChangeShapes Go.WideShapes Go.ChangeAt Go.RowKit Go.Sort
set_option linter.unusedSimpArgs false
set_option linter.unusedVariables false
theorem own_far {w w':World} {base:Nat} {e:TypeId} {size n:Nat} {v:Value} {xs:List Value} {row:Option Nat} (h:w.ownsRow base e size v n xs) (hg:w.grownBy w' row) (hr:∀ q,row = some q → q < base):w'.ownsRow base e size v n xs:=
 h.kept hg (by
  cases hq:v.ownBlock with
  | none => exact .inl rfl
  | some q => exact .inr (fun e => by have:=hr q e.symm; have:=(h.lt q hq).1; omega))
set_option maxHeartbeats 8000000 in
set_option maxRecDepth 100000 in
theorem pcopy_any (A1:Option Addr) (n1 c1:Nat) (A:Option Addr) (n c:Nat) (p:Pl) (w:World) (h:PlAt w A1 n1 c1 A n c p) :
  Calls Tryz.prog 101 #[.agg #[.slice A1 n1 c1,.slice A n c,.int .i64 p.clk,.int .i64 p.ver]] w fun e w' => ∃ A2 c2 A3 c3,e = .returned (.agg #[.slice A2 n1 c2,.slice A3 n c3,.int .i64 p.clk,.int .i64 p.ver]) ∧ PlOwn w' w.heap.size A2 n1 c2 A3 n c3 p ∧ Below w.heap.size w w':=by
 have hB:Below w.heap.size w ((w.alloc (.cells #[.slice A1 n1 c1,.slice A n c,.int .i64 p.clk,.int .i64 p.ver] 25)).alloc (.cells #[.slice none 0 0,.slice none 0 0,.int .i64 0,.int .i64 0] 25)):=by (repeat (first | exact Below.refl _ _ | refine Below.alloc ?_ (by first | omega | (simp; done) | (simp; omega)) _ | refine Below.setCell ?_ (by first | omega | (simp; done) | (simp; omega)) _ | refine Below.drew ?_))
 have hP:=(Blok.new w 25 #[.slice A1 n1 c1,.slice A n c,.int .i64 p.clk,.int .i64 p.ver]).alloc (.cells #[.slice none 0 0,.slice none 0 0,.int .i64 0,.int .i64 0] 25)
 have hX:=Blok.new (w.alloc (.cells #[.slice A1 n1 c1,.slice A n c,.int .i64 p.clk,.int .i64 p.ver] 25)) 25 #[.slice none 0 0,.slice none 0 0,.int .i64 0,.int .i64 0]
 simp only [World.size_alloc] at hX
 have hs:=hB.size
 obtain ⟨HD1,HD,hb1,hb2,h1,h2⟩:=h
 replace h1:=h1.up hB
 replace h2:=h2.up hB
 have D1:=Lib.hid HD1
 have D2:=Lib.hid HD
 clear HD1 HD
 go_enter Tryz.func101,Tryz.ntmps101
 go_upto_region 1 with fail
 generalize (w.alloc (.cells #[.slice A1 n1 c1,.slice A n c,.int .i64 p.clk,.int .i64 p.ver] 25)).alloc (.cells #[.slice none 0 0,.slice none 0 0,.int .i64 0,.int .i64 0] 25) = w0 at *
 have HC1:=Lib.hid (fun (w':World) (hb:Below w0.heap.size w0 w') => cloneCo A1 n1 c1 p.cs w' D1.out (by omega) (h1.up hb))
 have HC2:=Lib.hid (fun (w':World) (hb:Below w0.heap.size w0 w') => cloneRg A n c p.rs w' D2.out (by omega) (h2.up hb))
 have HPP:=Lib.hid (fun (w':World) (hb:Below w0.heap.size w0 w') => (hP.below hb hP.lt))
 have p0:w0.cell? ⟨w.heap.size,0,none⟩ = some (.slice A1 n1 c1):=hP.cell 0
 have p1:w0.cell? ⟨w.heap.size,1,none⟩ = some (.slice A n c):=hP.cell 1
 have lt_p:=hP.lt
 have hC:Below w0.heap.size w0 w0:=Below.refl _ _
 have HX:=Lib.hid hX
 have HB:=Lib.hid hB
 clear hX hP h1 h2 hB
 try simp only [List.append]
 go_region_law (first
  | (refine step_call rfl 114 #[.tmp 4] _ rfl #[.slice A1 n1 c1] (by simp [Act.eval,Act.put]) Tryz.func114 rfl rfl ?_; refine Calls.mono (HC1.out _ (by first | exact hC | exact hC.drew)) ?_; rintro e x1 ⟨v1,rfl,hv1,hbx⟩; obtain ⟨A2,c2,rfl⟩:=slice_of_own hv1; refine ⟨_,rfl,?_⟩; (try (have hn:=own_below hv2 hbx; clear hv2; have hv2:=hn; clear hn)); have hC':Below w0.heap.size w0 x1:=Below.trans (by first | exact hC | exact hC.drew) (hbx.mono (by first | exact hC.size | exact Nat.le_refl _)); clear hC; have hC:=hC'; clear hC' hbx; have sz1:=hC.size; have q0:x1.cell? ⟨w.heap.size,0,none⟩ = some (.slice A1 n1 c1):=(HPP.out _ hC).cell 0; have q1:x1.cell? ⟨w.heap.size,1,none⟩ = some (.slice A n c):=(HPP.out _ hC).cell 1; have qf0:=(HPP.out _ hC).free 0; have qf1:=(HPP.out _ hC).free 1; have qlt:=(HPP.out _ hC).lt)
  | (refine step_call rfl 113 #[.tmp 7] _ rfl #[.slice A n c] (by simp [Act.eval,Act.put]) Tryz.func113 rfl rfl ?_; refine Calls.mono (HC2.out _ (by first | exact hC | exact hC.drew)) ?_; rintro e x2 ⟨v2,rfl,hv2,hbx⟩; obtain ⟨A3,c3,rfl⟩:=slice_of_own hv2; refine ⟨_,rfl,?_⟩; (try (have hn:=own_below hv1 hbx; clear hv1; have hv1:=hn; clear hn)); have hC':Below w0.heap.size w0 x2:=Below.trans (by first | exact hC | exact hC.drew) (hbx.mono (by first | exact hC.size | exact Nat.le_refl _)); clear hC; have hC:=hC'; clear hC' hbx; have sz2:=hC.size; have u0:x2.cell? ⟨w.heap.size,0,none⟩ = some (.slice A1 n1 c1):=(HPP.out _ hC).cell 0; have u1:x2.cell? ⟨w.heap.size,1,none⟩ = some (.slice A n c):=(HPP.out _ hC).cell 1; have uf0:=(HPP.out _ hC).free 0; have uf1:=(HPP.out _ hC).free 1; have ult:=(HPP.out _ hC).lt))
 all_goals
  have hPw:=HPP.out _ hC
  have hXw:=HX.out.below hC HX.out.lt
  have hBw:=HB.out.trans (hC.mono hs)
  have hP2:=(hPw.set_ 0 (.slice A2 n1 c2)).set_ 1 (.slice A3 n c3)
  have hX2:=(hXw.far (p:=⟨w.heap.size,0,none⟩) (by show w.heap.size + 1 ≠ w.heap.size; omega) (.slice A2 n1 c2)).far (p:=⟨w.heap.size,1,none⟩) (by show w.heap.size + 1 ≠ w.heap.size; omega) (.slice A3 n c3)
  have hB2:=(hBw.setCell (p:=⟨w.heap.size,0,none⟩) (Nat.le_refl _) (.slice A2 n1 c2)).setCell (p:=⟨w.heap.size,1,none⟩) (Nat.le_refl _) (.slice A3 n c3)
  have hg0:∀ (y:World),y.grownBy ((y.setCell ⟨w.heap.size,0,none⟩ (.slice A2 n1 c2)).setCell ⟨w.heap.size,1,none⟩ (.slice A3 n c3)) (some w.heap.size):=fun y => grown_trans (grown_set _ _ _) (grown_set _ _ _)
  have hO1:=own_far (own_down hv1 (base':=w.heap.size + 2) (by have:=HX.out.lt; have hd:w0.drew.heap.size = w0.heap.size:=rfl; omega)) (hg0 _) (fun q hq => by injection hq with hq; omega)
  have hO2:=own_far (own_down hv2 (base':=w.heap.size + 2) (by have:=HX.out.lt; have hd:w0.drew.heap.size = w0.heap.size:=rfl; omega)) (hg0 _) (fun q hq => by injection hq with hq; omega)
  clear hPw hXw hBw hv1 hv2 hC hg0 p0 p1 lt_p HC1 HC2 HPP HX HB
  try clear q0 q1 qf0 qf1 qlt
  try clear u0 u1 uf0 uf1 ult
  first
   | generalize (x2.setCell ⟨w.heap.size,0,none⟩ (.slice A2 n1 c2)).setCell ⟨w.heap.size,1,none⟩ (.slice A3 n c3) = w9 at *
   | generalize (x1.setCell ⟨w.heap.size,0,none⟩ (.slice A2 n1 c2)).setCell ⟨w.heap.size,1,none⟩ (.slice A3 n c3) = w9 at *
  have y0:w9.cell? ⟨w.heap.size,0,none⟩ = some (.slice A2 n1 c2):=hP2.cell 0
  have y1:w9.cell? ⟨w.heap.size,1,none⟩ = some (.slice A3 n c3):=hP2.cell 1
  have y2:w9.cell? ⟨w.heap.size,2,none⟩ = some (.int .i64 p.clk):=hP2.cell 2
  have y3:w9.cell? ⟨w.heap.size,3,none⟩ = some (.int .i64 p.ver):=hP2.cell 3
  have lt_p:=hP2.lt
  obtain ⟨r0,r1,r2,r3,lt_x⟩:=blok4 hX2
  obtain ⟨f_0,f_1,f_2,f_3⟩:=free4 hX2
  have HX:=Lib.hid hX2
  clear hX2
  go_wp2_with fail
  have hX:=HX.out
  have hB:=hB2
  clear r0 r1 r2 r3 y0 y1 y2 y3
  obtain ⟨hF,hWf,hgw⟩:=ret4 (show Blok _ _ _ #[_,_,_,_] from hX) hB (show w.heap.size ≤ (w.heap.size + 1) by first | exact Nat.le_refl _ | omega) (.slice A2 n1 c2) (.slice A3 n c3) (.int .i64 p.clk) (.int .i64 p.ver)
  have hlF:=hF.lt
  generalize (((w9.setCell ⟨(w.heap.size + 1),0,none⟩ (.slice A2 n1 c2)).setCell ⟨(w.heap.size + 1),1,none⟩ (.slice A3 n c3)).setCell ⟨(w.heap.size + 1),2,none⟩ (.int .i64 p.clk)).setCell ⟨(w.heap.size + 1),3,none⟩ (.int .i64 p.ver) = wf at *
  obtain ⟨r0,r1,r2,r3,_⟩:=blok4 hF
  refine bodyPost_ret (v:=.agg #[.slice A2 n1 c2,.slice A3 n c3,.int .i64 p.clk,.int .i64 p.ver]) (by simp [results,Tryz.results101,go_sem,r0,r1,r2,r3,hlF]) rfl ?_
  exact ⟨A2,c2,A3,c3,rfl,⟨D1.out,D2.out,hb1,hb2,own_down (own_far hO1 hgw (fun q hq => by injection hq with hq; omega)) (by omega),own_down (own_far hO2 hgw (fun q hq => by injection hq with hq; omega)) (by omega)⟩,hWf⟩
theorem Pl.right_spec {p:Pl}:p.right = true ↔ RightP p.cs p.rs p.clk p.ver:=rightP_spec
theorem rightC_len {d:List Co} (h:Kc.rightC d = true):d.length ≤ 4096:=(Kc.rightC_true.1 h).1
theorem rightR_len {d:List Rg} (h:Kr.rightB d = true):d.length ≤ 4096:=(Kr.rightB_true.1 h).1
theorem mem_addT {d:List Co} {r x:Co} (hr:Kc.rightC d = true) (h:x ∈ addT d r):x ∈ d ∨ (Kc.mayC d r = 0 ∧ x = r):=by
 by_cases hm:Kc.mayC d r = 0
 ·obtain ⟨i,hi,e,_,_⟩:=addT_at hr hm
  rw [e] at h
  unfold Kc.insC at h
  simp only [List.mem_append,List.mem_singleton] at h
  rcases h with (h | h) | h
  ·exact .inl (List.mem_of_mem_take h)
  ·exact .inr ⟨hm,h⟩
  ·exact .inl (List.mem_of_mem_drop h)
 ·unfold addT at h; rw [if_neg hm] at h; exact .inl h
theorem mem_chgT {d:List Co} {id rt:Int} {x:Co} (h:x ∈ chgT d id rt):∃ y ∈ d,x.en = y.en:=by
 unfold chgT at h
 split at h
 ·rename_i hc
  rcases List.mem_or_eq_of_mem_set h with h | h
  ·exact ⟨x,h,rfl⟩
  ·obtain ⟨q,hq,hbef,hat⟩:=firstHitCo hc.2
   have hf:d.findIdx (fun x => x.id == id) = q:=first_at _ hq (fun j hj hjq => by have:=hbef j hjq; rw [gCo_eq hj] at this; exact this) (by rw [gCo_eq hq] at hat; exact hat)
   rw [hf] at h
   exact ⟨gCo d q,gCo_mem hq,by rw [h]; rfl⟩
 ·exact ⟨x,h,rfl⟩
theorem mem_addU {d:List Rg} {r x:Rg} (hr:Kr.rightB d = true) (h:x ∈ addU d r):x ∈ d ∨ (Kr.mayF d r = 0 ∧ x = r):=by
 by_cases hm:Kr.mayF d r = 0
 ·obtain ⟨i,hi,e,_,_⟩:=addU_at hr hm
  rw [e] at h
  unfold Kr.insR at h
  simp only [List.mem_append,List.mem_singleton] at h
  rcases h with (h | h) | h
  ·exact .inl (List.mem_of_mem_take h)
  ·exact .inr ⟨hm,h⟩
  ·exact .inl (List.mem_of_mem_drop h)
 ·unfold addU at h; rw [if_neg hm] at h; exact .inl h
theorem mem_chgU {d:List Rg} {r x:Rg} (h:x ∈ chgU d r):∃ y ∈ d,x.en = y.en:=by
 unfold chgU at h
 split at h
 ·rename_i hc
  rcases List.mem_or_eq_of_mem_set h with h | h
  ·exact ⟨x,h,rfl⟩
  ·obtain ⟨q,hq,hbef,hat⟩:=firstHitRg hc.2
   have hf:d.findIdx (fun x => Kr.sameR x r) = q:=first_at _ hq (fun j hj hjq => by have:=hbef j hjq; rw [gRg_eq hj] at this; exact this) (by rw [gRg_eq hq] at hat; exact hat)
   rw [hf] at h
   exact ⟨gRg d q,gRg_mem hq,by rw [h]; rfl⟩
 ·exact ⟨x,h,rfl⟩
theorem chgU_right {d:List Rg} {r:Rg} (hr:Kr.rightB d = true):Kr.rightB (chgU d r) = true ∧ (chgU d r).length = d.length:=by
 unfold chgU
 split
 ·rename_i h
  obtain ⟨q,hq,hbef,hat⟩:=firstHitRg h.2
  have hf:d.findIdx (fun x => Kr.sameR x r) = q:=first_at _ hq (fun j hj hjq => by have:=hbef j hjq; rw [gRg_eq hj] at this; exact this) (by rw [gRg_eq hq] at hat; exact hat)
  rw [hf]
  have ho:=h.1
  unfold inB at ho
  rw [decide_eq_true_eq] at ho
  exact ⟨Kr.right_set hr hq ho.1 ho.2,List.length_set⟩
 ·exact ⟨hr,rfl⟩
theorem stepCl_right {cs:List Co} {d:Dr} (hr:Kc.rightC cs = true):Kc.rightC (stepCl cs d) = true:=by
 unfold stepCl
 split
 ·exact addT_right hr
 ·split
  ·exact Kc.right_filter hr _
  ·exact (chgT_right hr).1
theorem stepRl_right {rs:List Rg} {d:Dr} (hr:Kr.rightB rs = true):Kr.rightB (stepRl rs d) = true:=by
 unfold stepRl
 split
 ·exact addU_right hr
 ·split
  ·exact Kr.right_filter hr _
  ·exact (chgU_right hr).1
theorem stepP_right {p:Pl} {d:Dr} (hr:p.right = true):(stepP p d).right = true:=by
 have h:=Pl.right_spec.1 hr
 unfold stepP
 split
 ·rename_i hq
  unfold stepQ at hq
  have hrd:rightD d = true:=by
   cases hd:rightD d with
   | true => rfl
   | false => rw [if_pos hd] at hq; omega
  rw [if_neg (by rw [hrd]; simp)] at hq
  have hpast:¬ (d.op = 1 ∧ endD d ≤ p.clk):=fun hc => by rw [if_pos hc] at hq; omega
  rw [if_neg hpast] at hq
  have hv:0 ≤ min (p.ver + 1) 1099511627776 ∧ min (p.ver + 1) 1099511627776 ≤ 1099511627776:=by have:=h.v0; omega
  split
  ·rename_i hk
   refine Pl.right_spec.2 ⟨stepCl_right h.co,h.rg,h.c0,h.c1,hv.1,hv.2,fun x hx => ?_,h.er⟩
   show p.clk < x.en
   unfold stepCl at hx
   split at hx
   ·rename_i ho
    rcases mem_addT h.co hx with hx | ⟨_,rfl⟩
    ·exact h.ec x hx
    ·have he:¬ endD d ≤ p.clk:=fun hc => hpast ⟨ho,hc⟩
     unfold endD at he
     rw [if_pos hk] at he
     show p.clk < d.en
     omega
   ·split at hx
    ·exact h.ec x (List.mem_filter.1 hx).1
    ·obtain ⟨y,hy,e⟩:=mem_chgT hx
     rw [e]
     exact h.ec y hy
  ·rename_i hk
   refine Pl.right_spec.2 ⟨h.co,stepRl_right h.rg,h.c0,h.c1,hv.1,hv.2,h.ec,fun x hx => ?_⟩
   show p.clk < x.en
   unfold stepRl at hx
   split at hx
   ·rename_i ho
    rcases mem_addU h.rg hx with hx | ⟨_,rfl⟩
    ·exact h.er x hx
    ·have he:¬ endD d ≤ p.clk:=fun hc => hpast ⟨ho,hc⟩
     unfold endD at he
     rw [if_neg hk] at he
     show p.clk < d.re
     omega
   ·split at hx
    ·exact h.er x (List.mem_filter.1 hx).1
    ·obtain ⟨y,hy,e⟩:=mem_chgU hx
     rw [e]
     exact h.er y hy
 ·exact hr
def samePB (p q:Pl):Bool:=decide (p.cs = q.cs) && (decide (p.rs = q.rs) && ((p.clk == q.clk) && (p.ver == q.ver)))
theorem samePB_refl (p:Pl):samePB p p = true:=by unfold samePB; simp
def advQ (p:Pl) (now:Int):Int:=if inB now p.clk 2147483647 = true then 0 else 7
def advP (p:Pl) (now:Int):Pl:=
 if inB now p.clk 2147483647 = true then ⟨Kc.leftC p.cs now,p.rs.filter (fun x => !decide (x.en ≤ now)),now,if now = p.clk then p.ver else min (p.ver + 1) 1099511627776⟩ else p
def advG (p:Pl) (now:Int):List Int:=if inB now p.clk 2147483647 = true then sortI (Kc.goneL p.cs now) else []
end Go.Proofs.YtjldgcebadojiaaGreatDoor
