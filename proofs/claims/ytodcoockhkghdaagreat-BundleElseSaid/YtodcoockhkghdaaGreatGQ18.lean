/- Several texts of mine in one: DueFew, LeastMath, Joint2, Least1, DueGst. No condition. -/
import Derived.Test.YtodcoockhkghdaaGreatGQ17
import Derived.Deep.LoopGhost
import Derived.Test.YtodcoockhkghdaaGreatGQ12
import Derived.Test.YtodcoockhkghdaaGreatGQ16
namespace Go.Proofs.YtodcoockhkghdaaGreat
open Go.ChangeShapes Go.WideShapes Go.ChangeAt Go.RowKit Go.Sort Go.Maps Hp
set_option linter.unusedSimpArgs false
set_option linter.unusedVariables false
def IsFew (l:List Ed) (size:Int) (op:Int → Bool) (q by_ x now:Int):Option Nat → Prop
 | some h => (∃ t,lateL l size op q by_ h x = some t ∧ now ≤ t) ∧ ∀ k,k < h → ∀ t,lateL l size op q by_ k x = some t → t < now
 | none => ∀ k t,lateL l size op q by_ k x = some t → t < now
theorem few_ex (l:List Ed) (size:Int) (op:Int → Bool) (q by_ x now:Int):∃ o,IsFew l size op q by_ x now o:=by
 by_cases h:∃ k,∃ t,lateL l size op q by_ k x = some t ∧ now ≤ t
 ·obtain ⟨k,h1,h2⟩:=Go.exists_least h
  refine ⟨some k,h1,fun j hj t ht => ?_⟩
  rcases Int.lt_or_le t now with h3 | h3
  ·exact h3
  ·have:=h2 j ⟨t,ht,h3⟩
   omega
 ·refine ⟨none,fun k t ht => ?_⟩
  rcases Int.lt_or_le t now with h3 | h3
  ·exact h3
  ·exact absurd ⟨k,t,ht,h3⟩ h
theorem few_one {l:List Ed} {size:Int} {op:Int → Bool} {q by_ x now:Int} {o o':Option Nat} (h:IsFew l size op q by_ x now o) (h':IsFew l size op q by_ x now o'):o = o':=by
 cases o with
 | none =>
  cases o' with
  | none => rfl
  | some k => obtain ⟨⟨t,ht,hn⟩,_⟩:=h'; have:=h k t ht; omega
 | some j =>
  cases o' with
  | none => obtain ⟨⟨t,ht,hn⟩,_⟩:=h; have:=h' j t ht; omega
  | some k =>
   obtain ⟨⟨t,ht,hn⟩,h1⟩:=h
   obtain ⟨⟨u,hu,hm⟩,h2⟩:=h'
   rcases Nat.lt_trichotomy j k with e | e | e
   ·have:=h2 j e t ht; omega
   ·rw [e]
   ·have:=h1 k e u hu; omega
theorem bool_iff (p:Prop):∃ b:Bool,(b = false ↔ p):=by
 by_cases h:p
 ·exact ⟨false,by simp [h]⟩
 ·exact ⟨true,by simp [h]⟩
end Go.Proofs.YtodcoockhkghdaaGreat
namespace Go.Proofs.YtodcoockhkghdaaGreat
open Go.ChangeShapes Go.WideShapes Go.ChangeAt Go.RowKit Go.Sort Hp
set_option linter.unusedSimpArgs false
set_option linter.unusedVariables false
def fitE (l:List Ed) (size:Int) (op:Int → Bool) (q by_:Int) (k:Nat) (n t:Int) (e:Ed):Bool:=
 e.fr == n && (match e.pass t size with | none => false | some p => op e.tn && (match lateL l size op q by_ k e.tn with | none => false | some v => decide (p.2 ≤ v)))
theorem fitE_spec {l:List Ed} {size:Int} {op:Int → Bool} {q by_:Int} {k:Nat} {n t:Int} {e:Ed}:fitE l size op q by_ k n t e = true ↔ e.fr = n ∧ ∃ s a v,e.pass t size = some (s,a) ∧ op e.tn = true ∧ lateL l size op q by_ k e.tn = some v ∧ a ≤ v:=by
 unfold fitE
 constructor
 ·intro h
  rw [Bool.and_eq_true,beq_iff_eq] at h
  obtain ⟨h1,h2⟩:=h
  cases hp:e.pass t size with
  | none => rw [hp] at h2; cases h2
  | some p =>
   rw [hp] at h2
   simp only [Bool.and_eq_true] at h2
   obtain ⟨h3,h4⟩:=h2
   cases hv:lateL l size op q by_ k e.tn with
   | none => rw [hv] at h4; cases h4
   | some v => rw [hv] at h4; exact ⟨h1,p.1,p.2,v,rfl,h3,rfl,of_decide_eq_true h4⟩
 ·rintro ⟨h1,s,a,v,hp,ho,hv,hle⟩
  rw [hp,hv,ho,beq_iff_eq.2 h1]
  simpa using hle
def bestE (l:List Ed) (size:Int) (op:Int → Bool) (q by_:Int):Nat → Int → Int → Option (List Ed)
 | 0,_,_ => some []
 | k + 1,n,t => (l.find? (fitE l size op q by_ k n t)).bind fun e => (e.pass t size).bind fun p => (bestE l size op q by_ k e.tn p.2).map (e :: ·)
structure FewAt (l:List Ed) (size:Int) (op:Int → Bool) (q by_:Int) (k:Nat) (n t:Int):Prop where
 ge:0 ≤ t
 le:∃ v,lateL l size op q by_ k n = some v ∧ t ≤ v
 min:∀ j,j < k → ∀ u,lateL l size op q by_ j n = some u → u < t
section
variable {l:List Ed} {size:Int} {op:Int → Bool} {q by_:Int}
theorem FewAt.zero {n t:Int} (h:FewAt l size op q by_ 0 n t):n = q ∧ t ≤ by_:=by
 obtain ⟨v,hv,hle⟩:=h.le
 unfold lateL oneT at hv
 split at hv
 ·rename_i e
  injection hv with hv
  exact ⟨e,by omega⟩
 ·cases hv
theorem FewAt.ne {k:Nat} {n t:Int} (h0:0 ≤ by_) (h:FewAt l size op q by_ (k + 1) n t):n ≠ q:=by
 rintro rfl
 have h1:=h.min 0 (by omega) by_ (lateL_end 0)
 obtain ⟨v,hv,hle⟩:=h.le
 have:=lateL_bounds h0 _ _ _ hv
 omega
theorem FewAt.next {k:Nat} {n t s a:Int} {e:Ed} (h0:0 ≤ by_) (hb:by_ ≤ 1099511627776) (h:FewAt l size op q by_ (k + 1) n t) (he:e ∈ l) (hf:fitE l size op q by_ k n t e = true) (hp:e.pass t size = some (s,a)):FewAt l size op q by_ k e.tn a:=by
 obtain ⟨h1,s',a',v,hp',ho,hv,hle⟩:=fitE_spec.1 hf
 rw [hp] at hp'
 injection hp' with hp'
 injection hp' with _ e2
 subst e2
 have hpf:=pass_facts hp
 have hge:=h.ge
 refine ⟨by omega,⟨v,hv,hle⟩,fun j hj u hu => ?_⟩
 rcases Int.lt_or_le u a with h2 | h2
 ·exact h2
 ·have hub:=lateL_bounds h0 j _ _ hu
  obtain ⟨x,hx,htx⟩:=lat_complete hp h2 (by omega)
  obtain ⟨w,hw,hxw⟩:=(lateL_step (by_:=by_) j).edge e he (by rw [h1]; exact h.ne h0) ho u x hu hx
  rw [h1] at hw
  have:=h.min (j + 1) (by omega) w hw
  omega
theorem FewAt.fit {k:Nat} {n t:Int} (h0:0 ≤ by_) (hb:by_ ≤ 1099511627776) (h:FewAt l size op q by_ (k + 1) n t):∃ e ∈ l,fitE l size op q by_ k n t e = true:=by
 obtain ⟨v,hv,hle⟩:=h.le
 obtain ⟨es,u,h1,h2,h3,h4⟩:=lateL_sound (k + 1) hv h.ge hle
 cases es with
 | nil =>
  injection h3 with h3
  injection h3 with e1 _
  exact absurd e1 (h.ne h0)
 | cons e r =>
  obtain ⟨s,a,hf,hn,hp,hr⟩:=runE_cons h3
  obtain ⟨w,hw,hle2⟩:=lateL_complete hb h0 k (fun x hx => h1 x (List.mem_cons_of_mem _ hx)) (by simp at h2; omega) hr h4
  exact ⟨e,h1 e (List.mem_cons_self ..),fitE_spec.2 ⟨hf,s,a,w,hp,by simpa using hn,hw,hle2⟩⟩
theorem bestE_is (h0:0 ≤ by_) (hb:by_ ≤ 1099511627776):∀ (k:Nat) {n t:Int},FewAt l size op q by_ k n t → ∃ es u,bestE l size op q by_ k n t = some es ∧ (∀ e ∈ es,e ∈ l) ∧ es.length = k ∧ runE size (fun y => !op y) n t es = some (q,u) ∧ u ≤ by_
 | 0,n,t,h => by
  obtain ⟨rfl,hle⟩:=h.zero
  exact ⟨[],t,rfl,by simp,rfl,rfl,hle⟩
 | k + 1,n,t,h => by
  obtain ⟨e0,he0,hf0⟩:=h.fit h0 hb
  cases hfind:l.find? (fitE l size op q by_ k n t) with
  | none => exact absurd hf0 (by simpa using List.find?_eq_none.1 hfind e0 he0)
  | some e =>
   have he:=List.mem_of_find?_eq_some hfind
   have hf:=List.find?_some hfind
   obtain ⟨h1,s,a,v,hp,ho,hv,hle⟩:=fitE_spec.1 hf
   obtain ⟨es,u,g1,g2,g3,g4,g5⟩:=bestE_is h0 hb k (h.next h0 hb he hf hp)
   refine ⟨e :: es,u,by rw [bestE,hfind]; simp only [Option.bind,hp,g1,Option.map],fun x hx => ?_,by simp [g3],?_,g5⟩
   ·rcases List.mem_cons.1 hx with rfl | h2
    ·exact he
    ·exact g2 x h2
   ·rw [runE_step h1 (by simp [ho]) hp]; exact g4
theorem bestE_apart (h0:0 ≤ by_) (hb:by_ ≤ 1099511627776):∀ (k:Nat) {n t:Int} {es:List Ed},FewAt l size op q by_ k n t → bestE l size op q by_ k n t = some es → (nodesE n es).Nodup ∧ ∀ m ∈ es.map Ed.tn,∃ j a,j < k ∧ t ≤ a ∧ FewAt l size op q by_ j m a
 | 0,n,t,es,h,he => by
  injection he with he
  subst he
  exact ⟨by simp [nodesE],by simp⟩
 | k + 1,n,t,es,h,he => by
  rw [bestE] at he
  cases hfind:l.find? (fitE l size op q by_ k n t) with
  | none => rw [hfind] at he; cases he
  | some e =>
   rw [hfind] at he
   have hel:=List.mem_of_find?_eq_some hfind
   have hf:=List.find?_some hfind
   obtain ⟨h1,s,a,v,hp,ho,hv,hle⟩:=fitE_spec.1 hf
   simp only [Option.bind,hp] at he
   cases hr:bestE l size op q by_ k e.tn a with
   | none => rw [hr] at he; cases he
   | some rs =>
    rw [hr] at he
    injection he with he
    subst he
    have hn:=h.next h0 hb hel hf hp
    have hpf:=pass_facts hp
    obtain ⟨g1,g2⟩:=bestE_apart h0 hb k hn hr
    have key:∀ m ∈ (e :: rs).map Ed.tn,∃ j b,j < k + 1 ∧ t ≤ b ∧ FewAt l size op q by_ j m b:=fun m hm => by
     rw [List.map_cons] at hm
     rcases List.mem_cons.1 hm with rfl | h2
     ·exact ⟨k,a,by omega,by omega,hn⟩
     ·obtain ⟨j,b,hj,hb2,hfw⟩:=g2 m h2
      exact ⟨j,b,by omega,by omega,hfw⟩
    refine ⟨?_,key⟩
    rw [nodesE_cons]
    refine List.nodup_cons.2 ⟨fun hm => ?_,g1⟩
    have hm':n ∈ (e :: rs).map Ed.tn:=hm
    obtain ⟨j,b,hj,hb2,hfw⟩:=key n hm'
    obtain ⟨v2,hv2,hle2⟩:=hfw.le
    have:=h.min j hj v2 hv2
    omega
end
def lexI:List Int → List Int → Prop
 | [],_ => True
 | _ :: _,[] => False
 | x :: r,y :: s => x < y ∨ (x = y ∧ lexI r s)
theorem find_first {l:List Ed} (hr:rightE l = true) {p:Ed → Bool} {e e':Ed} (h:l.find? p = some e) (he':e' ∈ l) (hp:p e' = true):e.id < e'.id ∨ e = e':=by
 obtain ⟨hpe,i,hi,hie,hb⟩:=List.find?_eq_some_iff_getElem.1 h
 obtain ⟨j,hj,hje⟩:=List.getElem_of_mem he'
 rcases Nat.lt_trichotomy i j with e1 | e1 | e1
 ·have:=rightE_lt hr j i e1 hj
  rw [gEd_eq hi,gEd_eq hj,hie,hje] at this
  exact .inl this
 ·subst e1
  exact .inr (by rw [← hie,hje])
 ·have:=hb j e1
  rw [hje,hp] at this
  cases this
theorem bestE_first {l:List Ed} {size:Int} {op:Int → Bool} {q by_:Int} (hre:rightE l = true) (h0:0 ≤ by_) (hb:by_ ≤ 1099511627776):∀ (k:Nat) {n t u:Int} {es es':List Ed},FewAt l size op q by_ k n t → bestE l size op q by_ k n t = some es → (∀ e ∈ es',e ∈ l) → es'.length = k → runE size (fun y => !op y) n t es' = some (q,u) → u ≤ by_ → lexI (es.map Ed.id) (es'.map Ed.id)
 | 0,n,t,u,es,es',h,he,_,_,_,_ => by
  injection he with he
  subst he
  trivial
 | k + 1,n,t,u,es,[],h,he,_,hl,_,_ => by simp at hl
 | k + 1,n,t,u,es,e' :: r',h,he,hm,hl,hrun,hu => by
  rw [bestE] at he
  obtain ⟨s',a',hf',hn',hp',hr'⟩:=runE_cons hrun
  have hm':∀ x ∈ r',x ∈ l:=fun x hx => hm x (List.mem_cons_of_mem _ hx)
  obtain ⟨w,hw,hle2⟩:=lateL_complete hb h0 k hm' (by simp at hl; omega) hr' hu
  have hfit':fitE l size op q by_ k n t e' = true:=fitE_spec.2 ⟨hf',s',a',w,hp',by simpa using hn',hw,hle2⟩
  cases hfind:l.find? (fitE l size op q by_ k n t) with
  | none => rw [hfind] at he; cases he
  | some e =>
   rw [hfind] at he
   have hel:=List.mem_of_find?_eq_some hfind
   have hf:=List.find?_some hfind
   obtain ⟨h1,s,a,v,hp,ho,hv,hle⟩:=fitE_spec.1 hf
   simp only [Option.bind,hp] at he
   cases hr:bestE l size op q by_ k e.tn a with
   | none => rw [hr] at he; cases he
   | some rs =>
    rw [hr] at he
    injection he with he
    subst he
    rcases find_first hre hfind (hm e' (List.mem_cons_self ..)) hfit' with h2 | h2
    ·exact .inl h2
    ·subst h2
     rw [hp] at hp'
     injection hp' with hp'
     injection hp' with _ e2
     subst e2
     exact .inr ⟨rfl,bestE_first hre h0 hb k (h.next h0 hb hel hf hp) hr hm' (by simpa using hl) hr' hu⟩
end Go.Proofs.YtodcoockhkghdaaGreat
namespace Go.Proofs.YtodcoockhkghdaaGreat
open Go.ChangeShapes Go.WideShapes Go.ChangeAt Go.RowKit Go.Sort Hp
set_option linter.unusedSimpArgs false
set_option linter.unusedVariables false
theorem zeroP:Tryz.zeroCells162 = (List.replicate 256 (Value.slice none 0 0)).toArray:=by kernel_rfl
set_option maxHeartbeats 2000000 in
set_option maxRecDepth 100000 in
theorem jfrom_any (A:Option Addr) (n c:Nat) (l:List Ed) (w:World) (hd:l.length = n) (hn:n ≤ 1000) (hok:∀ k,k < n → 1 ≤ (gEd l k).fr ∧ (gEd l k).fr ≤ 255) (h:Sl w w.heap.size 8 A n c (flatEd l)) :
  Calls Tryz.prog 69 #[.slice A n c] w fun e w' => ∃ cs:List Value,e = .returned (.pointer (some ⟨w.heap.size,0,none⟩)) ∧ Blok w' w.heap.size 162 cs.toArray ∧ Plc w' (w.heap.size + 1) l n cs ∧ Below w.heap.size w w':=by
 obtain ⟨i0,hi0,hz0,hz1,hz2⟩:=info_parts infoIJ
 have hB:Below w.heap.size w (w.alloc (.cells Tryz.zeroCells162 162)):=(Below.refl _ _).alloc (Nat.le_refl _) _
 have hG:=Blok.new w 162 Tryz.zeroCells162
 have HD:=Lib.hid hd
 have HOK:=Lib.hid hok
 have HL:=Lib.hid (fun w' (hb:Below w.heap.size w w') => h.up hb)
 clear hd hok h
 go_enter Tryz.func69,Tryz.ntmps69
 go_upto_region 2 with fail
 generalize w.alloc (.cells Tryz.zeroCells162 162) = w0 at *
 rw [zeroP] at hG
 have HG0:=Lib.hid hG
 have HP0:Hid (Plc w0 (w.heap.size + 1) l 0 (List.replicate 256 (.slice none 0 0))):=Plc.zero _ _ _
 clear hG
 go_wp2_with fail
 go_loopw [8] (fun iv wr => ∃ (k:Nat) (cs:List Value),iv = .int .i64 k ∧ k ≤ n ∧ Below w.heap.size w wr ∧ Hid (Blok wr w.heap.size 162 cs.toArray) ∧ Hid (Plc wr (w.heap.size + 1) l k cs)) (fun iv _ => n - (intOf iv).toNat)
 case atStart => exact ⟨0,_,rfl,by omega,hB,HG0,HP0⟩
 case round =>
  clear hB HG0 HP0
  obtain ⟨k,cs,rfl,hk,hB,HG,HP⟩:=hrel
  have hs:=hB.size
  by_cases hkn:k < n
  ·obtain ⟨ad,rfl,hab,c0,c1,c2,c3,c4,c5,c6,c7⟩:=(HL.out _ hB).lst.atEd HD.out hkn
   have hfr:=HOK.out k hkn
   obtain ⟨x,hx⟩:∃ x,gEd l k = x:=⟨_,rfl⟩
   rw [hx] at c0 c1 c2 c3 c4 c5 c6 c7 hfr
   have HX:=Lib.hid hx
   have hX:=Blok.new wr 86 #[.int .i64 x.id,.int .i64 x.fr,.int .i64 x.tn,.int .i64 x.op,.int .i64 x.en,.int .i64 x.ra,.int .i64 x.ow,.int .i64 x.ro]
   have hb:=(Below.refl wr.heap.size wr).alloc (Nat.le_refl _) (.cells #[.int .i64 x.id,.int .i64 x.fr,.int .i64 x.tn,.int .i64 x.op,.int .i64 x.en,.int .i64 x.ra,.int .i64 x.ow,.int .i64 x.ro] 86)
   go_upto_region 5 with fail
   clear c0 c1 c2 c3 c4 c5 c6 c7
   have hG:=HG.out.below hb HG.out.lt
   have hP:=HP.out.below hb
   have hB2:=hB.trans (hb.mono hs)
   clear hb HG HP hB hs hx
   generalize wr.alloc (.cells #[.int .i64 x.id,.int .i64 x.fr,.int .i64 x.tn,.int .i64 x.op,.int .i64 x.en,.int .i64 x.ra,.int .i64 x.ow,.int .i64 x.ro] 86) = w2 at *
   generalize wr.heap.size = bx at *
   obtain ⟨f,hf⟩:∃ f:Nat,x.fr = (f:Int):=⟨x.fr.toNat,by omega⟩
   have HFR:=Lib.hid (show (gEd l k).fr = (f:Int) from by rw [HX.out,hf])
   have hf2:f < 256:=by omega
   have x1:w2.cell? ⟨bx,1,none⟩ = some (.int .i64 (f:Int)):=by rw [← hf]; exact hX.cell 1
   have lt_x:=hX.lt
   have hlen:=hP.len
   obtain ⟨v,hv⟩:∃ v,cellP cs f = v:=⟨_,rfl⟩
   have pg:w2.cell? ⟨w.heap.size,f,none⟩ = some v:=by
    rw [hG.cell f,← hv]
    have:=cellP_at (cs:=cs) (n:=f) (by omega)
    simpa using this
   have fg:=hG.free f
   have lt_g:=hG.lt
   have hrow:=hP.row f hf2
   rw [hv] at hrow
   have hrl:=rowI_len l k f
   have HROW:=Lib.hid hrow
   have HG2:=Lib.hid hG
   have HP2:=Lib.hid hP
   have HV:=Lib.hid hv
   have hs2:=hB2.size
   have hgv:some w.heap.size ≠ v.ownBlock:=fun e => by have:=(HROW.out.lt _ e.symm).1; omega
   have hfI:(f:Int) < 256:=by omega
   have hf0:(0:Int) ≤ (f:Int):=by omega
   have HXB:=Lib.hid hX
   have hxv:=Lib.hid (Blok.ne_own HROW.out hX (by decide))
   have x1h:=Lib.hid x1
   clear hX hf hfr hv hG hP hrow hlen
   go_region_law (refine step_append_own rfl (.tmp 18) (.tmp 20) 44 rfl (w.heap.size + 1) 3 i0 _ 1 8 Tryz.underlying44 hi0 hz0 hz1 hz2 rfl (by decide) v (rowI l k f).length ((rowI l k f).map (Value.int .i64)) rfl (HROW.out.alloc _) ⟨w2.heap.size,0,none⟩ 1 1 [.int .i64 k] rfl rfl (by exact lit_cells _ #[.int .i64 k] _ _ (by simp)) (by simp [Value.oneCell']) (by unfold maxLen; omega) (by omega) (by simp; omega) ?_; intro v1 w1 hown1 hg1 hn1 hl1; clear hn1; obtain ⟨A1,q1,rfl⟩:=slice_of_own hown1; have hb1:=Blok.over HG2.out hg1 (fun e => hgv e.symm) (by (repeat (first | exact Below.refl _ _ | refine Below.alloc ?_ (by first | omega | (simp; done) | (simp; omega)) _ | refine Below.setCell ?_ (by first | omega | (simp; done) | (simp; omega)) _ | refine Below.drew ?_))); have cb1:w1.cell? ⟨w.heap.size,f,none⟩ = some v:=(hb1.cell f).trans ((HG2.out.cell f).symm.trans pg); have hbx:=Blok.over HXB.out hg1 hxv.out (by (repeat (first | exact Below.refl _ _ | refine Below.alloc ?_ (by first | omega | (simp; done) | (simp; omega)) _ | refine Below.setCell ?_ (by first | omega | (simp; done) | (simp; omega)) _ | refine Below.drew ?_))); have xb1:w1.cell? ⟨bx,1,none⟩ = some (.int .i64 (f:Int)):=(hbx.cell 1).trans ((HXB.out.cell 1).symm.trans x1h.out); have lbx:=hbx.lt; clear hbx; have fb1:=hb1.free f; have lb1:=hb1.lt; have HL1:=Lib.hid hl1; have HO1:=Lib.hid hown1; have HGR:=Lib.hid hg1; have HB1:=Lib.hid hb1; clear hl1 hown1 hg1 hb1)
   all_goals
    have hw:Below w2.heap.size w2 ((w2.alloc (.cells #[.int .i64 k] 3)).drew):=by (repeat (first | exact Below.refl _ _ | refine Below.alloc ?_ (by first | omega | (simp; done) | (simp; omega)) _ | refine Below.setCell ?_ (by first | omega | (simp; done) | (simp; omega)) _ | refine Below.drew ?_))
    have hbl:(Value.slice A1 ((rowI l k f).length + 1) q1).ownBlock = (cellP cs f).ownBlock ∨ ∃ b,w2.heap.size ≤ b ∧ (Value.slice A1 ((rowI l k f).length + 1) q1).ownBlock = some b:=by
     rcases HL1.out with e | e
     ·exact .inl (by rw [HV.out]; exact e)
     ·exact .inr ⟨_,hw.size,e⟩
    have hPN:=Plc.put (g:=w.heap.size) HP2.out hf2 HFR.out (by omega) hw (by rw [HV.out]; exact HGR.out) HO1.out hbl
    have hGN:Blok (w1.setCell ⟨w.heap.size,f,none⟩ (.slice A1 ((rowI l k f).length + 1) q1)) w.heap.size 162 (cs.set f (.slice A1 ((rowI l k f).length + 1) q1)).toArray:=by
     have h:=HB1.out.set_ f (.slice A1 ((rowI l k f).length + 1) q1)
     simpa using h
    have hB1:Below w.heap.size w w1:=(hB2.trans (hw.mono hs2)).grown HGR.out (Nat.le_trans hs2 hw.size) (fun g hg => by have:=(HROW.out.lt g hg).1; omega)
    have hBN:=hB1.setCell (p:=⟨w.heap.size,f,none⟩) (Nat.le_refl _) (.slice A1 ((rowI l k f).length + 1) q1)
    have HPN:=Lib.hid hPN
    have HGN:=Lib.hid hGN
    clear hPN hGN hB1 hw hbl HGR HO1 HL1 HB1 cb1 xb1 lbx fb1 lb1 pg fg lt_g x1 lt_x hB2
    generalize w1.setCell ⟨w.heap.size,f,none⟩ (.slice A1 ((rowI l k f).length + 1) q1) = wq at *
    go_wp2_with fail
    go_roundw
    case rel => exact ⟨k + 1,cs.set f (.slice A1 ((rowI l k f).length + 1) q1),by go_num,by omega,hBN,HGN,HPN⟩
    case measure => simp [intOf]; omega
  ·obtain rfl:k = n:=by omega
   go_wp2_with fail
   go_ret
   exact ⟨cs,rfl,HG.out,HP.out,hB⟩
end Go.Proofs.YtodcoockhkghdaaGreat
namespace Go.Proofs.YtodcoockhkghdaaGreat
open Go.ChangeShapes Go.WideShapes Go.ChangeAt Go.RowKit Go.Sort Go.Maps Hp
set_option linter.unusedSimpArgs false
set_option linter.unusedVariables false
def thrB (l:List Ed) (size:Int) (sh:List Int) (q by_:Int) (k:Nat) (x a:Int):Bool:=(match lateL l size (opn sh q) q by_ k x with | none => false | some v => decide (a ≤ v)) && opn sh q x
set_option maxHeartbeats 2000000 in
set_option maxRecDepth 100000 in
theorem dthrough_any {w0 w:World} {tb:Nat} {A:Option Addr} {n c:Nat} {l:List Ed} {q by_ size:Int} {sh:List Int} {h:Nat} (t:TabH w0 w tb A n c l q by_ size sh h) (hh:h ≤ 10000) (x a:Int) (k:Nat) (hk:k ≤ h) (hx:(Lit.int .i64 x).wf = true) (b:Bool) (hb:thrB l size sh q by_ k x a = b) :
  Calls Tryz.prog 72 #[.pointer (some ⟨tb,0,none⟩),.int .i64 x,.int .i64 a,.int .i64 (k:Int)] w fun e w' => e = .returned (.bool b) ∧ Below w.heap.size w w':=by
 obtain ⟨u,hu⟩:∃ z,(lateL l size (opn sh q) q by_ k x).getD 0 = z:=⟨_,rfl⟩
 obtain ⟨ok,hok⟩:∃ z,(lateL l size (opn sh q) q by_ k x).isSome = z:=⟨_,rfl⟩
 obtain ⟨ob,hob⟩:∃ z,opn sh q x = z:=⟨_,rfl⟩
 have HT:=Lib.hid t
 have HU:=Lib.hid hu
 have HK:=Lib.hid hok
 have HOB:=Lib.hid hob
 have HBB:Hid (b = ((ok && decide (a ≤ u)) && ob)):=by
  show b = _
  rw [← hb]
  unfold thrB
  rw [hob,← hok,← hu]
  cases lateL l size (opn sh q) q by_ k x <;> rfl
 clear t hu hok hob hb
 go_enter Tryz.func72,Tryz.ntmps72
 go_wp2_with fail
 refine (dat_any HT.out hh x k hk hx u ok HU.out HK.out).mono ?_
 rintro e w1 ⟨rfl,hb1⟩
 have HB1:=Lib.hid hb1
 clear hb1
 obtain ⟨le,hle⟩:∃ z,decide (a ≤ u) = z:=⟨_,rfl⟩
 have hbb:=HBB.out
 rw [hle] at hbb
 cases ok with
 | false =>
  have hbf:b = false:=by rw [hbb]; rfl
  subst hbf
  clear hbb hle
  go_wp2_with fail
  go_ret
  exact ⟨rfl,HB1.out⟩
 | true =>
  cases le with
  | false =>
   have hbf:b = false:=by rw [hbb]; rfl
   subst hbf
   clear hbb
   go_wp2_with fail
   go_ret
   exact ⟨rfl,HB1.out⟩
  | true =>
   have hbf:b = ob:=by rw [hbb]; cases ob <;> rfl
   subst hbf
   clear hbb
   go_wp2_with fail
   refine (dopen_any (HT.out.below HB1.out) x hx b HOB.out).mono ?_
   rintro e w2 ⟨rfl,hb2⟩
   go_wp2_with fail
   go_ret
   exact ⟨rfl,HB1.out.trans (hb2.mono HB1.out.size)⟩
set_option maxHeartbeats 2000000 in
set_option maxRecDepth 100000 in
theorem rclos_any {w0 w:World} {tb gt gk:Nat} {A:Option Addr} {n c:Nat} {l:List Ed} {q by_ size:Int} {sh:List Int} {h:Nat} (t:TabH w0 w tb A n c l q by_ size sh h) (hh:h ≤ 10000) (x a:Int) (k:Nat) (hk:k ≤ h) (hx:(Lit.int .i64 x).wf = true) (b:Bool) (hb:thrB l size sh q by_ k x a = b)
  (h1:Blok w gt 107 #[.pointer (some ⟨tb,0,none⟩)]) (h2:Blok w gk 3 #[.int .i64 (k:Int)]) :
  Calls Tryz.prog 71 #[.int .i64 x,.int .i64 a,.pointer (some ⟨gt,0,none⟩),.pointer (some ⟨gk,0,none⟩)] w fun e w' => e = .returned (.bool b) ∧ Below w.heap.size w w':=by
 have HT:=Lib.hid t
 have HB:=Lib.hid hb
 have c1:w.cell? ⟨gt,0,none⟩ = some (.pointer (some ⟨tb,0,none⟩)):=h1.cell 0
 have c2:w.cell? ⟨gk,0,none⟩ = some (.int .i64 (k:Int)):=h2.cell 0
 have l1:=h1.lt
 have l2:=h2.lt
 clear t hb h1 h2
 go_enter Tryz.func71,Tryz.ntmps71
 go_wp2_with fail
 refine (dthrough_any HT.out hh x a k hk hx b HB.out).mono ?_
 rintro e w1 ⟨rfl,hb1⟩
 go_wp2_with fail
 go_ret
 exact ⟨rfl,hb1⟩
def goE (l:List Ed) (size:Int) (sh:List Int) (q by_:Int) (k:Nat) (t:Int) (e:Ed):Bool:=match e.pass t size with | none => false | some p => thrB l size sh q by_ k e.tn p.2
theorem goE_fit {l:List Ed} {size:Int} {sh:List Int} {q by_:Int} {k:Nat} {n t:Int} {e:Ed}:fitE l size (opn sh q) q by_ k n t e = (e.fr == n && goE l size sh q by_ k t e):=by
 unfold fitE goE thrB
 congr 1
 cases e.pass t size with
 | none => rfl
 | some p => exact Bool.and_comm _ _
def firstE (l:List Ed) (size:Int) (sh:List Int) (q by_:Int) (k:Nat) (t:Int) (R:List Int):Option Ed:=(R.map (fun i => gEd l i.toNat)).find? (goE l size sh q by_ k t)
theorem firstE_row {l:List Ed} {size:Int} {sh:List Int} {q by_:Int} {k:Nat} {t:Int} (m:Nat):firstE l size sh q by_ k t (rowI l l.length m) = l.find? (fitE l size (opn sh q) q by_ k (m:Int) t):=by
 unfold firstE
 rw [rowI_edges l m l.length (Nat.le_refl _),List.take_length,List.find?_filter]
 congr 1
 funext e
 rw [goE_fit]
 cases (e.fr == (m:Int)) <;> cases goE l size sh q by_ k t e <;> rfl
end Go.Proofs.YtodcoockhkghdaaGreat
namespace Go.Proofs.YtodcoockhkghdaaGreat
open Go.ChangeShapes Go.WideShapes Go.ChangeAt Go.RowKit Go.Sort Go.Maps Hp
set_option linter.unusedSimpArgs false
set_option linter.unusedVariables false
structure Gst (wg:World) (gk:Nat) (w:World) (tb sb:Nat) (cs:Int → Value) (vf:Value):Prop where
 lo:tb < gk
 lt:gk < wg.heap.size
 up:wg.heap.size ≤ w.heap.size
 ms:gk ≠ sb
 mf:vf.ownBlock ≠ some gk
 mc:∀ x,(cs x).ownBlock ≠ some gk
 eq:w.heap[gk]? = wg.heap[gk]?
structure TBG (wg:World) (gk:Nat) (w1 w:World) (tb pb ub:Nat) (A:Option Addr) (n c:Nat) (q size:Int) (h sb nm:Nat) (P:Int → List (Int × Int)) (cs:Int → Value) (vf:Value) (F:List Int):Prop extends TB w1 w tb pb ub A n c q size h sb nm P cs vf F where
 gu:Gst wg gk w tb sb cs vf
section
variable {wg:World} {gk:Nat} {w1 w w':World} {tb pb ub:Nat} {A:Option Addr} {n c:Nat} {q size:Int} {h sb nm:Nat} {P:Int → List (Int × Int)} {cs:Int → Value} {vf:Value} {F:List Int}
theorem Gst.in_ (g:Gst wg gk w tb sb cs vf):gk < w.heap.size:=Nat.lt_of_lt_of_le g.lt g.up
theorem TBG.below (t:TBG wg gk w1 w tb pb ub A n c q size h sb nm P cs vf F) (hB:Below w.heap.size w w'):TBG wg gk w1 w' tb pb ub A n c q size h sb nm P cs vf F:=
 ⟨t.toTB.below hB,t.gu.lo,t.gu.lt,Nat.le_trans t.gu.up hB.size,t.gu.ms,t.gu.mf,t.gu.mc,(hB.block gk t.gu.in_).trans t.gu.eq⟩
theorem TBG.keptS {S:Nat → Prop} (t:TBG wg gk w1 w tb pb ub A n c q size h sb nm P cs vf F) (hk:Kept S w w') (h0:∀ k,k ≤ tb → ¬ S k) (h1:¬ S sb) (h2:∀ x k,(cs x).ownBlock = some k → ¬ S k) (h3:∀ k,vf.ownBlock = some k → ¬ S k) (h4:¬ S gk):TBG wg gk w1 w' tb pb ub A n c q size h sb nm P cs vf F:=
 ⟨t.toTB.keptS hk h0 h1 h2 h3,t.gu.lo,t.gu.lt,Nat.le_trans t.gu.up hk.size,t.gu.ms,t.gu.mf,t.gu.mc,(hk.block gk t.gu.in_ h4).trans t.gu.eq⟩
theorem TBG.count (t:TBG wg gk w1 w tb pb ub A n c q size h sb nm P cs vf F) (v:Value) (hv:v = .int .i64 ((h + 1:Nat):Int)):TBG wg gk w1 ((w.setCell ⟨tb,5,none⟩ v).setCell ⟨tb,7,none⟩ (.slice none 0 0)) tb pb ub A n c q size (h + 1) sb nm P cs (.slice none 0 0) []:=by
 have hk:Kept (fun k => k = tb) w ((w.setCell ⟨tb,5,none⟩ v).setCell ⟨tb,7,none⟩ (.slice none 0 0)):=Kept.set (S:=fun k => k = tb) (Kept.set (S:=fun k => k = tb) (Kept.refl _ _) (fun _ => rfl) 5 _) (fun _ => rfl) 7 _
 have hlo:=t.gu.lo
 exact ⟨t.toTB.count v hv,t.gu.lo,t.gu.lt,Nat.le_trans t.gu.up hk.size,t.gu.ms,by simp [Value.ownBlock],t.gu.mc,(hk.block gk t.gu.in_ (by omega)).trans t.gu.eq⟩
theorem TBG.put {W wA w2:World} {x a b:Int} {v1:Value} {T:Lit → Option Value} (t:TBG wg gk w1 w tb pb ub A n c q size h sb nm P cs vf F) (hw:Below w.heap.size w W) (hg:W.grownBy wA (cs x).ownBlock)
  (hown:wA.ownsRow (tb + 1) 159 2 v1 ((P x).length + 1) (flat2 (P x) ++ [.int .i64 a,.int .i64 b])) (hbl:v1.ownBlock = (cs x).ownBlock ∨ ∃ k,w.heap.size ≤ k ∧ v1.ownBlock = some k)
  (hmap:MapV w2 3 sb (nm + 1) T) (hT:∀ kl,setS (rowsS P cs) (.int .i64 x) v1 kl = T kl) (hg2:wA.grownBy w2 (some sb)) :
  TBG wg gk w1 w2 tb pb ub A n c q size h sb (nm + 1) (updP P x (P x ++ [(a,b)])) (updC cs x v1) vf F:=by
 have hin:=t.gu.in_
 have hs1:=hw.size
 have hs2:=hg.size
 have hs3:=hg2.size
 have hup:=t.gu.up
 refine ⟨t.toTB.put hw hg hown hbl hmap hT hg2,t.gu.lo,t.gu.lt,by omega,t.gu.ms,t.gu.mf,fun y => ?_,?_⟩
 ·by_cases e:y = x
  ·subst e
   rw [updC_same]
   rcases hbl with e | ⟨k,hk,e⟩
   ·rw [e]; exact t.gu.mc y
   ·rw [e]; intro e2; injection e2 with e2; omega
  ·rw [updC_ne _ _ e]; exact t.gu.mc y
 ·rw [hg2.block gk (by omega) (by intro e; injection e with e; exact t.gu.ms e),hg.block gk (by omega) (fun e => t.gu.mc x e.symm),hw.block gk hin]
  exact t.gu.eq
theorem TBG.fresh {W wA:World} {x:Int} {v1:Value} (t:TBG wg gk w1 w tb pb ub A n c q size h sb nm P cs vf F) (hw:Below w.heap.size w W) (hg:W.grownBy wA vf.ownBlock)
  (hown:wA.ownsRow (tb + 1) 3 1 v1 (F.length + 1) (F.map (Value.int .i64) ++ [.int .i64 x])) (hbl:v1.ownBlock = vf.ownBlock ∨ ∃ k,w.heap.size ≤ k ∧ v1.ownBlock = some k) :
  TBG wg gk w1 (wA.setCell ⟨tb,7,none⟩ v1) tb pb ub A n c q size h sb nm P cs v1 (F ++ [x]):=by
 have hin:=t.gu.in_
 have hlo:=t.gu.lo
 have hs1:=hw.size
 have hs2:=hg.size
 have hup:=t.gu.up
 have hk:Kept (fun k => k = tb) wA (wA.setCell ⟨tb,7,none⟩ v1):=Kept.set (S:=fun k => k = tb) (Kept.refl _ _) (fun _ => rfl) 7 _
 have hs3:=hk.size
 refine ⟨t.toTB.fresh hw hg hown hbl,t.gu.lo,t.gu.lt,by omega,t.gu.ms,?_,t.gu.mc,?_⟩
 ·rcases hbl with e | ⟨k,hk,e⟩
  ·rw [e]; exact t.gu.mf
  ·rw [e]; intro e2; injection e2 with e2; omega
 ·rw [hk.block gk (by omega) (by omega),hg.block gk (by omega) (fun e => t.gu.mf e.symm),hw.block gk hin]
  exact t.gu.eq
end
def TabHG (wg:World) (gk:Nat) (w0 w:World) (tb:Nat) (A:Option Addr) (n c:Nat) (l:List Ed) (q by_ size:Int) (sh:List Int) (h:Nat):Prop:=
 ∃ (w1:World) (pb ub sb nm:Nat) (ct:List Value) (P:Int → List (Int × Int)) (cs:Int → Value) (vf:Value) (F:List Int),DC w0 w1 tb pb ub A n c l ct sh ∧ TBG wg gk w1 w tb pb ub A n c q size h sb nm P cs vf F ∧
  Steps P (lateL l size (opn sh q) q by_) h ∧ Cov l size (opn sh q) q (lateL l size (opn sh q) q by_ h) F ∧ (∀ x ∈ F,1 ≤ x ∧ x ≤ 255) ∧ (∀ x ∈ F,(lateL l size (opn sh q) q by_ h x).isSome = true) ∧ F.length ≤ 255 ∧ (∀ x,(P x).length ≤ h + 1) ∧ nm ≤ 1 + 255 * h
section
variable {wg:World} {gk:Nat} {w0 w w':World} {tb:Nat} {A:Option Addr} {n c:Nat} {l:List Ed} {q by_ size:Int} {sh:List Int} {h:Nat}
theorem TabHG.tab (t:TabHG wg gk w0 w tb A n c l q by_ size sh h):TabH w0 w tb A n c l q by_ size sh h:=by
 obtain ⟨w1,pb,ub,sb,nm,ct,P,cs,vf,F,hd,ht,rest⟩:=t
 exact ⟨w1,pb,ub,sb,nm,ct,P,cs,vf,F,hd,ht.toTB,rest⟩
theorem TabHG.below (t:TabHG wg gk w0 w tb A n c l q by_ size sh h) (hB:Below w.heap.size w w'):TabHG wg gk w0 w' tb A n c l q by_ size sh h:=by
 obtain ⟨w1,pb,ub,sb,nm,ct,P,cs,vf,F,hd,ht,rest⟩:=t
 exact ⟨w1,pb,ub,sb,nm,ct,P,cs,vf,F,hd,ht.below hB,rest⟩
theorem TabHG.up (t:TabHG wg gk w0 w tb A n c l q by_ size sh h):Below w0.heap.size w0 w:=t.tab.up
theorem TabHG.eq (t:TabHG wg gk w0 w tb A n c l q by_ size sh h):w.heap[gk]? = wg.heap[gk]? ∧ wg.heap.size ≤ w.heap.size:=by
 obtain ⟨w1,pb,ub,sb,nm,ct,P,cs,vf,F,hd,ht,rest⟩:=t
 exact ⟨ht.gu.eq,ht.gu.up⟩
theorem TabH.guest (t:TabH w0 w tb A n c l q by_ size sh h) (hB:Below w.heap.size w w') {gk:Nat} (h1:w.heap.size ≤ gk) (h2:gk < w'.heap.size):TabHG w' gk w0 w' tb A n c l q by_ size sh h:=by
 obtain ⟨w1,pb,ub,sb,nm,ct,P,cs,vf,F,hd,ht,rest⟩:=t
 have l1:=ht.box.lt
 have l2:=MapV.lt ht.sm.map
 refine ⟨w1,pb,ub,sb,nm,ct,P,cs,vf,F,hd,⟨ht.below hB,by omega,h2,Nat.le_refl _,by omega,fun e => ?_,fun x e => ?_,rfl⟩,rest⟩
 ·have:=(ht.fr.lt gk e).2; omega
 ·have:=((ht.sm.row x).lt gk e).2; omega
end
end Go.Proofs.YtodcoockhkghdaaGreat
