/- Several texts of mine in one: Contacts2, Contacts3, Contacts4, Contacts5, Contacts6, Ints, Small06, EarlyMath, EarlyRows, Ref15, Ref06. No condition. -/
import Derived.Test.YtodcoockhkghdaaGreatGQ2
import Derived.Test.YtodcoockhkghdaaGreatGQ0
import Derived.Test.YtodcoockhkghdaaGreatChecked
import Derived.Test.YtodcoockhkghdaaGreatGQ8
import Derived.Test.YtodcoockhkghdaaGreatGQ6
import Derived.Test.YtodcoockhkghdaaGreatGQ7
namespace Go.Proofs.YtodcoockhkghdaaGreat.Kc
open Go.ChangeShapes Go.WideShapes Go.ChangeAt Go.RowKit Go.Sort
set_option linter.unusedSimpArgs false
set_option linter.unusedVariables false
def okC (r:Co):Bool:=contactB r.id r.fr r.tn r.st r.en r.rt
theorem okC_call (r:Co) (w:World) (b:Bool) (h:okC r = b):Calls Tryz.prog 58 #[.agg #[.int .i64 r.id,.int .i64 r.fr,.int .i64 r.tn,.int .i64 r.st,.int .i64 r.en,.int .i64 r.rt]] w fun e w' => e = .returned (.bool b) ∧ Below w.heap.size w w':=contact_is b h w
def idIn (l:List Co) (id:Int):Bool:=l.any (fun o => o.id == id)
def stepC (d:List Co) (i:Nat):Bool:=okC (gCo d i) && !idIn (d.take i) (gCo d i).id && (i == 0 || (decide (cmpC (gCo d (i - 1)) (gCo d i) < 0) && !overC (gCo d (i - 1)) (gCo d i)))
def rightC (d:List Co):Bool:=decide (d.length ≤ 4096) && (List.range d.length).all (stepC d)
theorem rightC_true {d:List Co}:rightC d = true ↔ d.length ≤ 4096 ∧ ∀ i,i < d.length → stepC d i = true:=by
 simp [rightC,List.all_eq_true]
end Go.Proofs.YtodcoockhkghdaaGreat.Kc
namespace Go.Proofs.YtodcoockhkghdaaGreat
open Go.ChangeShapes Go.WideShapes Go.ChangeAt Go.RowKit Go.Sort
set_option linter.unusedSimpArgs false
set_option linter.unusedVariables false
theorem intAt {l:List Int} {k:Nat} (h:k < l.length):(l.map (Value.int .i64))[k]? = some (.int .i64 (l.getD k 0)):=by
 rw [List.getElem?_map,List.getElem?_eq_getElem h,List.getD_eq_getElem?_getD,List.getElem?_eq_getElem h]; rfl
theorem Lst.atI {w:World} {B:Nat} {A:Option Addr} {n:Nat} {l:List Int} (h:Lst w B 1 A n (l.map (Value.int .i64))) (hl:l.length = n) {k:Nat} (hk:k < n):∃ ad,A = some ad ∧ ad.block < B ∧ w.cell? (ad.add k) = some (.int .i64 (l.getD k 0)):=by
 obtain ⟨ad,e,hb,hc⟩:=h.at_ (by omega)
 exact ⟨ad,e,hb,hc _ _ (intAt (by omega))⟩
theorem extI {a b:List Int} (hl:a.length = b.length) (h:∀ i,i < a.length → a.getD i 0 = b.getD i 0):a = b:=by
 refine List.ext_getElem hl fun i h1 h2 => ?_
 have:=h i h1
 rw [List.getD_eq_getElem?_getD,List.getElem?_eq_getElem h1,List.getD_eq_getElem?_getD,List.getElem?_eq_getElem h2] at this
 exact this
set_option maxHeartbeats 1000000 in
set_option maxRecDepth 100000 in
theorem ints_any (A A':Option Addr) (n c n' c':Nat) (d d':List Int) (w:World) (hd:d.length = n) (hd':d'.length = n') (hn:n ≤ 1000000) (hn':n' ≤ 1000000) (h:Sl w w.heap.size 1 A n c (d.map (Value.int .i64))) (h':Sl w w.heap.size 1 A' n' c' (d'.map (Value.int .i64))) :
  Calls Tryz.prog 29 #[.slice A n c,.slice A' n' c'] w fun e w' => e = .returned (.bool (decide (d = d'))) ∧ Below w.heap.size w w':=by
 by_cases hne:n = n'
 ·subst hne
  have hz:((n:Int) != (n:Int)) = false:=by simp
  go_enter Tryz.func29,Tryz.ntmps29
  go_wp2
  go_loopw [5] (fun i wr => ∃ k:Nat,k ≤ n ∧ i = .int .i64 k ∧ Hid (∀ j,j < k → d.getD j 0 = d'.getD j 0) ∧ Below w.heap.size w wr) (fun i _ => n - (intOf i).toNat)
  case atStart => exact ⟨0,by omega,rfl,(fun j hj => by omega),Below.refl _ _⟩
  case round =>
   obtain ⟨k,hk,rfl,HQ,hB⟩:=hrel
   by_cases hkn:k < n
   ·obtain ⟨ad,rfl,hab,c0⟩:=(h.below hB).lst.atI hd hkn
    obtain ⟨ad',rfl,hab',e0⟩:=(h'.below hB).lst.atI hd' hkn
    generalize hx:d.getD k 0 = x at *
    generalize hy:d'.getD k 0 = y at *
    have HX:=Lib.hid hx
    have HY:=Lib.hid hy
    clear hx hy
    go_wp2_with fail
    have q_c0:=fun d os => cell_regrown c0 d os
    have q_e0:=fun d os => cell_regrown e0 d os
    by_cases hxy:x = y
    ·have HE:=Lib.hid hxy
     have hb:(x != y) = false:=by simp [hxy]
     clear hxy
     try simp only [List.append]
     first | refine wp_region_text_below ?_ | refine wp_region_quiet_below (by kernel_rfl) (by kernel_rfl) ?_
     repeat (go_big_quiet_step ((fail)))
     refine wpQuiet_nil ?_
     intro _ hqw
     obtain ⟨pq,hqw⟩:=hqw
     subst hqw
     clear q_c0 q_e0
     have hbel:=below_regrown wr pq.d pq.os
     have hB2:=hB.trans (hbel.mono hB.size)
     clear hbel c0 e0 hB
     generalize grow (redrawn wr pq.d) pq.os = wq at *
     go_wp2
     go_roundw
     case rel => exact ⟨k + 1,by omega,by go_num,(fun j hj => by
      by_cases e:j = k
      ·rw [e,HX.out,HY.out]; exact HE.out
      ·exact HQ.out j (by omega)),hB2⟩
     case measure => simp [intOf]; omega
    ·have hb:(x != y) = true:=by simpa using hxy
     have hfin:decide (d = d') = false:=by
      rw [decide_eq_false_iff_not]
      intro e
      have e1:=HX.out
      rw [e,HY.out] at e1
      exact hxy e1.symm
     have HF:=Lib.hid hfin
     clear hxy hfin
     try simp only [List.append]
     first | refine wp_region_text_below ?_ | refine wp_region_quiet_below (by kernel_rfl) (by kernel_rfl) ?_
     repeat (go_big_quiet_step ((fail)))
     refine wpQuiet_nil ?_
     intro _ hqw
     obtain ⟨pq,hqw⟩:=hqw
     subst hqw
     clear q_c0 q_e0
     have hbel:=below_regrown wr pq.d pq.os
     have hB2:=hB.trans (hbel.mono hB.size)
     clear hbel c0 e0 hB
     generalize grow (redrawn wr pq.d) pq.os = wq at *
     go_wp2
     go_ret
     exact ⟨by rw [HF.out]; rfl,hB2⟩
   ·obtain rfl:k = n:=by omega
    have hfin:decide (d = d') = true:=by
     rw [decide_eq_true_eq]
     exact extI (by omega) (fun j hj => HQ.out j (by omega))
    have HF:=Lib.hid hfin
    clear hfin
    go_wp2
    go_ret
    exact ⟨by rw [HF.out]; rfl,hB⟩
 ·have hz:((n:Int) != (n':Int)) = true:=by
   rw [bne_iff_ne]; omega
  have hfin:decide (d = d') = false:=by
   rw [decide_eq_false_iff_not]
   intro e
   apply hne
   rw [← hd,← hd',e]
  have HF:=Lib.hid hfin
  clear hfin
  go_enter Tryz.func29,Tryz.ntmps29
  go_wp2
  go_ret
  exact ⟨by rw [HF.out]; rfl,Below.refl _ _⟩
end Go.Proofs.YtodcoockhkghdaaGreat
namespace Go.Proofs.YtodcoockhkghdaaGreat.Kc
open Go.ChangeShapes Go.WideShapes Go.ChangeAt Go.RowKit Go.Sort
set_option linter.unusedSimpArgs false
set_option linter.unusedVariables false
theorem own_below {w w':World} {base:Nat} {e:TypeId} {size n:Nat} {v:Value} {xs:List Value} (h:w.ownsRow base e size v n xs) (hb:Below w.heap.size w w'):w'.ownsRow base e size v n xs:=
 h.kept (grown_of_below (row:=some w.heap.size) hb) (.inr (fun e => by have:=(h.lt _ e).2; omega))
end Go.Proofs.YtodcoockhkghdaaGreat.Kc
namespace Go.Proofs.YtodcoockhkghdaaGreat
open Go.ChangeShapes Go.WideShapes Go.ChangeAt Go.RowKit Go.Sort
set_option linter.unusedSimpArgs false
set_option linter.unusedVariables false
def runE (size:Int) (no:Int → Bool):Int → Int → List Ed → Option (Int × Int)
 | n,t,[] => some (n,t)
 | n,t,e :: r => if e.fr = n ∧ no e.tn = false then (e.pass t size).bind fun p => runE size no e.tn p.2 r else none
theorem runE_cons {size:Int} {no:Int → Bool} {n t:Int} {e:Ed} {r:List Ed} {x:Int × Int} (h:runE size no n t (e :: r) = some x) :
  ∃ s a,e.fr = n ∧ no e.tn = false ∧ e.pass t size = some (s,a) ∧ runE size no e.tn a r = some x:=by
 unfold runE at h
 by_cases hc:e.fr = n ∧ no e.tn = false
 ·rw [if_pos hc] at h
  cases hp:e.pass t size with
  | none => rw [hp] at h; cases h
  | some p => rw [hp] at h; exact ⟨p.1,p.2,hc.1,hc.2,rfl,h⟩
 ·rw [if_neg hc] at h; cases h
theorem runE_step {size:Int} {no:Int → Bool} {n t s a:Int} {e:Ed} {r:List Ed} (hf:e.fr = n) (hn:no e.tn = false) (hp:e.pass t size = some (s,a)) :
  runE size no n t (e :: r) = runE size no e.tn a r:=by
 rw [runE,if_pos ⟨hf,hn⟩,hp]; rfl
theorem runE_ge {size:Int} {no:Int → Bool}:∀ {es:List Ed} {n t m u:Int},runE size no n t es = some (m,u) → t ≤ u
 | [],n,t,m,u,h => by
  injection h with h; injection h with _ h; omega
 | e :: r,n,t,m,u,h => by
  obtain ⟨s,a,_,_,hp,hr⟩:=runE_cons h
  have h1:=runE_ge hr
  have h2:=pass_facts hp
  omega
theorem runE_mono {size:Int} {no:Int → Bool}:∀ {es:List Ed} {n t t' m u:Int},0 ≤ t' → t' ≤ t → runE size no n t es = some (m,u) → ∃ u',runE size no n t' es = some (m,u') ∧ u' ≤ u
 | [],n,t,t',m,u,h0,h1,h => by
  injection h with h; injection h with e1 e2
  subst e1 e2
  exact ⟨t',rfl,h1⟩
 | e :: r,n,t,t',m,u,h0,h1,h => by
  obtain ⟨s,a,hf,hn,hp,hr⟩:=runE_cons h
  obtain ⟨s',a',hp',_,hle,h2,h3,_⟩:=pass_earlier h0 h1 hp
  obtain ⟨u',hr',hu⟩:=runE_mono (t':=a') (by omega) hle hr
  exact ⟨u',by rw [runE_step hf hn hp']; exact hr',hu⟩
theorem runE_app {size:Int} {no:Int → Bool}:∀ {pa bs:List Ed} {n t:Int} {x:Int × Int},runE size no n t (pa ++ bs) = some x → ∃ m u,runE size no n t pa = some (m,u) ∧ runE size no m u bs = some x
 | [],bs,n,t,x,h => ⟨n,t,rfl,h⟩
 | e :: r,bs,n,t,x,h => by
  obtain ⟨s,a,hf,hn,hp,hr⟩:=runE_cons h
  obtain ⟨m,u,h1,h2⟩:=runE_app hr
  exact ⟨m,u,by rw [runE_step hf hn hp]; exact h1,h2⟩
theorem runE_join {size:Int} {no:Int → Bool}:∀ {pa bs:List Ed} {n t m u:Int},runE size no n t pa = some (m,u) → runE size no n t (pa ++ bs) = runE size no m u bs
 | [],bs,n,t,m,u,h => by
  injection h with h; injection h with e1 e2
  subst e1 e2; rfl
 | e :: r,bs,n,t,m,u,h => by
  obtain ⟨s,a,hf,hn,hp,hr⟩:=runE_cons h
  rw [List.cons_append,runE_step hf hn hp]
  exact runE_join hr
theorem runE_cut {size:Int} {no:Int → Bool} {pa bs cs:List Ed} {e:Ed} {n t m u:Int} (h0:0 ≤ t) (h:runE size no n t (pa ++ e :: (bs ++ e :: cs)) = some (m,u)) :
  ∃ u',runE size no n t (pa ++ e :: cs) = some (m,u') ∧ u' ≤ u:=by
 obtain ⟨m1,u1,ha,h1⟩:=runE_app h
 obtain ⟨s,a,hf,hn,hp,h2⟩:=runE_cons h1
 obtain ⟨m2,u2,hb,h3⟩:=runE_app h2
 obtain ⟨s',a',hf',_,hp',h4⟩:=runE_cons h3
 have g1:=runE_ge ha
 have g2:=pass_facts hp
 have g3:=runE_ge hb
 obtain ⟨s2,a2,hp2,_,hle,_,_,_⟩:=pass_earlier (t:=u1) (l:=u2) (by omega) (by omega) hp'
 rw [hp] at hp2
 injection hp2 with hp2
 injection hp2 with _ e2
 subst e2
 obtain ⟨u',h5,h6⟩:=runE_mono (t':=a) (by omega) hle h4
 exact ⟨u',by rw [runE_join ha,runE_step hf hn hp]; exact h5,h6⟩
theorem two_of {l:List Ed}:∀ {es:List Ed},¬ es.Nodup → ∃ pa bs cs e,es = pa ++ e :: (bs ++ e :: cs)
 | [],h => absurd List.nodup_nil h
 | e :: r,h => by
  by_cases hm:e ∈ r
  ·obtain ⟨bs,cs,hr⟩:=List.append_of_mem hm
   exact ⟨[],bs,cs,e,by rw [hr]; rfl⟩
  ·have hr:¬ r.Nodup:=fun hn => h (List.nodup_cons.2 ⟨hm,hn⟩)
   obtain ⟨pa,bs,cs,x,hx⟩:=two_of (l:=l) hr
   exact ⟨e :: pa,bs,cs,x,by rw [hx]; rfl⟩
theorem nodup_len:∀ {es l:List Ed},es.Nodup → (∀ e ∈ es,e ∈ l) → es.length ≤ l.length
 | [],l,_,_ => Nat.zero_le _
 | e :: r,l,hn,hl => by
  obtain ⟨hm,hr⟩:=List.nodup_cons.1 hn
  obtain ⟨pa,bs,hl2⟩:=List.append_of_mem (hl e (List.mem_cons_self ..))
  have h1:=nodup_len (l:=pa ++ bs) hr (fun x hx => by
   have h2:=hl x (List.mem_cons_of_mem _ hx)
   rw [hl2] at h2
   rcases List.mem_append.1 h2 with h3 | h3
   ·exact List.mem_append.2 (.inl h3)
   ·rcases List.mem_cons.1 h3 with h4 | h4
    ·exact absurd (h4 ▸ hx) hm
    ·exact List.mem_append.2 (.inr h4))
  rw [hl2]
  simp only [List.length_append,List.length_cons] at h1 ⊢
  omega
theorem runE_few {size:Int} {no:Int → Bool} {l:List Ed} {n t:Int} (h0:0 ≤ t):∀ (k:Nat) {es:List Ed} {m u:Int},es.length ≤ k → (∀ e ∈ es,e ∈ l) → runE size no n t es = some (m,u) →
  ∃ es' u',(∀ e ∈ es',e ∈ l) ∧ es'.length ≤ l.length ∧ runE size no n t es' = some (m,u') ∧ u' ≤ u
 | 0,es,m,u,hk,hl,h => ⟨es,u,hl,by omega,h,Int.le_refl _⟩
 | k + 1,es,m,u,hk,hl,h => by
  by_cases hn:es.Nodup
  ·exact ⟨es,u,hl,nodup_len hn hl,h,Int.le_refl _⟩
  ·obtain ⟨pa,bs,cs,e,hes⟩:=two_of (l:=l) hn
   subst hes
   obtain ⟨u1,h1,h2⟩:=runE_cut h0 h
   obtain ⟨es',u',h3,h4,h5,h6⟩:=runE_few h0 k (es:=pa ++ e :: cs) (by simp only [List.length_append,List.length_cons] at hk ⊢; omega) (fun x hx => hl x (by
    rcases List.mem_append.1 hx with h3 | h3
    ·exact List.mem_append.2 (.inl h3)
    ·rcases List.mem_cons.1 h3 with h4 | h4
     ·subst h4; simp
     ·simp [h4])) h1
   exact ⟨es',u',h3,h4,h5,by omega⟩
def Rch (l:List Ed) (size:Int) (no:Int → Bool) (q now n t:Int):Prop:=∃ es,(∀ e ∈ es,e ∈ l) ∧ runE size no q now es = some (n,t)
theorem Rch.start {l:List Ed} {size:Int} {no:Int → Bool} {q now:Int}:Rch l size no q now q now:=⟨[],by simp,rfl⟩
theorem Rch.step {l:List Ed} {size:Int} {no:Int → Bool} {q now n t s a:Int} {e:Ed} (h:Rch l size no q now n t) (he:e ∈ l) (hf:e.fr = n) (hn:no e.tn = false) (hp:e.pass t size = some (s,a)):Rch l size no q now e.tn a:=by
 obtain ⟨es,hl,hr⟩:=h
 refine ⟨es ++ [e],fun x hx => ?_,?_⟩
 ·rcases List.mem_append.1 hx with h | h
  ·exact hl x h
  ·rw [List.mem_singleton.1 h]; exact he
 ·rw [runE_join hr,runE_step hf hn hp]; rfl
theorem Rch.ge {l:List Ed} {size:Int} {no:Int → Bool} {q now n t:Int} (h:Rch l size no q now n t):now ≤ t:=by
 obtain ⟨es,_,hr⟩:=h
 exact runE_ge hr
structure Early (l:List Ed) (size:Int) (no:Int → Bool) (q now:Int) (T:Int → Option Int):Prop where
 rch:∀ n t,T n = some t → Rch l size no q now n t
 least:∀ n t,Rch l size no q now n t → ∃ u,T n = some u ∧ u ≤ t
theorem Early.one {l:List Ed} {size:Int} {no:Int → Bool} {q now:Int} {T T':Int → Option Int} (h:Early l size no q now T) (h':Early l size no q now T'):T = T':=by
 funext n
 cases hT:T n with
 | none =>
  cases hT':T' n with
  | none => rfl
  | some t => obtain ⟨u,hu,_⟩:=h.least n t (h'.rch n t hT'); rw [hT] at hu; cases hu
 | some t =>
  obtain ⟨u,hu,h1⟩:=h'.least n t (h.rch n t hT)
  obtain ⟨v,hv,h2⟩:=h.least n u (h'.rch n u hu)
  rw [hT] at hv
  injection hv with hv
  rw [hu]
  congr 1
  omega
def NoEdge (l:List Ed) (size:Int) (no:Int → Bool) (T:Int → Option Int):Prop:=
 ∀ e ∈ l,∀ t s a,T e.fr = some t → no e.tn = false → e.pass t size = some (s,a) → ∃ u,T e.tn = some u ∧ u ≤ a
theorem noEdge_run {l:List Ed} {size:Int} {no:Int → Bool} {T:Int → Option Int} (hT:NoEdge l size no T) (h0:∀ n t,T n = some t → 0 ≤ t) :
  ∀ {es:List Ed} {n t v m u:Int},(∀ e ∈ es,e ∈ l) → T n = some v → v ≤ t → runE size no n t es = some (m,u) → ∃ u',T m = some u' ∧ u' ≤ u
 | [],n,t,v,m,u,_,hv,hle,h => by
  injection h with h; injection h with e1 e2
  subst e1 e2
  exact ⟨v,hv,hle⟩
 | e :: r,n,t,v,m,u,hl,hv,hle,h => by
  obtain ⟨s,a,hf,hn,hp,hr⟩:=runE_cons h
  obtain ⟨s',a',hp',_,hle',_,_,_⟩:=pass_earlier (h0 n v hv) hle hp
  obtain ⟨w,hw,hwa⟩:=hT e (hl e (List.mem_cons_self ..)) v s' a' (by rw [hf]; exact hv) hn hp'
  exact noEdge_run hT h0 (fun x hx => hl x (List.mem_cons_of_mem _ hx)) hw (by omega) hr
theorem early_of {l:List Ed} {size:Int} {no:Int → Bool} {q now:Int} {T:Int → Option Int} (h0:0 ≤ now) (hq:T q = some now) (hr:∀ n t,T n = some t → Rch l size no q now n t) (hT:NoEdge l size no T):Early l size no q now T:=by
 refine ⟨hr,fun n t h => ?_⟩
 obtain ⟨es,hl,hrun⟩:=h
 exact noEdge_run hT (fun n t h => by have:=(hr n t h).ge; omega) hl hq (Int.le_refl _) hrun
theorem Early.noEdge {l:List Ed} {size:Int} {no:Int → Bool} {q now:Int} {T:Int → Option Int} (h:Early l size no q now T):NoEdge l size no T:=fun e he t s a hT hn hp => h.least _ _ ((h.rch _ _ hT).step he rfl hn hp)
theorem Early.start {l:List Ed} {size:Int} {no:Int → Bool} {q now:Int} {T:Int → Option Int} (h:Early l size no q now T):T q = some now:=by
 obtain ⟨u,hu,hle⟩:=h.least q now Rch.start
 have:=(h.rch q u hu).ge
 rw [hu]; congr 1; omega
def setT (T:Int → Option Int) (n a:Int):Int → Option Int:=fun m => if m = n then some a else T m
theorem setT_same (T:Int → Option Int) (n a:Int):setT T n a n = some a:=by simp [setT]
theorem setT_ne (T:Int → Option Int) {n m:Int} (a:Int) (h:m ≠ n):setT T n a m = T m:=by simp [setT,h]
def lessT (T:Int → Option Int) (n a:Int):Bool:=match T n with | none => true | some u => decide (a < u)
theorem setT_le {T:Int → Option Int} {m a n u:Int} (hl:lessT T m a = true) (h:T n = some u):∃ u',setT T m a n = some u' ∧ u' ≤ u:=by
 by_cases e:n = m
 ·subst e
  unfold lessT at hl
  rw [h] at hl
  have:=of_decide_eq_true hl
  exact ⟨a,setT_same _ _ _,by omega⟩
 ·exact ⟨u,by rw [setT_ne _ _ e]; exact h,Int.le_refl _⟩
def oneT (q now:Int):Int → Option Int:=fun n => if n = q then some now else none
structure Spread (l:List Ed) (size:Int) (no:Int → Bool) (q now:Int) (T:Int → Option Int) (H:List (Int × Int)):Prop where
 start:T q = some now
 rch:∀ n t,T n = some t → Rch l size no q now n t
 wait:∀ n t,(n,t) ∈ H → ∃ u,T n = some u ∧ u ≤ t
 pend:∀ n t,T n = some t → (n,t) ∈ H ∨ ∀ e ∈ l,e.fr = n → ∀ s a,no e.tn = false → e.pass t size = some (s,a) → ∃ u,T e.tn = some u ∧ u ≤ a
theorem Spread.done {l:List Ed} {size:Int} {no:Int → Bool} {q now:Int} {T:Int → Option Int} (h0:0 ≤ now) (h:Spread l size no q now T []):Early l size no q now T:=
 early_of h0 h.start h.rch fun e he t s a hT hn hp => by
  rcases h.pend e.fr t hT with h1 | h1
  ·simp at h1
  ·exact h1 e he rfl s a hn hp
theorem Spread.first {l:List Ed} {size:Int} {no:Int → Bool} {q now:Int}:Spread l size no q now (oneT q now) [(q,now)]:=by
 refine ⟨by simp [oneT],fun n t h => ?_,fun n t h => ?_,fun n t h => ?_⟩
 ·unfold oneT at h
  by_cases e:n = q
  ·rw [if_pos e] at h; injection h with h; subst e h; exact Rch.start
  ·rw [if_neg e] at h; cases h
 ·simp at h; obtain ⟨rfl,rfl⟩:=h; exact ⟨_,by simp [oneT],Int.le_refl _⟩
 ·unfold oneT at h
  by_cases e:n = q
  ·rw [if_pos e] at h; injection h with h; subst e h; exact .inl (by simp)
  ·rw [if_neg e] at h; cases h
theorem Spread.stale {l:List Ed} {size:Int} {no:Int → Bool} {q now n t u:Int} {T:Int → Option Int} {H H':List (Int × Int)} (h:Spread l size no q now T H) (hH:H.Perm ((n,t) :: H')) (hu:T n = some u) (hlt:u < t):Spread l size no q now T H':=by
 refine ⟨h.start,h.rch,fun m v hm => h.wait m v (hH.mem_iff.2 (List.mem_cons_of_mem _ hm)),fun m v hm => ?_⟩
 rcases h.pend m v hm with h1 | h1
 ·rcases List.mem_cons.1 (hH.mem_iff.1 h1) with h2 | h2
  ·injection h2 with e1 e2
   subst e1 e2
   rw [hu] at hm
   injection hm with hm
   omega
  ·exact .inl h2
 ·exact .inr h1
structure SpreadAt (l:List Ed) (size:Int) (no:Int → Bool) (q now n t:Int) (ps:List Ed) (T:Int → Option Int) (H:List (Int × Int)):Prop where
 start:T q = some now
 rch:∀ n t,T n = some t → Rch l size no q now n t
 wait:∀ n t,(n,t) ∈ H → ∃ u,T n = some u ∧ u ≤ t
 here:T n = some t
 pend:∀ m v,T m = some v → m ≠ n → (m,v) ∈ H ∨ ∀ e ∈ l,e.fr = m → ∀ s a,no e.tn = false → e.pass v size = some (s,a) → ∃ u,T e.tn = some u ∧ u ≤ a
 past:∀ e ∈ ps,∀ s a,no e.tn = false → e.pass t size = some (s,a) → ∃ u,T e.tn = some u ∧ u ≤ a
theorem Spread.pop {l:List Ed} {size:Int} {no:Int → Bool} {q now n t:Int} {T:Int → Option Int} {H H':List (Int × Int)} (h:Spread l size no q now T H) (hH:H.Perm ((n,t) :: H')) (hu:T n = some t):SpreadAt l size no q now n t [] T H':=by
 refine ⟨h.start,h.rch,fun m v hm => h.wait m v (hH.mem_iff.2 (List.mem_cons_of_mem _ hm)),hu,fun m v hm hne => ?_,fun e he => by simp at he⟩
 rcases h.pend m v hm with h1 | h1
 ·rcases List.mem_cons.1 (hH.mem_iff.1 h1) with h2 | h2
  ·injection h2 with e1 _
   exact absurd e1 hne
  ·exact .inl h2
 ·exact .inr h1
theorem SpreadAt.end_ {l:List Ed} {size:Int} {no:Int → Bool} {q now n t:Int} {ps:List Ed} {T:Int → Option Int} {H:List (Int × Int)} (h:SpreadAt l size no q now n t ps T H) (hp:∀ e ∈ l,e.fr = n → e ∈ ps):Spread l size no q now T H:=by
 refine ⟨h.start,h.rch,h.wait,fun m v hm => ?_⟩
 by_cases e:m = n
 ·subst e
  have:=h.here
  rw [hm] at this
  injection this with this
  subst this
  exact .inr fun e he hf s a hn hpp => h.past e (hp e he hf) s a hn hpp
 ·exact h.pend m v hm e
theorem SpreadAt.skip {l:List Ed} {size:Int} {no:Int → Bool} {q now n t:Int} {ps:List Ed} {T:Int → Option Int} {H:List (Int × Int)} {e:Ed} (h:SpreadAt l size no q now n t ps T H) (hs:∀ s a,no e.tn = false → e.pass t size = some (s,a) → lessT T e.tn a = false):SpreadAt l size no q now n t (ps ++ [e]) T H:=by
 refine ⟨h.start,h.rch,h.wait,h.here,h.pend,fun x hx s a hn hp => ?_⟩
 rcases List.mem_append.1 hx with h1 | h1
 ·exact h.past x h1 s a hn hp
 ·rw [List.mem_singleton.1 h1] at hn hp ⊢
  have hl:=hs s a hn hp
  unfold lessT at hl
  cases hu:T e.tn with
  | none => rw [hu] at hl; simp at hl
  | some u => rw [hu] at hl; exact ⟨u,rfl,by simpa using hl⟩
theorem SpreadAt.push {l:List Ed} {size:Int} {no:Int → Bool} {q now n t s a:Int} {ps:List Ed} {T:Int → Option Int} {H H':List (Int × Int)} {e:Ed} (h:SpreadAt l size no q now n t ps T H) (he:e ∈ l) (hf:e.fr = n) (hne:e.tn ≠ n) (hn:no e.tn = false) (hq:no q = true) (hp:e.pass t size = some (s,a)) (hl:lessT T e.tn a = true) (hH:H'.Perm ((e.tn,a) :: H)) :
  SpreadAt l size no q now n t (ps ++ [e]) (setT T e.tn a) H':=by
 have hq2:q ≠ e.tn:=fun e2 => by rw [e2,hn] at hq; cases hq
 refine ⟨by rw [setT_ne _ _ hq2]; exact h.start,fun m v hm => ?_,fun m v hm => ?_,by rw [setT_ne _ _ (fun e2 => hne e2.symm)]; exact h.here,fun m v hm hmn => ?_,fun x hx s' a' hn' hp' => ?_⟩
 ·by_cases e2:m = e.tn
  ·subst e2
   rw [setT_same] at hm
   injection hm with hm
   subst hm
   exact (h.rch n t h.here).step he hf hn hp
  ·rw [setT_ne _ _ e2] at hm; exact h.rch m v hm
 ·rcases List.mem_cons.1 (hH.mem_iff.1 hm) with h1 | h1
  ·injection h1 with e1 e2
   subst e1 e2
   exact ⟨_,setT_same _ _ _,Int.le_refl _⟩
  ·obtain ⟨u,hu,hle⟩:=h.wait m v h1
   obtain ⟨u',h2,h3⟩:=setT_le hl hu
   exact ⟨u',h2,by omega⟩
 ·by_cases e2:m = e.tn
  ·subst e2
   rw [setT_same] at hm
   injection hm with hm
   subst hm
   exact .inl (hH.mem_iff.2 (List.mem_cons_self ..))
  ·rw [setT_ne _ _ e2] at hm
   rcases h.pend m v hm hmn with h1 | h1
   ·exact .inl (hH.mem_iff.2 (List.mem_cons_of_mem _ h1))
   ·exact .inr fun x hx hxf s' a' hn' hp' => by
     obtain ⟨u,hu,hle⟩:=h1 x hx hxf s' a' hn' hp'
     obtain ⟨u',h2,h3⟩:=setT_le hl hu
     exact ⟨u',h2,by omega⟩
 ·rcases List.mem_append.1 hx with h1 | h1
  ·obtain ⟨u,hu,hle⟩:=h.past x h1 s' a' hn' hp'
   obtain ⟨u',h2,h3⟩:=setT_le hl hu
   exact ⟨u',h2,by omega⟩
  ·rw [List.mem_singleton.1 h1] at hp' ⊢
   rw [hp] at hp'
   injection hp' with hp'
   injection hp' with _ e2
   subst e2
   exact ⟨_,setT_same _ _ _,Int.le_refl _⟩
def atR (r:List (Int × Int)) (n:Int):Option Int:=(r.find? (fun x => x.1 == n)).map (·.2)
def Srt (r:List (Int × Int)):Prop:=r.Pairwise (fun a b => a.1 < b.1)
theorem atR_nil (n:Int):atR [] n = none:=rfl
theorem atR_cons (x:Int × Int) (r:List (Int × Int)) (n:Int):atR (x :: r) n = if x.1 = n then some x.2 else atR r n:=by
 unfold atR
 by_cases h:x.1 = n
 ·simp [h]
 ·rw [if_neg h,List.find?_cons_of_neg (by simpa using h)]
theorem atR_mem {r:List (Int × Int)} {n u:Int} (h:atR r n = some u):(n,u) ∈ r:=by
 unfold atR at h
 cases hf:r.find? (fun x => x.1 == n) with
 | none => rw [hf] at h; cases h
 | some x =>
  rw [hf] at h
  have h1:=List.mem_of_find?_eq_some hf
  have h2:=List.find?_some hf
  simp at h h2
  rw [← h2,← h]; exact h1
theorem atR_none {r:List (Int × Int)} {n:Int}:atR r n = none ↔ ∀ u,(n,u) ∉ r:=by
 constructor
 ·intro h u hm
  unfold atR at h
  rw [Option.map_eq_none_iff,List.find?_eq_none] at h
  have:=h _ hm
  simp at this
 ·intro h
  cases hu:atR r n with
  | none => rfl
  | some u => exact absurd (atR_mem hu) (h u)
theorem Srt.at_:∀ {r:List (Int × Int)} {n u:Int},Srt r → (n,u) ∈ r → atR r n = some u
 | x :: r,n,u,h,hm => by
  have h1:=List.pairwise_cons.1 h
  rw [atR_cons]
  rcases List.mem_cons.1 hm with h2 | h2
  ·subst h2; simp
  ·have:=h1.1 _ h2
   simp only at this
   rw [if_neg (by omega)]
   exact Srt.at_ h1.2 h2
theorem Srt.iff {r:List (Int × Int)} (h:Srt r) {n u:Int}:atR r n = some u ↔ (n,u) ∈ r:=⟨atR_mem,h.at_⟩
theorem Srt.ext:∀ {r r':List (Int × Int)},Srt r → Srt r' → (∀ n,atR r n = atR r' n) → r = r'
 | [],[],_,_,_ => rfl
 | [],y :: s,_,_,he => by have:=he y.1; rw [atR_nil,atR_cons,if_pos rfl] at this; cases this
 | x :: r,[],_,_,he => by have:=he x.1; rw [atR_nil,atR_cons,if_pos rfl] at this; cases this
 | x :: r,y :: s,h,h',he => by
  have h1:=List.pairwise_cons.1 h
  have h2:=List.pairwise_cons.1 h'
  have hxy:x = y:=by
   have hx:(x.1,x.2) ∈ y :: s:=(Srt.iff h').1 (by rw [← he x.1,atR_cons,if_pos rfl])
   have hy:(y.1,y.2) ∈ x :: r:=(Srt.iff h).1 (by rw [he y.1,atR_cons,if_pos rfl])
   rcases List.mem_cons.1 hx with h3 | h3
   ·exact h3
   ·rcases List.mem_cons.1 hy with h4 | h4
    ·exact h4.symm
    ·have h5:=h2.1 _ h3
     have h6:=h1.1 _ h4
     simp only at h5 h6
     omega
  subst hxy
  have hr:r = s:=Srt.ext h1.2 h2.2 fun n => by
   have h3:=he n
   rw [atR_cons,atR_cons] at h3
   by_cases e:x.1 = n
   ·subst e
    have a1:atR r x.1 = none:=atR_none.2 fun u hu => by have:=h1.1 _ hu; simp only at this; omega
    have a2:atR s x.1 = none:=atR_none.2 fun u hu => by have:=h2.1 _ hu; simp only at this; omega
    rw [a1,a2]
   ·rw [if_neg e,if_neg e] at h3; exact h3
  rw [hr]
end Go.Proofs.YtodcoockhkghdaaGreat
namespace Go.Proofs.YtodcoockhkghdaaGreat
open Go.ChangeShapes Go.WideShapes Go.ChangeAt Go.RowKit Go.Sort Hp
set_option linter.unusedSimpArgs false
set_option linter.unusedVariables false
theorem atR_at:∀ {d:List (Int × Int)} {i:Nat} {n:Int},i < d.length → (gt d i).1 = n → (∀ j,j < i → (gt d j).1 ≠ n) → atR d n = some (gt d i).2
 | x :: r,0,n,_,h,_ => by
  have h':x.1 = n:=h
  rw [atR_cons,if_pos h']; rfl
 | x :: r,i + 1,n,hi,h,hn => by
  have h0:x.1 ≠ n:=hn 0 (by omega)
  rw [atR_cons,if_neg h0]
  exact atR_at (d:=r) (i:=i) (by simpa using hi) h (fun j hj => hn (j + 1) (by omega))
theorem atR_off:∀ {d:List (Int × Int)} {n:Int},(∀ j,j < d.length → (gt d j).1 ≠ n) → atR d n = none
 | [],n,_ => rfl
 | x :: r,n,h => by
  have h0:x.1 ≠ n:=h 0 (by simp)
  rw [atR_cons,if_neg h0]
  exact atR_off (d:=r) fun j hj => h (j + 1) (by simpa using hj)
end Go.Proofs.YtodcoockhkghdaaGreat
namespace Go.Proofs.YtodcoockhkghdaaGreat.Kc
open Go.ChangeShapes Go.WideShapes Go.ChangeAt Go.RowKit Go.Sort
set_option linter.unusedSimpArgs false
set_option linter.unusedVariables false
end Go.Proofs.YtodcoockhkghdaaGreat.Kc
