/- The document's own contacts: Expire. -/
import Derived.Test.YtolaabllhibkdaaGreatGS
namespace Go.Proofs.YtolaabllhibkdaaGreat.Kc
open Go.ChangeShapes Go.WideShapes Go.ChangeAt Go.RowKit Go.Sort
set_option linter.unusedSimpArgs false
set_option linter.unusedVariables false
def insI (s:List Int) (k:Nat) (x:Int):List Int:=s.take k ++ [x] ++ s.drop k
theorem insI_length {s:List Int} {k:Nat} (x:Int) (h:k ≤ s.length):(insI s k x).length = s.length + 1:=by
 unfold insI
 simp only [List.length_append,List.length_take,List.length_drop,List.length_cons,List.length_nil]
 omega
theorem insI_all (s:List Int) (x:Int):insI s s.length x = s ++ [x]:=by unfold insI; simp
theorem getD_at {s:List Int} {p:Nat} (h:p < s.length):s.getD p 0 = s[p]:=by
 rw [List.getD_eq_getElem?_getD,List.getElem?_eq_getElem h]; rfl
theorem insI_parts {s:List Int} {p:Nat} (x:Int) (h:p < s.length):insI s (p + 1) x = s.take p ++ s.getD p 0 :: x :: s.drop (p + 1) ∧ insI s p x = s.take p ++ x :: s.getD p 0 :: s.drop (p + 1):=by
 unfold insI
 constructor
 ·rw [List.take_succ_eq_append_getElem h,getD_at h,List.append_assoc,List.append_assoc]; rfl
 ·rw [List.drop_eq_getElem_cons h,getD_at h]; simp
theorem insI_get {s:List Int} {p:Nat} (x:Int) (h:p < s.length):(insI s (p + 1) x).getD p 0 = s.getD p 0 ∧ (insI s (p + 1) x).getD (p + 1) 0 = x:=by
 rw [(insI_parts x h).1]
 have hl:(s.take p).length = p:=by rw [List.length_take]; omega
 constructor
 ·rw [List.getD_eq_getElem?_getD,List.getElem?_append_right (by omega),hl,Nat.sub_self]; rfl
 ·rw [List.getD_eq_getElem?_getD,List.getElem?_append_right (by omega),hl,show p + 1 - p = 1 by omega]; rfl
theorem insI_swap {s:List Int} {p:Nat} (x:Int) (h:p < s.length):((insI s (p + 1) x).set p x).set (p + 1) (s.getD p 0) = insI s p x:=by
 obtain ⟨e1,e2⟩:=insI_parts x h
 have hl:(s.take p).length = p:=by rw [List.length_take]; omega
 rw [e1,e2,List.set_append,if_neg (by omega),hl,Nat.sub_self,List.set_cons_zero,List.set_append,if_neg (by omega),hl,show p + 1 - p = 1 by omega]
 rfl
theorem swap_rows {s:List Int} {p:Nat} {x:Int} (h:p < s.length):(((insI s (p + 1) x).map (Value.int .i64)).set p (.int .i64 x)).set (p + 1) (.int .i64 (s.getD p 0)) = (insI s p x).map (Value.int .i64):=by
 rw [← insI_swap x h]; simp
theorem swap_rows' {s:List Int} {p:Nat} {x:Int} (h:p < s.length):(((insI s (p + 1) x).map (Value.int .i64)).set p (.int .i64 x)) = ((insI s (p + 1) x).set p x).map (Value.int .i64):=by simp
theorem sortI_sorted (l:List Int):(sortI l).Pairwise (· ≤ ·):=by
 have:=List.pairwise_mergeSort (le:=fun (x y:Int) => decide (x ≤ y)) (fun a b c h1 h2 => by simp at *; omega) (fun a b => by simp; omega) l
 exact this.imp (fun h => by simpa using h)
theorem sort_unique {a b:List Int} (ha:a.Pairwise (· ≤ ·)) (hb:b.Pairwise (· ≤ ·)) (h:a.Perm b):a = b:=
 List.Perm.eq_of_pairwise (le:=fun (x y:Int) => x ≤ y) (fun _ _ _ _ h1 h2 => by omega) ha hb h
theorem insI_sorted {s:List Int} {k:Nat} {x:Int} (hs:s.Pairwise (· ≤ ·)) (hk:k ≤ s.length) (hhi:∀ j,k ≤ j → j < s.length → x < s.getD j 0) (hlo:k = 0 ∨ s.getD (k - 1) 0 ≤ x):(insI s k x).Pairwise (· ≤ ·):=by
 have hp:=List.pairwise_iff_getElem.1 hs
 unfold insI
 have hcut:=hs
 rw [← List.take_append_drop k s,List.pairwise_append] at hcut
 have hA:∀ a ∈ s.take k,a ≤ x:=fun a ha => by
  obtain ⟨j,hj,rfl⟩:=List.mem_take_iff_getElem.1 ha
  rcases hlo with h0 | h0
  ·omega
  ·rw [getD_at (by omega:k - 1 < s.length)] at h0
   by_cases e:j = k - 1
   ·subst e; exact h0
   ·have:=hp j (k - 1) (by omega) (by omega) (by omega)
    omega
 have hBb:∀ b ∈ s.drop k,x ≤ b:=fun b hb => by
  obtain ⟨j,hj,rfl⟩:=List.mem_drop_iff_getElem.1 hb
  have:=hhi (k + j) (by omega) (by omega)
  rw [getD_at (by omega:k + j < s.length)] at this
  omega
 rw [List.append_assoc,List.pairwise_append]
 refine ⟨hcut.1,?_,fun a ha b hb => ?_⟩
 ·rw [List.singleton_append,List.pairwise_cons]
  exact ⟨hBb,hcut.2.1⟩
 ·rw [List.singleton_append,List.mem_cons] at hb
  rcases hb with rfl | hb
  ·exact hA a ha
  ·exact hcut.2.2 a ha b hb
theorem insI_perm (s:List Int) (k:Nat) (x:Int):(insI s k x).Perm (s ++ [x]):=by
 unfold insI
 rw [List.append_assoc]
 refine (List.Perm.append_left _ List.perm_append_comm).trans ?_
 rw [← List.append_assoc,List.take_append_drop]
theorem sortI_snoc {l s:List Int} {k:Nat} {x:Int} (hs:sortI l = s) (hk:k ≤ s.length) (hhi:∀ j,k ≤ j → j < s.length → x < s.getD j 0) (hlo:k = 0 ∨ s.getD (k - 1) 0 ≤ x):sortI (l ++ [x]) = insI s k x:=by
 subst hs
 refine sort_unique (sortI_sorted _) (insI_sorted (sortI_sorted l) hk hhi hlo) ?_
 exact (List.mergeSort_perm _ _).trans ((List.Perm.append_right [x] (List.mergeSort_perm l _).symm).trans (insI_perm _ k x).symm)
theorem leftC_next {d:List Co} {i:Nat} (now:Int) (h:i < d.length):leftC (d.take (i + 1)) now = leftC (d.take i) now ++ (if now < (gCo d i).en then [gCo d i] else []):=by
 unfold leftC
 rw [take_nextCo h,List.filter_append]
 congr 1
 by_cases e:now < (gCo d i).en
 ·have:overE now (gCo d i) = false:=by unfold overE; simp; omega
  simp [List.filter_cons,e,this]
 ·have:overE now (gCo d i) = true:=by unfold overE; simp; omega
  simp [List.filter_cons,e,this]
theorem ownI_at {w:World} {base:Nat} {t:TypeId} {g n c:Nat} {l:List Int} {k:Nat} {v:Int} (h:w.ownsRow base t 1 (.slice (some ⟨g,0,none⟩) n c) n (l.map (Value.int .i64))) (hk:k < l.length) (hv:l.getD k 0 = v):w.cell? ⟨g,k,none⟩ = some (.int .i64 v):=by
 have:=h.cells rfl k (.int .i64 v) (by rw [intAt hk,hv])
 rwa [show (⟨g,0,none⟩:Addr).add k = ⟨g,k,none⟩ by unfold Addr.add; split <;> simp_all] at this
set_option maxHeartbeats 8000000 in
set_option maxRecDepth 100000 in
theorem rexpire6_any (A:Option Addr) (n c:Nat) (d:List Co) (now:Int) (w:World) (hd:d.length = n) (hn:n ≤ 1000000) (h:Sl w w.heap.size 6 A n c (flatCo d)) :
  Calls Tryz.prog 58 #[.slice A n c,.int .i64 now] w (ExpPost d now w):=by
 obtain ⟨i0,hi0,hz0,hz1,hz2⟩:=info_parts infoCo
 obtain ⟨k0,ki0,kz0,kz1,kz2⟩:=info_parts infoI
 have HD:=Lib.hid hd
 have HL:=Lib.hid h
 clear hd h
 go_enter Tryz.func58,Tryz.ntmps58
 go_wp2
 go_loopw [6,7,8] (fun ov gv iv wr => ∃ (o:List Co) (s:List Int) (k m i:Nat),iv = .int .i64 i ∧ i ≤ n ∧ k ≤ i ∧ m ≤ i ∧ Hid (o.length = k) ∧ Hid (s.length = m) ∧ wr.ownsRow w.heap.size 33 6 ov k (flatCo o) ∧ wr.ownsRow w.heap.size 3 1 gv m (s.map (Value.int .i64)) ∧ Below w.heap.size w wr ∧ Hid (leftC (d.take i) now = o) ∧ Hid (sortI (goneL (d.take i) now) = s)) (fun _ _ iv _ => n - (intOf iv).toNat)
 case atStart => exact ⟨[],[],0,0,0,rfl,by omega,by omega,by omega,rfl,rfl,World.ownsRow_nil _ _ _ _,World.ownsRow_nil _ _ _ _,Below.refl _ _,rfl,(by simp [Hid,goneL,sortI])⟩
 case round =>
  obtain ⟨o,s,k,m,i,rfl,hi,hk,hm,HO,HS,hown,hgow,hB,HF,HG⟩:=hrel
  have hs:=hB.size
  by_cases hin:i < n
  ·obtain ⟨ad,rfl,hab,c0,c1,c2,c3,c4,c5⟩:=(HL.out.below hB).lst.atCo HD.out hin
   have hnx:=leftC_next now (d:=d) (i:=i) (by rw [HD.out]; exact hin)
   have hgx:=goneL_next (d:=d) (k:=i) now (by rw [HD.out]; exact hin)
   obtain ⟨r,hr⟩:∃ r,gCo d i = r:=⟨_,rfl⟩
   rw [HF.out,hr] at hnx
   rw [hr] at hgx
   rw [hr] at c0 c1 c2 c3 c4 c5
   clear hr HF
   have hne:=own_ne hown hgow (by decide)
   by_cases he:now < r.en
   ·have g1:decide (r.en > now) = true:=decide_eq_true he
    rw [if_pos he] at hnx
    rw [if_neg (by unfold overE; simp; omega),List.append_nil] at hgx
    have HNX:=Lib.hid hnx
    have HGX:=Lib.hid ((congrArg sortI hgx).trans HG.out)
    clear hnx hgx he HG
    go_wp2_with (first | (at_builtin; refine wpList_append_own _ rfl _ _ 22 rfl w.heap.size 33 i0 _ 6 48 Tryz.underlying22 hi0 hz0 hz1 hz2 rfl (by decide) _ _ _ rfl (hown.alloc _) ⟨wr.heap.size,0,none⟩ 1 1 [.int .i64 r.id,.int .i64 r.fr,.int .i64 r.tn,.int .i64 r.st,.int .i64 r.en,.int .i64 r.rt] rfl rfl (by exact lit_cells wr #[.int .i64 r.id,.int .i64 r.fr,.int .i64 r.tn,.int .i64 r.st,.int .i64 r.en,.int .i64 r.rt] _ _ rfl) (by simp [Value.oneCell']) (by unfold maxLen; omega) (by omega) (by simp; omega) ?_; intro v' w3 hown' hgrow3 hnil3))
    have hbN:=(hB.alloc hs _).grown hgrow3 (by simp; omega) (fun q hq => (hown.lt q hq).1)
    have hgow':=(hgow.alloc (.cells #[.int .i64 r.id,.int .i64 r.fr,.int .i64 r.tn,.int .i64 r.st,.int .i64 r.en,.int .i64 r.rt] 33)).kept hgrow3 (own_ne hgow hown (by decide))
    clear hgrow3 hnil3
    go_wp2_with fail
    go_roundw
    case rel => exact ⟨o ++ [r],s,k + 1,m,i + 1,by go_num,by omega,by omega,by omega,by simp [Hid,HO.out],HS,(by rw [flatCo_append,flatCo_one_]; exact hown'),hgow',hbN,HNX,HGX⟩
    case measure => simp [intOf]; omega
   ·have g1:decide (r.en > now) = false:=decide_eq_false he
    rw [if_neg he,List.append_nil] at hnx
    rw [if_pos (by unfold overE; simp; omega)] at hgx
    have HNX:=Lib.hid hnx
    have HGX:=Lib.hid (congrArg sortI hgx)
    clear hnx hgx he
    obtain ⟨Ag,cg,rfl⟩:=slice_of_own hgow
    obtain ⟨Ao,co,rfl⟩:=slice_of_own hown
    go_wp2_with (first | (at_builtin; refine wpList_append_own _ rfl _ _ 47 rfl w.heap.size 3 k0 _ 1 8 Tryz.underlying47 ki0 kz0 kz1 kz2 rfl (by decide) _ _ _ rfl (hgow.alloc _) ⟨wr.heap.size,0,none⟩ 1 1 [.int .i64 r.id] rfl rfl (by exact lit_cells wr #[.int .i64 r.id] _ _ rfl) (by simp [Value.oneCell']) (by unfold maxLen; omega) (by omega) (by simp; omega) ?_; intro v' w3 hgow' hgrow3 hnil3))
    have hbN:=(hB.alloc hs _).grown hgrow3 (by simp; omega) (fun q hq => (hgow.lt q hq).1)
    have hown':=(hown.alloc (.cells #[.int .i64 r.id] 3)).kept hgrow3 (own_ne hown hgow (by decide))
    obtain ⟨gg,gc,rfl,hgc1,hgc2,hgc3,hgc4⟩:=own_at hgow' (by omega)
    have hgw2:w3.ownsRow w.heap.size 3 1 (.slice (some ⟨gg,0,none⟩) (m + 1) gc) (m + 1) ((insI s m r.id).map (Value.int .i64)):=by
     rw [← HS.out,insI_all,HS.out]; simpa using hgow'
    clear hgrow3 hnil3 hne hown hgow hgow' c0 c1 c2 c3 c4 c5 hB hs
    unfold maxLen at hgc2
    go_loopw [9] (fun kv wx => ∃ j:Nat,kv = .int .i64 j ∧ j ≤ m ∧ Hid (∀ q,j ≤ q → q < m → r.id < s.getD q 0) ∧ wx.ownsRow w.heap.size 3 1 (.slice (some ⟨gg,0,none⟩) (m + 1) gc) (m + 1) ((insI s j r.id).map (Value.int .i64)) ∧ wx.ownsRow w.heap.size 33 6 (.slice Ao k co) k (flatCo o) ∧ Below w.heap.size w wx) (fun kv _ => (intOf kv).toNat)
    case atStart => exact ⟨m,rfl,Nat.le_refl _,(fun q h1 h2 => by omega),hgw2,hown',hbN⟩
    case round =>
     clear hgw2 hown' hbN
     obtain ⟨j,rfl,hj,HJ,hgx,hox,hB⟩:=hrel
     have hs:=hB.size
     have hcase:j = 0 ∨ ∃ p,j = p + 1:=by cases j with | zero => exact .inl rfl | succ p => exact .inr ⟨p,rfl⟩
     have hlen:=insI_length (s:=s) (k:=j) r.id (by rw [HS.out]; exact hj)
     rw [HS.out] at hlen
     rcases hcase with rfl | ⟨p,rfl⟩
     ·have hgt:decide (((0:Nat):Int) > 0) = false:=by simp
      have hsn:=sortI_snoc (k:=0) (x:=r.id) HG.out (by omega) (fun q h1 h2 => HJ.out q h1 (by rw [HS.out] at h2; exact h2)) (.inl rfl)
      have HSN:=Lib.hid (HGX.out.trans hsn)
      clear hsn
      try simp only [Int.natCast_zero]
      go_wp2_with fail
      try simp only [List.append]
      first | refine wp_region_text_below ?_ | refine wp_region_quiet_below (by kernel_rfl) (by kernel_rfl) ?_
      repeat (go_big_quiet_step ((fail)))
      refine wpQuiet_nil ?_
      intro _ hqw
      obtain ⟨pq,hqw⟩:=hqw
      subst hqw
      have hbel:=below_regrown wr pq.d pq.os
      have hg2:=own_below hgx hbel
      have ho2:=own_below hox hbel
      have hB2:=hB.trans (hbel.mono hB.size)
      clear hbel hgx hox hB hs
      generalize grow (redrawn wr pq.d) pq.os = wq at *
      go_wp2_with fail
      go_roundw
      case rel => exact ⟨o,insI s 0 r.id,k,m + 1,i + 1,by go_num,by omega,by omega,by omega,HO,hlen,ho2,hg2,hB2,HNX,HSN⟩
      case measure => simp [intOf]; omega
     ·have hpm:p < s.length:=by rw [HS.out]; omega
      obtain ⟨y,hy⟩:∃ y,s.getD p 0 = y:=⟨_,rfl⟩
      obtain ⟨q1,q2⟩:=insI_get (s:=s) (p:=p) r.id hpm
      rw [hy] at q1
      have r0:=ownI_at hgx (by rw [hlen]; omega) q1
      have r1:=ownI_at hgx (by rw [hlen]; omega) q2
      have hwr:IntKind.i64.wrap (((p + 1:Nat):Int) - 1) = (p:Int):=by rw [show ((p + 1:Nat):Int) - 1 = (p:Int) by omega]; exact IntWalk.i64_in _ (by omega)
      have hwr2:IntKind.i64.wrap ((p:Int) + 1 - 1) = (p:Int):=by rw [show (p:Int) + 1 - 1 = (p:Int) by omega]; exact IntWalk.i64_in _ (by omega)
      have hgt:decide ((((p + 1:Nat)):Int) > 0) = true:=decide_eq_true (by omega)
      have hpI:(p:Int) < ((m + 1:Nat):Int):=by omega
      have hp1:((p + 1:Nat):Int) < ((m + 1:Nat):Int):=by omega
      have hp0:(0:Int) ≤ (p:Int):=by omega
      have HY:=Lib.hid hy
      clear hy q1 q2
      by_cases hxy:r.id < y
      ·have g2:decide (y > r.id) = true:=decide_eq_true hxy
       have HJ2:Hid (∀ q,p ≤ q → q < m → r.id < s.getD q 0):=fun q h1 h2 => by
        by_cases e:q = p
        ·rw [e,HY.out]; exact hxy
        ·exact HJ.out q (by omega) h2
       go_wp2_with fail
       have q_r0:=fun d os => cell_regrown r0 d os
       have q_r1:=fun d os => cell_regrown r1 d os
       try simp only [List.append]
       first | refine wp_region_text_below ?_ | refine wp_region_quiet_below (by kernel_rfl) (by kernel_rfl) ?_
       repeat (go_big_quiet_step ((fail)))
       refine wpQuiet_nil ?_
       intro _ hqw
       obtain ⟨pq,hqw⟩:=hqw
       subst hqw
       clear q_r0 q_r1
       have hbel:=below_regrown wr pq.d pq.os
       have hg2:=own_below hgx hbel
       have ho2:=own_below hox hbel
       have hB2:=hB.trans (hbel.mono hB.size)
       clear hbel hgx hox hB hs r0 r1
       generalize grow (redrawn wr pq.d) pq.os = wq at *
       have r0:=ownI_at hg2 (by rw [hlen]; omega) ((insI_get (s:=s) (p:=p) r.id hpm).1.trans HY.out)
       have r1:=ownI_at hg2 (by rw [hlen]; omega) (insI_get (s:=s) (p:=p) r.id hpm).2
       have f0:=hg2.frozenAt p
       have f1:=hg2.frozenAt (p + 1)
       have hne1:=own_ne ho2 hg2 (by decide)
       obtain ⟨hst1,hgr1⟩:=hg2.stored p (.int .i64 r.id)
       rw [swap_rows' hpm] at hst1
       obtain ⟨hst2,hgr2⟩:=hst1.stored (p + 1) (.int .i64 y)
       have hrow:((((insI s (p + 1) r.id).set p r.id).map (Value.int .i64)).set (p + 1) (.int .i64 y)) = (insI s p r.id).map (Value.int .i64):=by
        rw [← swap_rows' hpm,← HY.out]; exact swap_rows hpm
       rw [hrow] at hst2
       have ho4:=(ho2.kept hgr1 hne1).kept hgr2 hne1
       have hB4:Below w.heap.size w ((wq.setCell ⟨gg,p,none⟩ (.int .i64 r.id)).setCell ⟨gg,p + 1,none⟩ (.int .i64 y)):=(hB2.grown hgr1 hB2.size (fun k hk => by simp at hk; omega)).grown hgr2 (by have:=hgr1.size; have:=hB2.size; omega) (fun k hk => by simp at hk; omega)
       clear hne1 hst1 hgr1 hgr2 hrow ho2 hg2 hB2
       go_wp2_with fail
       go_roundw
       case rel => exact ⟨p,by go_num,by omega,HJ2,hst2,ho4,hB4⟩
       case measure => simp [intOf]
      ·have g2:decide (y > r.id) = false:=decide_eq_false hxy
       have hsn:=sortI_snoc (k:=p + 1) (x:=r.id) HG.out (by omega) (fun q h1 h2 => HJ.out q h1 (by rw [HS.out] at h2; exact h2)) (.inr (by rw [Nat.add_sub_cancel,HY.out]; omega))
       have HSN:=Lib.hid (HGX.out.trans hsn)
       clear hsn hxy
       go_wp2_with fail
       have q_r0:=fun d os => cell_regrown r0 d os
       have q_r1:=fun d os => cell_regrown r1 d os
       try simp only [List.append]
       first | refine wp_region_text_below ?_ | refine wp_region_quiet_below (by kernel_rfl) (by kernel_rfl) ?_
       repeat (go_big_quiet_step ((fail)))
       refine wpQuiet_nil ?_
       intro _ hqw
       obtain ⟨pq,hqw⟩:=hqw
       subst hqw
       clear q_r0 q_r1
       have hbel:=below_regrown wr pq.d pq.os
       have hg2:=own_below hgx hbel
       have ho2:=own_below hox hbel
       have hB2:=hB.trans (hbel.mono hB.size)
       clear hbel hgx hox hB hs r0 r1
       generalize grow (redrawn wr pq.d) pq.os = wq at *
       go_wp2_with fail
       go_roundw
       case rel => exact ⟨o,insI s (p + 1) r.id,k,m + 1,i + 1,by go_num,by omega,by omega,by omega,HO,hlen,ho2,hg2,hB2,HNX,HSN⟩
       case measure => simp [intOf]; omega
  ·have hie:i = n:=by omega
   have hf:=HF.out
   have hg:=HG.out
   rw [List.take_of_length_le (by rw [HD.out]; omega)] at hf hg
   have HF2:=Lib.hid hf
   have HG2:=Lib.hid hg
   clear hf HF hg HG
   obtain ⟨Ao,co,rfl⟩:=slice_of_own hown
   obtain ⟨Ag,cg,rfl⟩:=slice_of_own hgow
   go_wp2_with fail
   go_ret2
   refine ⟨_,_,rfl,by rw [HF2.out,HO.out]; exact hown,?_,hB⟩
   have hl:(goneL d now).length = m:=by rw [← HS.out,← HG2.out,sortI_length]
   rw [hl,HG2.out]
   exact hgow
end Go.Proofs.YtolaabllhibkdaaGreat.Kc
