/- Several texts of mine in one: DueAt, DueMem. No condition. -/
import Derived.Test.YtodcoockhkghdaaGreatGQ15
namespace Go.Proofs.YtodcoockhkghdaaGreat
open Go.ChangeShapes Go.WideShapes Go.ChangeAt Go.RowKit Go.Sort Go.Maps Hp
set_option linter.unusedSimpArgs false
set_option linter.unusedVariables false
theorem hlat_yes {x:Ed} {t size a:Int} (h:x.latest t size = some a) (w:World) :
  Calls Tryz.prog 181 #[.agg #[.int .i64 x.id,.int .i64 x.fr,.int .i64 x.tn,.int .i64 x.op,.int .i64 x.en,.int .i64 x.ra,.int .i64 x.ow,.int .i64 x.ro],.int .i64 t,.int .i64 size] w fun e w' => e = .returned (.tuple #[.int .i64 a,.bool true]) ∧ Below w.heap.size w w':=latest_yes h w
theorem hlat_no {x:Ed} {t size:Int} (h:x.latest t size = none) (w:World) :
  Calls Tryz.prog 181 #[.agg #[.int .i64 x.id,.int .i64 x.fr,.int .i64 x.tn,.int .i64 x.op,.int .i64 x.en,.int .i64 x.ra,.int .i64 x.ow,.int .i64 x.ro],.int .i64 t,.int .i64 size] w fun e w' => e = .returned (.tuple #[.int .i64 0,.bool false]) ∧ Below w.heap.size w w':=latest_no h w
theorem gt_take {r:List (Int × Int)} {k:Nat} (h:k < r.length):r.take (k + 1) = r.take k ++ [gt r k]:=take_next h
set_option maxHeartbeats 2000000 in
set_option maxRecDepth 100000 in
theorem dat_tb {w1 w:World} {tb pb ub:Nat} {A:Option Addr} {n c:Nat} {q size:Int} {h sb nm:Nat} {P:Int → List (Int × Int)} {cs:Int → Value} {vf:Value} {F:List Int} (t:TB w1 w tb pb ub A n c q size h sb nm P cs vf F) (x k:Int) (hx:(Lit.int .i64 x).wf = true) (hlen:(P x).length ≤ 1000000) (u:Int) (b:Bool) (hu:(atS (P x) k).getD 0 = u) (hb:(atS (P x) k).isSome = b) :
  Calls Tryz.prog 110 #[.pointer (some ⟨tb,0,none⟩),.int .i64 x,.int .i64 k] w fun e w' => e = .returned (.tuple #[.int .i64 u,.bool b]) ∧ Below w.heap.size w w':=by
 have x6:w.cell? ⟨tb,6,none⟩ = some (.map (some sb)):=t.box.cell 6
 have lt_x:=t.box.lt
 have hlk:=t.sm.look hx
 have hrow:=t.sm.row x
 obtain ⟨vr,hvr⟩:∃ v,cs x = v:=⟨_,rfl⟩
 obtain ⟨R,hR⟩:∃ r,P x = r:=⟨_,rfl⟩
 rw [hvr] at hlk hrow
 rw [hR] at hrow hlen hu hb
 obtain ⟨nr,hnr⟩:∃ z,R.length = z:=⟨_,rfl⟩
 rw [hnr] at hrow hlen
 obtain ⟨Ar,cr,rfl⟩:=slice_of_own hrow
 have hsl:=Sl.of_own hrow
 have HS:=Lib.hid (fun w' (hb:Below w.heap.size w w') => hsl.up hb)
 have HNR:=Lib.hid hnr
 have HU:=Lib.hid hu
 have HB:=Lib.hid hb
 have hw1:IntKind.i64.wrap ((nr:Int) - 1) = (nr:Int) - 1:=IntWalk.i64_in _ (by omega)
 clear hrow hvr hR hnr hsl hu hb t
 go_enter Tryz.func110,Tryz.ntmps110
 go_wp2
 clear hlk
 go_loopw [9] (fun iv wr => ∃ (i:Nat) (z:Int),iv = .int .i64 z ∧ Hid (z = (i:Int) - 1) ∧ i ≤ nr ∧ Hid (atS R k = atS (R.take i) k) ∧ Below w.heap.size w wr) (fun iv _ => ((intOf iv) + 1).toNat)
 case atStart => exact ⟨nr,(nr:Int) - 1,rfl,rfl,by omega,by show atS R k = _; rw [List.take_of_length_le (by rw [HNR.out]; omega)],Below.refl _ _⟩
 case round =>
  clear hw1
  obtain ⟨i,z,rfl,HZ,hi,HA,hB⟩:=hrel
  cases i with
  | zero =>
   obtain rfl:z = -1:=by have:=HZ.out; omega
   have e1:atS R k = none:=by rw [HA.out]; rfl
   have f1:u = 0:=by rw [← HU.out,e1]; rfl
   have f2:b = false:=by rw [← HB.out,e1]; rfl
   subst f1 f2
   clear e1
   go_wp2
   exact bodyPost_ret (v:=.tuple #[.int .i64 0,.bool false]) (by simp [results,Tryz.results110,go_sem]) rfl ⟨rfl,hB⟩
  | succ p =>
   obtain rfl:z = (p:Int):=by have:=HZ.out; omega
   have hp:p < nr:=by omega
   obtain ⟨ad,rfl,hab,c0,c1⟩:=(HS.out _ hB).lst.fst2 HNR.out hp
   have htk:=gt_take (r:=R) (k:=p) (by rw [HNR.out]; exact hp)
   obtain ⟨y,hy⟩:∃ y,gt R p = y:=⟨_,rfl⟩
   rw [hy] at c0 c1 htk
   have HTK:=Lib.hid htk
   clear hy htk
   by_cases hk:y.1 ≤ k
   ·have e1:atS R k = some y.2:=by rw [HA.out,HTK.out,atS_snoc,if_pos hk]
    have f1:y.2 = u:=by rw [← HU.out,e1]; rfl
    have f2:b = true:=by rw [← HB.out,e1]; rfl
    subst f2
    rw [f1] at c1
    have g1:decide (y.1 ≤ k) = true:=decide_eq_true hk
    clear e1 f1 hk
    go_wp2
    exact bodyPost_ret (v:=.tuple #[.int .i64 u,.bool true]) (by simp [results,Tryz.results110,go_sem]) rfl ⟨rfl,hB⟩
   ·have HA2:Hid (atS R k = atS (R.take p) k):=by
     show atS R k = _
     rw [HA.out,HTK.out,atS_snoc,if_neg hk]
    have g1:decide (y.1 ≤ k) = false:=decide_eq_false hk
    have hw1:IntKind.i64.wrap ((p:Int) - 1) = (p:Int) - 1:=IntWalk.i64_in _ (by omega)
    clear hk
    go_wp2
    go_roundw
    case rel => exact ⟨p,(p:Int) - 1,rfl,rfl,by omega,HA2,hB⟩
    case measure => first | (simp [intOf]; done) | (simp [intOf]; omega)
theorem dat_any {w0 w:World} {tb:Nat} {A:Option Addr} {n c:Nat} {l:List Ed} {q by_ size:Int} {sh:List Int} {h:Nat} (t:TabH w0 w tb A n c l q by_ size sh h) (hh:h ≤ 10000) (x:Int) (k:Nat) (hk:k ≤ h) (hx:(Lit.int .i64 x).wf = true) (u:Int) (b:Bool) (hu:(lateL l size (opn sh q) q by_ k x).getD 0 = u) (hb:(lateL l size (opn sh q) q by_ k x).isSome = b) :
  Calls Tryz.prog 110 #[.pointer (some ⟨tb,0,none⟩),.int .i64 x,.int .i64 (k:Int)] w fun e w' => e = .returned (.tuple #[.int .i64 u,.bool b]) ∧ Below w.heap.size w w':=by
 obtain ⟨w1,pb,ub,sb,nm,ct,P,cs,vf,F,hd,ht,hS,hC,hF,hF3,hF2,hP,hn⟩:=t
 have e:=hS.2.1 x k hk
 exact dat_tb ht x k hx (by have:=hP x; omega) u b (by rw [e]; exact hu) (by rw [e]; exact hb)
set_option maxHeartbeats 2000000 in
set_option maxRecDepth 100000 in
theorem dopen_any {w0 w:World} {tb:Nat} {A:Option Addr} {n c:Nat} {l:List Ed} {q by_ size:Int} {sh:List Int} {h:Nat} (t:TabH w0 w tb A n c l q by_ size sh h) (x:Int) (hx:(Lit.int .i64 x).wf = true) (b:Bool) (hb:opn sh q x = b) :
  Calls Tryz.prog 112 #[.pointer (some ⟨tb,0,none⟩),.int .i64 x] w fun e w' => e = .returned (.bool b) ∧ Below w.heap.size w w':=by
 obtain ⟨w1,pb,ub,sb,nm,ct,P,cs,vf,F,hd,ht,_⟩:=t
 have x2:w.cell? ⟨tb,2,none⟩ = some (.int .i64 q):=ht.box.cell 2
 have x4:w.cell? ⟨tb,4,none⟩ = some (.map (some ub)):=ht.box.cell 4
 have lt_x:=ht.box.lt
 obtain ⟨un,hS⟩:=hd.su w ht.bl
 have hlk:=hS.look hx
 unfold opn at hb
 obtain ⟨sb2,hs2⟩:∃ z,sh.contains x = z:=⟨_,rfl⟩
 rw [hs2] at hlk hb
 clear hS hd ht hs2
 by_cases hq:x = q
 ·subst hq
  have f:b = true:=by rw [← hb]; simp
  subst f
  clear hb
  go_enter Tryz.func112,Tryz.ntmps112
  go_wp2
  go_ret
  exact ⟨rfl,Below.refl _ _⟩
 ·have hbq:(x == q) = false:=beq_eq_false_iff_ne.2 hq
  have f:b = !sb2:=by rw [← hb,hbq,Bool.false_or]
  subst f
  clear hb hq
  cases sb2
  all_goals
   go_enter Tryz.func112,Tryz.ntmps112
   go_wp2
   go_ret
   exact ⟨rfl,Below.refl _ _⟩
end Go.Proofs.YtodcoockhkghdaaGreat
namespace Go.Proofs.YtodcoockhkghdaaGreat
open Go.ChangeShapes Go.WideShapes Go.ChangeAt Go.RowKit Go.Sort Go.Maps Hp
set_option linter.unusedSimpArgs false
set_option linter.unusedVariables false
section
variable {w1 w w':World} {tb pb ub:Nat} {A:Option Addr} {n c:Nat} {q size:Int} {h sb nm:Nat} {P:Int → List (Int × Int)} {cs:Int → Value} {vf:Value} {F:List Int}
theorem own_not_map {base g:Nat} {e:TypeId} {size n:Nat} {v:Value} {xs:List Value} {es:Array MapEntry} {clock:Nat} (h:w.ownsRow base e size v n xs) (hg:w.heap[g]? = some (.map es clock)):v.ownBlock ≠ some g:=by
 rcases h.2 with ⟨rfl,_⟩ | ⟨g',cap,cur,rfl,_,hc,_⟩
 ·simp [Value.ownBlock]
 ·intro e
  simp [Value.ownBlock] at e
  subst e
  rw [hg] at hc
  cases hc
theorem own_not_iter {base g:Nat} {e:TypeId} {size n:Nat} {v:Value} {xs:List Value} {b:Option Nat} {s:Nat} {seen:Array Nat} {c0:Nat} (h:w.ownsRow base e size v n xs) (hg:w.heap[g]? = some (.mapIter b s seen c0)):v.ownBlock ≠ some g:=by
 rcases h.2 with ⟨rfl,_⟩ | ⟨g',cap,cur,rfl,_,hc,_⟩
 ·simp [Value.ownBlock]
 ·intro e
  simp [Value.ownBlock] at e
  subst e
  rw [hg] at hc
  cases hc
theorem TB.keptS {S:Nat → Prop} (t:TB w1 w tb pb ub A n c q size h sb nm P cs vf F) (hk:Kept S w w') (h0:∀ k,k ≤ tb → ¬ S k) (h1:¬ S sb) (h2:∀ x k,(cs x).ownBlock = some k → ¬ S k) (h3:∀ k,vf.ownBlock = some k → ¬ S k):TB w1 w' tb pb ub A n c q size h sb nm P cs vf F:=
 ⟨hk.blok t.box (h0 tb (Nat.le_refl _)),t.sm.keptS hk h1 h2,row_keptS t.fr hk h3,t.fs,t.fm,hk.below_of t.bl (Nat.le_of_lt t.box.lt) (fun k hk => h0 k (by omega))⟩
theorem TB.count (t:TB w1 w tb pb ub A n c q size h sb nm P cs vf F) (v:Value) (hv:v = .int .i64 ((h + 1:Nat):Int)):TB w1 ((w.setCell ⟨tb,5,none⟩ v).setCell ⟨tb,7,none⟩ (.slice none 0 0)) tb pb ub A n c q size (h + 1) sb nm P cs (.slice none 0 0) []:=by
 subst hv
 have hk:Kept (fun k => k = tb) w ((w.setCell ⟨tb,5,none⟩ (.int .i64 ((h + 1:Nat):Int))).setCell ⟨tb,7,none⟩ (.slice none 0 0)):=Kept.set (S:=fun k => k = tb) (Kept.set (S:=fun k => k = tb) (Kept.refl _ _) (fun _ => rfl) 5 _) (fun _ => rfl) 7 _
 refine ⟨(t.box.set_ 5 _).set_ 7 _,t.sm.keptS hk (by have:=t.sm.low; omega) (fun x k hx e => by have:=((t.sm.row x).lt k hx).1; omega),World.ownsRow_nil _ _ _ _,fun x => .inl rfl,by simp [Value.ownBlock],(t.bl.setCell (by simp) _).setCell (by simp) _⟩
theorem TB.put {W wA w2:World} {x a b:Int} {v1:Value} {T:Lit → Option Value} (t:TB w1 w tb pb ub A n c q size h sb nm P cs vf F) (hw:Below w.heap.size w W) (hg:W.grownBy wA (cs x).ownBlock)
  (hown:wA.ownsRow (tb + 1) 159 2 v1 ((P x).length + 1) (flat2 (P x) ++ [.int .i64 a,.int .i64 b])) (hbl:v1.ownBlock = (cs x).ownBlock ∨ ∃ k,w.heap.size ≤ k ∧ v1.ownBlock = some k)
  (hmap:MapV w2 3 sb (nm + 1) T) (hT:∀ kl,setS (rowsS P cs) (.int .i64 x) v1 kl = T kl) (hg2:wA.grownBy w2 (some sb)) :
  TB w1 w2 tb pb ub A n c q size h sb (nm + 1) (updP P x (P x ++ [(a,b)])) (updC cs x v1) vf F:=by
 have hlow:=t.sm.low
 have hb:=t.box.lt
 have hxl:∀ k,(cs x).ownBlock = some k → tb + 1 ≤ k:=fun k hk => ((t.sm.row x).lt k hk).1
 refine ⟨?_,t.sm.put (by omega) hw hg hown hbl hmap hT hg2,?_,fun y => ?_,t.fm,?_⟩
 ·exact (Blok.over t.box hg (fun e => by have:=hxl tb e; omega) hw).grown hg2 (fun e => by injection e with e; omega)
 ·have h1:=own_belowJ t.fr hw
  exact (h1.kept hg (t.fs x)).kept hg2 (.inr t.fm)
 ·by_cases e:y = x
  ·subst e
   rw [updC_same]
   rcases hbl with e | ⟨k,hk,e⟩
   ·rw [e]; exact t.fs y
   ·cases ho:vf.ownBlock with
    | none => exact .inl rfl
    | some z =>
     refine .inr fun e2 => ?_
     rw [e] at e2
     injection e2 with e2
     have:=(t.fr.lt z ho).2
     omega
  ·rw [updC_ne _ _ e]; exact t.fs y
 ·have hs:=hw.size
  exact ((t.bl.trans (hw.mono (by omega))).grown hg (by omega) (fun k hk => by have:=hxl k hk; omega)).grown hg2 (by have:=hg.size; omega) (fun k hk => by injection hk with hk; omega)
theorem TB.fresh {W wA:World} {x:Int} {v1:Value} (t:TB w1 w tb pb ub A n c q size h sb nm P cs vf F) (hw:Below w.heap.size w W) (hg:W.grownBy wA vf.ownBlock)
  (hown:wA.ownsRow (tb + 1) 3 1 v1 (F.length + 1) (F.map (Value.int .i64) ++ [.int .i64 x])) (hbl:v1.ownBlock = vf.ownBlock ∨ ∃ k,w.heap.size ≤ k ∧ v1.ownBlock = some k) :
  TB w1 (wA.setCell ⟨tb,7,none⟩ v1) tb pb ub A n c q size h sb nm P cs v1 (F ++ [x]):=by
 have hlow:=t.sm.low
 have hb:=t.box.lt
 have hsb:=MapV.lt t.sm.map
 have hvl:∀ k,vf.ownBlock = some k → tb + 1 ≤ k:=fun k hk => (t.fr.lt k hk).1
 have hrl:∀ y k,(cs y).ownBlock = some k → tb + 1 ≤ k ∧ k < w.heap.size:=fun y k hk => (t.sm.row y).lt k hk
 have hkw:Kept (fun k => vf.ownBlock = some k) W wA:=Kept.of_grown hg (fun k hk _ => hk)
 have hk:Kept (fun k => vf.ownBlock = some k ∨ k = tb) w (wA.setCell ⟨tb,7,none⟩ v1):=by
  refine Kept.set ?_ (fun _ => .inr rfl) 7 v1
  exact (Kept.of_below hw).trans hkw (fun i _ hi => .inl hi)
 refine ⟨?_,t.sm.keptS hk (fun e => ?_) (fun y k hy e => ?_),?_,fun y => ?_,?_,?_⟩
 ·exact (Blok.over t.box hg (fun e => by have:=hvl tb e; omega) hw).set_ 7 v1
 ·rcases e with e | e
  ·exact t.fm e
  ·omega
 ·have:=hrl y k hy
  rcases e with e | e
  ·rcases t.fs y with h1 | h1
   ·rw [h1] at e; cases e
   ·exact h1 (e.trans hy.symm)
  ·omega
 ·rw [List.length_append,List.map_append]
  exact row_keptS hown (Kept.set (Kept.refl (fun k => k = tb) wA) (fun _ => rfl) 7 v1) (fun k hk e => by have:=(hown.lt k hk).1; omega)
 ·rcases hbl with e | ⟨k,hk,e⟩
  ·rw [e]; exact t.fs y
  ·refine .inr fun e2 => ?_
   rw [e] at e2
   have:=(hrl y k e2.symm).2
   omega
 ·rcases hbl with e | ⟨k,hk,e⟩
  ·rw [e]; exact t.fm
  ·rw [e]; intro e2; injection e2 with e2; omega
 ·have hs:=hw.size
  exact ((t.bl.trans (hw.mono (by omega))).grown hg (by omega) (fun k hk => by have:=hvl k hk; omega)).setCell (by simp) _
end
theorem atS_top:∀ {r:List (Int × Int)} {k k':Int},(∀ s ∈ r,s.1 ≤ k) → k ≤ k' → atS r k' = atS r k:=by
 intro r k k' h hk
 rcases List.eq_nil_or_concat r with rfl | ⟨r0,s,rfl⟩
 ·rfl
 ·rw [List.concat_eq_append] at h ⊢
  have h1:=h s (by simp)
  rw [atS_snoc,atS_snoc,if_pos h1,if_pos (by omega)]
theorem steps_next {P P':Int → List (Int × Int)} {F:Nat → Int → Option Int} {h:Nat} {L:Int → Option Int} (hS:Steps P F h) (hF:F (h + 1) = overT (F h) L) (hP:∀ x,P' x = match L x with | some a => P x ++ [((h:Int) + 1,a)] | none => P x):Steps P' F (h + 1):=by
 obtain ⟨h1,h2,h3⟩:=hS
 refine ⟨fun x s hs => ?_,fun x k hk => ?_,fun x => ?_⟩
 ·rw [hP x] at hs
  cases hL:L x with
  | none => rw [hL] at hs; have:=h1 x s hs; omega
  | some a =>
   rw [hL] at hs
   rcases List.mem_append.1 hs with h4 | h4
   ·have:=h1 x s h4; omega
   ·rw [List.mem_singleton.1 h4]; simp only; omega
 ·rw [hP x]
  by_cases e:k = h + 1
  ·subst e
   rw [hF]
   cases hL:L x with
   | none =>
    rw [overT_none hL,← h2 x h (Nat.le_refl _)]
    exact atS_top (fun s hs => (h1 x s hs).2) (by omega)
   | some a =>
    rw [overT_some hL]
    simp only
    rw [atS_snoc,if_pos (by simp only; omega)]
  ·have hk':k ≤ h:=by omega
   cases hL:L x with
   | none => exact h2 x k hk'
   | some a =>
    simp only
    rw [atS_snoc,if_neg (by simp only; omega)]
    exact h2 x k hk'
 ·rw [hP x,hF]
  cases hL:L x with
  | none => rw [overT_none hL]; exact h3 x
  | some a => rw [overT_some hL]; simp
theorem few_nodes {F:List Int} (hn:F.Nodup) (hr:∀ x ∈ F,1 ≤ x ∧ x ≤ 255):F.length ≤ 255:=by
 have h:=nodup_len_int (l:=(List.range 255).map (fun (i:Nat) => (i:Int) + 1)) hn (fun x hx => by
  have:=hr x hx
  exact List.mem_map.2 ⟨(x - 1).toNat,List.mem_range.2 (by omega),by omega⟩)
 simpa using h
end Go.Proofs.YtodcoockhkghdaaGreat
