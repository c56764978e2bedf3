/- Several texts of mine in one: BUp, BDown. No condition. -/
import Derived.Test.YtodcoockhkghdaaGreatGQ26
namespace Go.Proofs.YtodcoockhkghdaaGreat
open Go.ChangeShapes Go.WideShapes Go.ChangeAt Go.RowKit Go.Sort Bp
set_option linter.unusedSimpArgs false
set_option linter.unusedVariables false
structure HB (w:World) (wb:Nat) (v:Value) (d:List Bx):Prop where
 head:Blok w wb 117 #[v]
 row:BrRow w 0 v d
 off:∀ x ∈ d,x.off wb
theorem mth (name:String) (f:FuncId) (wb:Nat) (h:∀ w,(method 357 120 (.pointer (some ⟨wb,0,none⟩)) name).run Tryz.prog w = (Sem.load .plain ⟨wb,0,none⟩ (fun v => .pure (f,v))).run Tryz.prog w) {w:World} {v:Value} (hb:w.cell? ⟨wb,0,none⟩ = some v):(method 357 120 (.pointer (some ⟨wb,0,none⟩)) name).run Tryz.prog w = .ok (f,v) w:=by
 rw [h]
 simp only [Sem.run,hb]
theorem mLess {wb : Nat} {w : World} {v : Value} (hb : w.cell? ⟨wb, 0, none⟩ = some v) : (method 357 120 (.pointer (some ⟨wb, 0, none⟩)) "Less").run Tryz.prog w = .ok (217, v) w := mth _ _ wb (fun _ => by kernel_rfl) hb
theorem mSwap {wb : Nat} {w : World} {v : Value} (hb : w.cell? ⟨wb, 0, none⟩ = some v) : (method 357 120 (.pointer (some ⟨wb, 0, none⟩)) "Swap").run Tryz.prog w = .ok (218, v) w := mth _ _ wb (fun _ => by kernel_rfl) hb
theorem mLen {wb : Nat} {w : World} {v : Value} (hb : w.cell? ⟨wb, 0, none⟩ = some v) : (method 357 120 (.pointer (some ⟨wb, 0, none⟩)) "Len").run Tryz.prog w = .ok (216, v) w := mth _ _ wb (fun _ => by kernel_rfl) hb
theorem mPush (wb : Nat) (w : World) : (method 357 120 (.pointer (some ⟨wb, 0, none⟩)) "Push").run Tryz.prog w = .ok (220, .pointer (some ⟨wb, 0, none⟩)) w := by kernel_rfl
theorem mPop (wb : Nat) (w : World) : (method 357 120 (.pointer (some ⟨wb, 0, none⟩)) "Pop").run Tryz.prog w = .ok (219, .pointer (some ⟨wb, 0, none⟩)) w := by kernel_rfl
theorem Blok.cell0 {w:World} {g:Nat} {t:TypeId} {v:Value} (h:Blok w g t #[v]):w.cell? ⟨g,0,none⟩ = some v:=h.cell 0
theorem swp_comm (d:List Bx) {i j:Nat} (h:i ≠ j):Bp.swp d i j = Bp.swp d j i:=by unfold Bp.swp; exact List.set_comm _ _ h
theorem HB.below {w w':World} {wb:Nat} {v:Value} {d:List Bx} (h:HB w wb v d) (hb:Below w.heap.size w w'):HB w' wb v d:=⟨h.head.below hb h.head.lt,h.row.below hb,h.off⟩
theorem HB.ne {w:World} {wb g n c:Nat} {d:List Bx} (h:HB w wb (.slice (some ⟨g,0,none⟩) n c) d):wb ≠ g:=by
 have:=Blok.ne_own h.row.row h.head (by decide)
 simp only [Value.ownBlock] at this
 exact fun e => this (by rw [e])
theorem HB.moved {w w':World} {wb g n c:Nat} {d d':List Bx} (h:HB w wb (.slice (some ⟨g,0,none⟩) n c) d) (hr:BrRow w' 0 (.slice (some ⟨g,0,none⟩) n c) d') (hp:d'.Perm d) (hk:Kept (fun k => k = g) w w'):HB w' wb (.slice (some ⟨g,0,none⟩) n c) d':=
 ⟨h.head.kept hk h.ne,hr,fun x hx => h.off x (hp.mem_iff.1 hx)⟩
set_option maxHeartbeats 4000000 in
set_option maxRecDepth 100000 in
theorem up_any (wb g c n i:Nat) (d0:List Bx) (w:World) (hn:d0.length = n) (hnm:n ≤ 10000000) (h0:HB w wb (.slice (some ⟨g,0,none⟩) n c) d0) (hu:upInv d0 i) :
  Calls Tryz.prog 122 #[.iface 120 (.pointer (some ⟨wb,0,none⟩)),.int .i64 (i:Int)] w fun e w' => e = .returned (.tuple #[]) ∧ ∃ d',d'.length = n ∧ d'.Perm d0 ∧ isHeap d' ∧ HB w' wb (.slice (some ⟨g,0,none⟩) n c) d' ∧ Kept (fun k => k = g) w w':=by
 go_enter Tryz.func122,Tryz.ntmps122
 go_wp2
 go_loopw [1] (fun iv wr => ∃ (k:Nat) (d:List Bx),iv = .int .i64 (k:Int) ∧ d.length = n ∧ d.Perm d0 ∧ upInv d k ∧ HB wr wb (.slice (some ⟨g,0,none⟩) n c) d ∧ Kept (fun k => k = g) w wr) (fun iv _ => (intOf iv).toNat)
 case atStart => exact ⟨i,d0,rfl,hn,List.Perm.refl _,hu,h0,Kept.refl _ _⟩
 case round =>
  obtain ⟨k,d,rfl,hd,hp,hi,hH,hK⟩:=hrel
  rename_i wr
  have hkn:k < n:=by have:=hi.lt; omega
  by_cases k0:0 < k
  ·obtain ⟨p,hpe⟩:∃ p:Nat,(k - 1) / 2 = p:=⟨_,rfl⟩
   have hpi:((k:Int) - 1) / 2 = (p:Int):=by omega
   have hpk:p < k:=by omega
   cases ha:ahd (gt d k) (gt d p)
   ·have HL:=bless_any g c n k p d 0 wr hd hnm hH.row hkn (by omega) false ha
    rw [← hpi] at HL
    have HFIN:=Lib.hid (up_end hi (.inr (by rw [hpe]; exact ha)))
    have hm:=mLess hH.head.cell0
    clear ha hpi hpe
    go_wp2_with (go_at_call 217; refine HL.mono ?_; clear HL; rintro e w5 ⟨rfl,hb5⟩)
    go_end0
    exact ⟨rfl,d,hd,hp,HFIN.out,hH.below hb5,hK.trans (Kept.of_below hb5) (fun i _ f => f)⟩
   ·have HL:=bless_any g c n k p d 0 wr hd hnm hH.row hkn (by omega) true ha
    have hup:=up_step hi k0 (by rw [hpe]; exact ha)
    rw [hpe] at hup
    have HS:Hid (∀ w',Below wr.heap.size wr w' → Calls Tryz.prog 218 #[.slice (some ⟨g,0,none⟩) n c,.int .i64 (((k:Int) - 1) / 2),.int .i64 (k:Int)] w' fun e w'' => e = .returned (.tuple #[]) ∧ BrRow w'' 0 (.slice (some ⟨g,0,none⟩) n c) (Bp.swp d p k) ∧ Kept (fun k => k = g) w' w''):=fun w' hb => by
     rw [hpi]; exact bswap_any g c n p k d 0 w' hd hnm (hH.row.below hb) (by omega) hkn
    rw [← hpi] at HL
    have HPI:=Lib.hid hpi
    have HUP:=Lib.hid hup
    have hm:=mLess hH.head.cell0
    clear ha hpi hpe hup
    go_wp2_with (first | (go_at_call 217; refine HL.mono ?_; clear HL; rintro e w5 ⟨rfl,hb5⟩; have hm5:=mSwap (hH.below hb5).head.cell0; have HL5:=HS.out w5 hb5; clear HS) | (go_at_call 218; refine HL5.mono ?_; clear HL5; rintro e w6 ⟨rfl,hr6,hk6⟩))
    go_roundw
    case rel => exact ⟨p,Bp.swp d p k,by rw [HPI.out],by rw [Bp.swp_length]; exact hd,(Bp.swp_perm d p k (by omega) (by omega)).trans hp,by rw [swp_comm d (by omega)]; exact HUP.out,(hH.below hb5).moved hr6 (Bp.swp_perm d p k (by omega) (by omega)) hk6,(hK.trans (Kept.of_below hb5) (fun i _ f => f)).trans hk6 (fun i _ f => f)⟩
    case measure => simp [intOf]; omega
  ·obtain rfl:k = 0:=by omega
   go_wp2
   go_end0
   exact ⟨rfl,d,hd,hp,up_end hi (.inl rfl),hH,hK⟩
def RetB (e:Ending):Prop:=∃ b,e = .returned (.bool b)
set_option maxHeartbeats 4000000 in
set_option maxRecDepth 100000 in
theorem down_any (wb g c N n:Nat) (d0:List Bx) (w:World) (hN:d0.length = N) (hnm:N ≤ 1000000) (hnN:n ≤ N) (h0:HB w wb (.slice (some ⟨g,0,none⟩) N c) d0) (hu:downInv (d0.take n) 0) :
  Calls Tryz.prog 123 #[.iface 120 (.pointer (some ⟨wb,0,none⟩)),.int .i64 0,.int .i64 (n:Int)] w fun e w' => RetB e ∧ ∃ d',d'.length = N ∧ d'.drop n = d0.drop n ∧ (d'.take n).Perm (d0.take n) ∧ isHeap (d'.take n) ∧ HB w' wb (.slice (some ⟨g,0,none⟩) N c) d' ∧ Kept (fun k => k = g) w w':=by
 go_enter Tryz.func123,Tryz.ntmps123
 go_wp2
 go_loopw [7] (fun iv wr => ∃ (k:Nat) (d:List Bx),iv = .int .i64 (k:Int) ∧ k ≤ n ∧ d.length = N ∧ d.drop n = d0.drop n ∧ (d.take n).Perm (d0.take n) ∧ downInv (d.take n) k ∧ HB wr wb (.slice (some ⟨g,0,none⟩) N c) d ∧ Kept (fun k => k = g) w wr) (fun iv _ => n - (intOf iv).toNat)
 case atStart => exact ⟨0,d0,rfl,Nat.zero_le _,hN,rfl,List.Perm.refl _,hu,h0,Kept.refl _ _⟩
 case round =>
  obtain ⟨k,d,rfl,hkn,hd,hdr,hp,hi,hH,hK⟩:=hrel
  rename_i wr
  have hdn:(d.take n).length = n:=by rw [List.length_take]; omega
  have HL:∀ (a b:Nat) (bb:Bool),a < n → b < n → ahd (gt (d.take n) a) (gt (d.take n) b) = bb → ∀ w',Below wr.heap.size wr w' → Calls Tryz.prog 217 #[.slice (some ⟨g,0,none⟩) N c,.int .i64 (a:Int),.int .i64 (b:Int)] w' fun e w'' => e = .returned (.bool bb) ∧ Below w'.heap.size w' w'':=fun a b bb ha hb h w' hw => by
   rw [gt_take ha,gt_take hb] at h
   exact bless_any g c N a b d 0 w' hd (by omega) (hH.row.below hw) (by omega) (by omega) bb h
  have HS:∀ (a b:Nat),a < n → b < n → ∀ w',Below wr.heap.size wr w' → Calls Tryz.prog 218 #[.slice (some ⟨g,0,none⟩) N c,.int .i64 (a:Int),.int .i64 (b:Int)] w' fun e w'' => e = .returned (.tuple #[]) ∧ BrRow w'' 0 (.slice (some ⟨g,0,none⟩) N c) (Bp.swp d a b) ∧ Kept (fun k => k = g) w' w'':=fun a b ha hb w' hw => bswap_any g c N a b d 0 w' hd (by omega) (hH.row.below hw) (by omega) (by omega)
  have HM : Hid (∀ w', Below wr.heap.size wr w' → (method 357 120 (.pointer (some ⟨wb, 0, none⟩)) "Less").run Tryz.prog w' = .ok (217, .slice (some ⟨g, 0, none⟩) N c) w') := fun w' hw => mLess (hH.below hw).head.cell0
  have HMS : Hid (∀ w', Below wr.heap.size wr w' → (method 357 120 (.pointer (some ⟨wb, 0, none⟩)) "Swap").run Tryz.prog w' = .ok (218, .slice (some ⟨g, 0, none⟩) N c) w') := fun w' hw => mSwap (hH.below hw).head.cell0
  have hm:=HM.out wr (Below.refl _ _)
  by_cases k0:2 * k + 1 < n
  ·by_cases k1:2 * k + 2 < n
   ·cases hb1:ahd (gt (d.take n) (2 * k + 2)) (gt (d.take n) (2 * k + 1))
    ·skip
     have hkid:kidC (d.take n) k = 2 * k + 1:=by unfold kidC; rw [hdn]; rw [if_neg (by rw [hb1]; simp)]
     have hpick:=pick_kidC (d:=d.take n) (i:=k) (by omega)
     rw [hkid] at hpick
     have HL1:=HL (2 * k + 2) (2 * k + 1) false (by omega) (by omega) hb1 wr (Below.refl _ _)
     rw [show ((2 * k + 2:Nat):Int) = 2 * (k:Int) + 1 + 1 by omega,show ((2 * k + 1:Nat):Int) = 2 * (k:Int) + 1 by omega] at HL1
     cases hb2:ahd (gt (d.take n) (2 * k + 1)) (gt (d.take n) k)
     ·have HL2:Hid (∀ w',Below wr.heap.size wr w' → _):=HL (2 * k + 1) k false (by omega) (by omega) hb2
      rw [show ((2 * k + 1:Nat):Int) = (2 * (k:Int) + 1) by omega] at HL2
      have HF:=Lib.hid (down_end hi (by rw [hpick,hb2]; rfl))
      clear HL HS hpick hkid hb2 hb1
      go_wp2_with (first | (go_at_call 217; refine HL1.mono ?_; clear HL1; rintro e w5 ⟨rfl,HB5⟩; have hm5:=HM.out w5 HB5) | (go_at_call 217; refine (HL2.out _ HB5).mono ?_; clear HL2; rintro e w6 ⟨rfl,hb6⟩; have HB6:=HB5.trans (hb6.mono HB5.size); have hms:=HMS.out w6 HB6; clear HMS HM))
      go_ret
      exact ⟨⟨_,rfl⟩,d,hd,hdr,hp,HF.out,hH.below HB6,hK.trans (Kept.of_below HB6) (fun i _ f => f)⟩
     ·have HL2:Hid (∀ w',Below wr.heap.size wr w' → _):=HL (2 * k + 1) k true (by omega) (by omega) hb2
      rw [show ((2 * k + 1:Nat):Int) = (2 * (k:Int) + 1) by omega] at HL2
      have HSW:Hid (∀ w',Below wr.heap.size wr w' → _):=HS k (2 * k + 1) (by omega) (by omega)
      rw [show ((2 * k + 1:Nat):Int) = (2 * (k:Int) + 1) by omega] at HSW
      have hst:=(down_step hi (by omega) (by rw [hpick,hb2]; simp only [if_true]; omega)).1
      rw [hpick,hb2,if_pos rfl,← swp_take d k (2 * k + 1) n (by omega) (by omega) (by omega)] at hst
      have HST:=Lib.hid hst
      clear hst
      clear HL HS hpick hkid hb2 hb1
      go_wp2_with (first | (go_at_call 217; refine HL1.mono ?_; clear HL1; rintro e w5 ⟨rfl,HB5⟩; have hm5:=HM.out w5 HB5) | (go_at_call 217; refine (HL2.out _ HB5).mono ?_; clear HL2; rintro e w6 ⟨rfl,hb6⟩; have HB6:=HB5.trans (hb6.mono HB5.size); have hms:=HMS.out w6 HB6; clear HMS HM) | (go_at_call 218; refine (HSW.out _ HB6).mono ?_; clear HSW; rintro e w7 ⟨rfl,hr7,hk7⟩))
      go_roundw
      case rel => exact ⟨2 * k + 1,Bp.swp d k (2 * k + 1),by go_num,by omega,by rw [Bp.swp_length]; exact hd,(swp_drop d k (2 * k + 1) n (by omega) (by omega)).trans hdr,by rw [swp_take d k (2 * k + 1) n (by omega) (by omega) (by omega)]; exact (Bp.swp_perm _ _ _ (by omega) (by omega)).trans hp,HST.out,(hH.below HB6).moved hr7 (Bp.swp_perm d k (2 * k + 1) (by omega) (by omega)) hk7,(hK.trans (Kept.of_below HB6) (fun i _ f => f)).trans hk7 (fun i _ f => f)⟩
      case measure => simp [intOf]; omega
    ·skip
     have hkid:kidC (d.take n) k = 2 * k + 2:=by unfold kidC; rw [hdn]; rw [if_pos ⟨by omega,hb1⟩]
     have hpick:=pick_kidC (d:=d.take n) (i:=k) (by omega)
     rw [hkid] at hpick
     have HL1:=HL (2 * k + 2) (2 * k + 1) true (by omega) (by omega) hb1 wr (Below.refl _ _)
     rw [show ((2 * k + 2:Nat):Int) = 2 * (k:Int) + 1 + 1 by omega,show ((2 * k + 1:Nat):Int) = 2 * (k:Int) + 1 by omega] at HL1
     cases hb2:ahd (gt (d.take n) (2 * k + 2)) (gt (d.take n) k)
     ·have HL2:Hid (∀ w',Below wr.heap.size wr w' → _):=HL (2 * k + 2) k false (by omega) (by omega) hb2
      rw [show ((2 * k + 2:Nat):Int) = (2 * (k:Int) + 1 + 1) by omega] at HL2
      have HF:=Lib.hid (down_end hi (by rw [hpick,hb2]; rfl))
      clear HL HS hpick hkid hb2 hb1
      go_wp2_with (first | (go_at_call 217; refine HL1.mono ?_; clear HL1; rintro e w5 ⟨rfl,HB5⟩; have hm5:=HM.out w5 HB5) | (go_at_call 217; refine (HL2.out _ HB5).mono ?_; clear HL2; rintro e w6 ⟨rfl,hb6⟩; have HB6:=HB5.trans (hb6.mono HB5.size); have hms:=HMS.out w6 HB6; clear HMS HM))
      go_ret
      exact ⟨⟨_,rfl⟩,d,hd,hdr,hp,HF.out,hH.below HB6,hK.trans (Kept.of_below HB6) (fun i _ f => f)⟩
     ·have HL2:Hid (∀ w',Below wr.heap.size wr w' → _):=HL (2 * k + 2) k true (by omega) (by omega) hb2
      rw [show ((2 * k + 2:Nat):Int) = (2 * (k:Int) + 1 + 1) by omega] at HL2
      have HSW:Hid (∀ w',Below wr.heap.size wr w' → _):=HS k (2 * k + 2) (by omega) (by omega)
      rw [show ((2 * k + 2:Nat):Int) = (2 * (k:Int) + 1 + 1) by omega] at HSW
      have hst:=(down_step hi (by omega) (by rw [hpick,hb2]; simp only [if_true]; omega)).1
      rw [hpick,hb2,if_pos rfl,← swp_take d k (2 * k + 2) n (by omega) (by omega) (by omega)] at hst
      have HST:=Lib.hid hst
      clear hst
      clear HL HS hpick hkid hb2 hb1
      go_wp2_with (first | (go_at_call 217; refine HL1.mono ?_; clear HL1; rintro e w5 ⟨rfl,HB5⟩; have hm5:=HM.out w5 HB5) | (go_at_call 217; refine (HL2.out _ HB5).mono ?_; clear HL2; rintro e w6 ⟨rfl,hb6⟩; have HB6:=HB5.trans (hb6.mono HB5.size); have hms:=HMS.out w6 HB6; clear HMS HM) | (go_at_call 218; refine (HSW.out _ HB6).mono ?_; clear HSW; rintro e w7 ⟨rfl,hr7,hk7⟩))
      go_roundw
      case rel => exact ⟨2 * k + 2,Bp.swp d k (2 * k + 2),by go_num,by omega,by rw [Bp.swp_length]; exact hd,(swp_drop d k (2 * k + 2) n (by omega) (by omega)).trans hdr,by rw [swp_take d k (2 * k + 2) n (by omega) (by omega) (by omega)]; exact (Bp.swp_perm _ _ _ (by omega) (by omega)).trans hp,HST.out,(hH.below HB6).moved hr7 (Bp.swp_perm d k (2 * k + 2) (by omega) (by omega)) hk7,(hK.trans (Kept.of_below HB6) (fun i _ f => f)).trans hk7 (fun i _ f => f)⟩
      case measure => simp [intOf]; omega
   ·skip
    have hkid:kidC (d.take n) k = 2 * k + 1:=by unfold kidC; rw [hdn]; rw [if_neg (by omega)]
    have hpick:=pick_kidC (d:=d.take n) (i:=k) (by omega)
    rw [hkid] at hpick
    cases hb2:ahd (gt (d.take n) (2 * k + 1)) (gt (d.take n) k)
    ·have HL2:Hid (∀ w',Below wr.heap.size wr w' → _):=HL (2 * k + 1) k false (by omega) (by omega) hb2
     rw [show ((2 * k + 1:Nat):Int) = (2 * (k:Int) + 1) by omega] at HL2
     have HF:=Lib.hid (down_end hi (by rw [hpick,hb2]; rfl))
     clear HL HS hpick hkid hb2
     have HB5:Below wr.heap.size wr wr:=Below.refl _ _
     go_wp2_with (first | (go_at_call 217; refine (HL2.out _ HB5).mono ?_; clear HL2; rintro e w6 ⟨rfl,hb6⟩; have HB6:=HB5.trans (hb6.mono HB5.size); have hms:=HMS.out w6 HB6; clear HMS HM))
     go_ret
     exact ⟨⟨_,rfl⟩,d,hd,hdr,hp,HF.out,hH.below HB6,hK.trans (Kept.of_below HB6) (fun i _ f => f)⟩
    ·have HL2:Hid (∀ w',Below wr.heap.size wr w' → _):=HL (2 * k + 1) k true (by omega) (by omega) hb2
     rw [show ((2 * k + 1:Nat):Int) = (2 * (k:Int) + 1) by omega] at HL2
     have HSW:Hid (∀ w',Below wr.heap.size wr w' → _):=HS k (2 * k + 1) (by omega) (by omega)
     rw [show ((2 * k + 1:Nat):Int) = (2 * (k:Int) + 1) by omega] at HSW
     have hst:=(down_step hi (by omega) (by rw [hpick,hb2]; simp only [if_true]; omega)).1
     rw [hpick,hb2,if_pos rfl,← swp_take d k (2 * k + 1) n (by omega) (by omega) (by omega)] at hst
     have HST:=Lib.hid hst
     clear hst
     clear HL HS hpick hkid hb2
     have HB5:Below wr.heap.size wr wr:=Below.refl _ _
     go_wp2_with (first | (go_at_call 217; refine (HL2.out _ HB5).mono ?_; clear HL2; rintro e w6 ⟨rfl,hb6⟩; have HB6:=HB5.trans (hb6.mono HB5.size); have hms:=HMS.out w6 HB6; clear HMS HM) | (go_at_call 218; refine (HSW.out _ HB6).mono ?_; clear HSW; rintro e w7 ⟨rfl,hr7,hk7⟩))
     go_roundw
     case rel => exact ⟨2 * k + 1,Bp.swp d k (2 * k + 1),by go_num,by omega,by rw [Bp.swp_length]; exact hd,(swp_drop d k (2 * k + 1) n (by omega) (by omega)).trans hdr,by rw [swp_take d k (2 * k + 1) n (by omega) (by omega) (by omega)]; exact (Bp.swp_perm _ _ _ (by omega) (by omega)).trans hp,HST.out,(hH.below HB6).moved hr7 (Bp.swp_perm d k (2 * k + 1) (by omega) (by omega)) hk7,(hK.trans (Kept.of_below HB6) (fun i _ f => f)).trans hk7 (fun i _ f => f)⟩
     case measure => simp [intOf]; omega
  ·have HF:=Lib.hid (down_end hi (pick_none (by omega)))
   clear HL HS
   go_wp2
   go_ret
   exact ⟨⟨_,rfl⟩,d,hd,hdr,hp,HF.out,hH,hK⟩
end Go.Proofs.YtodcoockhkghdaaGreat
