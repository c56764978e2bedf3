/- Several texts of mine in one: BPush, BPop, BHeap2, BLook. No condition. -/
import Derived.Test.YtodcoockhkghdaaGreatGQ27
import Derived.Test.YtodcoockhkghdaaGreatGQ7
import Derived.Deep.RegionLaw
import Derived.Test.YtodcoockhkghdaaGreatGQ25
namespace Go.Proofs.YtodcoockhkghdaaGreat
open Go.ChangeShapes Go.WideShapes Go.ChangeAt Go.RowKit Go.Sort Bp
set_option linter.unusedSimpArgs false
set_option linter.unusedVariables false
theorem own_posB {w:World} {base:Nat} {e:TypeId} {size n:Nat} {v:Value} {xs:List Value} (h:w.ownsRow base e size v n xs) (hn:0 < n):∃ g c,v = .slice (some ⟨g,0,none⟩) n c ∧ n ≤ c:=by
 rcases h.2 with ⟨rfl,rfl⟩ | ⟨g',cap,cur,rfl,_,_,hc,_⟩
 ·omega
 ·exact ⟨_,_,rfl,hc⟩
def Bx.v (x:Bx):Value:=.agg #[.slice x.A x.n x.c,.int .i64 x.t,.int .i64 (x.r:Int),.slice x.Ab x.nb x.cb]
theorem tass (u:Value) (w:World):(Instr.typeAssert (.iface 122 u) 20 122 true).run Tryz.prog w = .ok (.tuple #[u,.bool true]) w:=by kernel_rfl
set_option maxHeartbeats 4000000 in
set_option maxRecDepth 100000 in
theorem bpush_any (wb:Nat) (v:Value) (d:List Bx) (x:Bx) (w:World) (hsz:d.length < 1000000) (h0:HB w wb v d) (hx:x.ok w) (hxo:x.off wb) (hxv:∀ g,v.ownBlock = some g → x.off g) :
  Calls Tryz.prog 220 #[.pointer (some ⟨wb,0,none⟩),.iface 122 x.v] w fun e w' => e = .returned (.tuple #[]) ∧ ∃ v',HB w' wb v' (d ++ [x]) ∧ Kept (fun k => k = wb ∨ v.ownBlock = some k) w w' ∧ (v'.ownBlock = v.ownBlock ∨ ∃ k,w.heap.size ≤ k ∧ v'.ownBlock = some k):=by
 obtain ⟨i0,hi0,hz0,hz1,hz2⟩:=info_parts infoBr
 have hta:=fun w' => tass (.agg #[.slice x.A x.n x.c,.int .i64 x.t,.int .i64 (x.r:Int),.slice x.Ab x.nb x.cb]) w'
 unfold Bx.v
 have cb:=h0.head.cell0
 have fb:=h0.head.free 0
 have hbl:=h0.head.lt
 go_enter Tryz.func220,Tryz.ntmps220
 go_upto_region 2 with fail
 obtain ⟨wq,hwq⟩:∃ wq,w.alloc (.cells #[.slice x.A x.n x.c,.int .i64 x.t,.int .i64 (x.r:Int),.slice x.Ab x.nb x.cb] 122) = wq:=⟨_,rfl⟩
 have hbq:Below w.heap.size w wq:=hwq ▸ (Below.refl _ w).alloc (Nat.le_refl _) _
 have hq:HB wq wb v d:=h0.below hbq
 have hB:Blok wq w.heap.size 122 #[.slice x.A x.n x.c,.int .i64 x.t,.int .i64 (x.r:Int),.slice x.Ab x.nb x.cb]:=hwq ▸ Blok.new w _ _
 rw [hwq]
 clear hwq cb fb hta
 obtain ⟨b,hb⟩:∃ b,w.heap.size = b:=⟨_,rfl⟩
 rw [hb] at hB hbl hbq ⊢
 have hne0:b ≠ wb:=by omega
 have cb:=hq.head.cell0
 have fb:=hq.head.free 0
 have c0:=hB.cell 0
 have c1:=hB.cell 1
 have c2:=hB.cell 2
 have c3:=hB.cell 3
 have hblq:wb < wq.heap.size:=hq.head.lt
 have hbq2:b < wq.heap.size:=hB.lt
 go_region_law (refine step_append_own rfl (.tmp 15) (.tmp 17) 117 rfl 0 122 i0 _ 4 64 Tryz.underlying117 hi0 hz0 hz1 hz2 rfl (by decide) v d.length (flatBx d) rfl (hq.row.row.alloc _) ⟨wq.heap.size,0,none⟩ 1 1 x.cs rfl rfl (by exact lit_cells _ #[.slice x.A x.n x.c,.int .i64 x.t,.int .i64 (x.r:Int),.slice x.Ab x.nb x.cb] _ _ (by simp)) (by simp [Value.oneCell',Bx.cs]) (by unfold maxLen; omega) (by omega) (by omega) ?_; intro v1 w1 hown1 hg1 hx hwh1; clear hx; obtain ⟨g1,c1,rfl,hc1⟩:=own_posB hown1 (by omega); have hb1:=Blok.over hq.head hg1 (Blok.ne_own hq.row.row hq.head (by decide)) (by (repeat (first | exact Below.refl _ _ | refine Below.alloc ?_ (by first | omega | (simp; done) | (simp; omega)) _ | refine Below.setCell ?_ (by first | omega | (simp; done) | (simp; omega)) _ | refine Below.drew ?_))); have cb1:=hb1.cell0; have fb1:=hb1.free 0; have HW:=Lib.hid hwh1; clear hwh1)
 all_goals
  have K1:Kept (fun k => k = wb ∨ v.ownBlock = some k) wq (w1.setCell ⟨wb,0,none⟩ (.slice (some ⟨g1,0,none⟩) (d.length + 1) c1)):=
   Kept.set (Kept.grow_ (Kept.of_below (by (repeat (first | exact Below.refl _ _ | refine Below.alloc ?_ (by first | omega | (simp; done) | (simp; omega)) _ | refine Below.setCell ?_ (by first | omega | (simp; done) | (simp; omega)) _ | refine Below.drew ?_)))) hg1 (fun i _ h => .inr h)) (fun _ => .inl rfl) _ _
  have HW2:(Value.slice (some ⟨g1,0,none⟩) (d.length + 1) c1).ownBlock = v.ownBlock ∨ ∃ k,wq.heap.size ≤ k ∧ (Value.slice (some ⟨g1,0,none⟩) (d.length + 1) c1).ownBlock = some k:=by
   rcases HW.out with e | e
   ·exact .inl e
   ·refine .inr ⟨_,?_,e⟩
    simp
  have hne:=Blok.ne_own hown1 hb1 (by decide)
  have hnb:wb ≠ g1:=by
   simp only [Value.ownBlock] at hne
   exact fun e => hne (by rw [e])
  have hr:=ownsRow_setCell_other (a:=⟨wb,0,none⟩) hown1 (by simpa using hne) (.slice (some ⟨g1,0,none⟩) (d.length + 1) c1)
  have hh:=one_setCell (u:=.slice (some ⟨g1,0,none⟩) (d.length + 1) c1) hb1
  clear HW hown1 hg1 hb1 cb1 fb1
  generalize w1.setCell ⟨wb,0,none⟩ (.slice (some ⟨g1,0,none⟩) (d.length + 1) c1) = w2 at *
  have hall:∀ y ∈ d ++ [x],y.ok wq ∧ y.off wb ∧ ∀ g,v.ownBlock = some g → y.off g:=by
   intro y hy
   rcases List.mem_append.1 hy with hy | hy
   ·exact ⟨hq.row.ok y hy,hq.off y hy,hq.row.off y hy⟩
   ·simp only [List.mem_singleton] at hy
    subst hy
    exact ⟨hx.below (hb ▸ hbq),hxo,hxv⟩
  have HF:HB w2 wb (.slice (some ⟨g1,0,none⟩) (d.length + 1) c1) (d ++ [x]):=by
   refine ⟨hh,⟨?_,fun y hy => (hall y hy).1.kept K1 (fun g hg => ?_),fun y hy g e => ?_⟩,fun y hy => (hall y hy).2.1⟩
   ·rw [List.length_append,flatBx_append,flatBx_one]; exact hr
   ·rcases hg with rfl | hg
    ·exact (hall y hy).2.1
    ·exact (hall y hy).2.2 g hg
   ·rcases HW2 with e2 | ⟨k,hk,e2⟩
    ·exact (hall y hy).2.2 g (e2.symm.trans e)
    ·rw [e] at e2; simp only [Option.some.injEq] at e2; subst e2
     exact (hall y hy).1.off_new hk
  have KF:Kept (fun k => k = wb ∨ v.ownBlock = some k) w w2:=(Kept.of_below (hb ▸ hbq)).trans K1 (fun i _ h => h)
  have HN:(Value.slice (some ⟨g1,0,none⟩) (d.length + 1) c1).ownBlock = v.ownBlock ∨ ∃ k,w.heap.size ≤ k ∧ (Value.slice (some ⟨g1,0,none⟩) (d.length + 1) c1).ownBlock = some k:=by
   rcases HW2 with e | ⟨k,hk,e⟩
   ·exact .inl e
   ·exact .inr ⟨k,by have:=hbq.size; omega,e⟩
  clear HW2 hne hr hh
  go_wp2
  go_end0
  exact ⟨rfl,_,HF,KF,HN⟩
theorem own_takeB {w:World} {base:Nat} {e:TypeId} {size n m g c:Nat} {xs:List Value} (h:w.ownsRow base e size (.slice (some ⟨g,0,none⟩) n c) n xs) (hm:m ≤ n):w.ownsRow base e size (.slice (some ⟨g,0,none⟩) m c) m (xs.take (m * size)):=by
 have hle:m * size ≤ n * size:=Nat.mul_le_mul_right _ hm
 refine ⟨by rw [List.length_take,h.1]; omega,?_⟩
 rcases h.2 with ⟨h',_⟩ | ⟨g',cap,cur,h',hb,hg,hc,hcm,hs,ht⟩
 ·simp at h'
 ·simp only [Value.slice.injEq,Option.some.injEq,Addr.mk.injEq,and_true,true_and] at h'
  obtain ⟨rfl,rfl⟩:=h'
  refine .inr ⟨g,c,cur,rfl,hb,hg,by omega,hcm,hs,?_⟩
  rw [← ht,List.take_take]
  congr 1
  omega
set_option maxHeartbeats 4000000 in
set_option maxRecDepth 100000 in
theorem bpop_any (wb g c m:Nat) (d:List Bx) (w:World) (hd:d.length = m + 1) (hm:m < 1000000) (h0:HB w wb (.slice (some ⟨g,0,none⟩) (m + 1) c) d) :
  Calls Tryz.prog 219 #[.pointer (some ⟨wb,0,none⟩)] w fun e w' => e = .returned (.iface 122 (gt d m).v) ∧ HB w' wb (.slice (some ⟨g,0,none⟩) m c) (d.take m) ∧ Kept (fun k => k = wb) w w':=by
 have hmd:m < d.length:=by omega
 obtain ⟨x,hx⟩:∃ x,gt d m = x:=⟨_,rfl⟩
 have c0:w.cell? ⟨g,m * 4,none⟩ = some (.slice x.A x.n x.c):=by rw [← hx]; exact BrRow.cell (j:=0) (hd ▸ h0.row) hmd (by omega)
 have c1:w.cell? ⟨g,m * 4 + 1,none⟩ = some (.int .i64 x.t):=by rw [← hx]; exact BrRow.cell (j:=1) (hd ▸ h0.row) hmd (by omega)
 have c2:w.cell? ⟨g,m * 4 + 2,none⟩ = some (.int .i64 (x.r:Int)):=by rw [← hx]; exact BrRow.cell (j:=2) (hd ▸ h0.row) hmd (by omega)
 have c3:w.cell? ⟨g,m * 4 + 3,none⟩ = some (.slice x.Ab x.nb x.cb):=by rw [← hx]; exact BrRow.cell (j:=3) (hd ▸ h0.row) hmd (by omega)
 rw [hx]
 have cb:=h0.head.cell0
 have fb:=h0.head.free 0
 have hl:=h0.head.lt
 have hgl:g < w.heap.size:=(h0.row.row.lt g rfl).2
 have hne:=h0.ne
 have hcap:m + 1 ≤ c:=by
  rcases h0.row.row.2 with ⟨e,_⟩ | ⟨g',cap,cur,e,_,_,hc,_⟩
  ·simp at e
  ·simp only [Value.slice.injEq] at e; omega
 have hfin:∀ w':World,w' = ((w.setCell ⟨wb,0,none⟩ (.slice (some ⟨g,0,none⟩) m c)).alloc (.cells #[.slice x.A x.n x.c,.int .i64 x.t,.int .i64 (x.r:Int),.slice x.Ab x.nb x.cb] 122)) → HB w' wb (.slice (some ⟨g,0,none⟩) m c) (d.take m) ∧ Kept (fun k => k = wb) w w':=by
  rintro w' rfl
  have K1:Kept (fun k => k = wb) w (w.setCell ⟨wb,0,none⟩ (.slice (some ⟨g,0,none⟩) m c)):=Kept.set (Kept.refl (fun k => k = wb) _) (fun _ => rfl) _ _
  have K2:=K1.alloc (.cells #[.slice x.A x.n x.c,.int .i64 x.t,.int .i64 (x.r:Int),.slice x.Ab x.nb x.cb] 122)
  have hrw:=h0.row.row
  rw [hd] at hrw
  have hr:=own_takeB hrw (Nat.le_succ m)
  rw [flatBx_take] at hr
  have hlen:(d.take m).length = m:=by rw [List.length_take]; omega
  refine ⟨⟨?_,⟨?_,fun y hy => (h0.row.ok y (List.mem_of_mem_take hy)).kept K2 (fun g' e => by subst e; exact h0.off y (List.mem_of_mem_take hy)),fun y hy g' e => h0.row.off y (List.mem_of_mem_take hy) g' e⟩,fun y hy => h0.off y (List.mem_of_mem_take hy)⟩,K2⟩
  ·have:=(h0.head.set_ 0 (.slice (some ⟨g,0,none⟩) m c)).alloc (.cells #[.slice x.A x.n x.c,.int .i64 x.t,.int .i64 (x.r:Int),.slice x.Ab x.nb x.cb] 122)
   simpa using this
  ·rw [hlen]
   exact own_keptK hr K2 (fun g' e e2 => by subst e2; simp only [Value.ownBlock,Option.some.injEq] at e; exact hne e.symm)
 have HFIN:=Lib.hid hfin
 clear hx hfin
 unfold Bx.v
 go_enter Tryz.func219,Tryz.ntmps219
 clear h0
 go_wp2
 go_ret
 exact ⟨rfl,HFIN.out _ rfl⟩
set_option maxHeartbeats 1000000 in
set_option maxRecDepth 100000 in
theorem hpush_any (wb:Nat) (v:Value) (d:List Bx) (x:Bx) (w:World) (hsz:d.length < 900000) (h0:HB w wb v d) (hh:isHeap d) (hx:x.ok w) (hxo:x.off wb) (hxv:∀ g,v.ownBlock = some g → x.off g) :
  Calls Tryz.prog 77 #[.iface 120 (.pointer (some ⟨wb,0,none⟩)),.iface 122 x.v] w fun e w' => e = .returned (.tuple #[]) ∧ ∃ v' d',HB w' wb v' d' ∧ d'.Perm (d ++ [x]) ∧ isHeap d' ∧ Kept (fun k => k = wb ∨ v.ownBlock = some k) w w' ∧ (v'.ownBlock = v.ownBlock ∨ ∃ k,w.heap.size ≤ k ∧ v'.ownBlock = some k):=by
 have HP:=Lib.hid (bpush_any wb v d x w (by omega) h0 hx hxo hxv)
 have HU:=Lib.hid (up_start hh x)
 have hm:=mPush wb w
 clear h0 hh hx hxo hxv
 go_enter Tryz.func77,Tryz.ntmps77
 go_wp2_with fail
 refine HP.out.mono ?_
 rintro e w1 ⟨rfl,v1,h1,k1,hn1⟩
 obtain ⟨g1,c1,rfl,hc1⟩:=own_posB h1.row.row (by simp)
 obtain ⟨N,hN⟩:∃ N,(d ++ [x]).length = N:=⟨_,rfl⟩
 have hNe:N = d.length + 1:=by rw [← hN]; simp
 rw [hN] at h1 hn1
 have HN:=Lib.hid hN
 have HNE:=Lib.hid hNe
 have HN1:=Lib.hid hn1
 have hm1:=mLen h1.head.cell0
 have hNp:0 < N:=by omega
 have hNb:N ≤ 900000:=by omega
 clear hm hN hNe hn1 HP
 go_wp2_with fail
 refine (blen_any (some ⟨g1,0,none⟩) N c1 w1).mono ?_
 rintro e w2 ⟨rfl,hw⟩
 obtain rfl:w1 = w2:=hw.symm
 clear hw
 have HU2:upInv (d ++ [x]) (N - 1):=by rw [HNE.out]; exact HU.out
 have HC:=Lib.hid (up_any wb g1 c1 N (N - 1) (d ++ [x]) w1 HN.out (by omega) h1 HU2)
 have hci:((N - 1:Nat):Int) = (N:Int) - 1:=by omega
 rw [hci] at HC
 clear hci HU2 hm1
 go_wp2_with fail
 refine HC.out.mono ?_
 rintro e w3 ⟨rfl,d',hd',hp',hi',h3,k3⟩
 have HK3:Kept (fun k => k = wb ∨ v.ownBlock = some k) w w3:=k1.trans k3 (fun i hi e => by
  subst e
  rcases HN1.out with h | ⟨k,hk,h⟩
  ·right
   rw [← h]; rfl
  ·simp only [Value.ownBlock,Option.some.injEq] at h
   omega)
 go_wp2
 go_end0
 exact ⟨rfl,_,d',h3,hp',hi',HK3,HN1.out⟩
theorem gt_drop {d e:List Bx} {m:Nat} (h:d.drop m = e.drop m):gt d m = gt e m:=by
 have h1:(d.drop m)[0]? = (e.drop m)[0]?:=by rw [h]
 rw [List.getElem?_drop,List.getElem?_drop] at h1
 unfold gt
 rw [List.getD_eq_getElem?_getD,List.getD_eq_getElem?_getD]
 simp only [Nat.add_zero] at h1
 rw [h1]
set_option maxHeartbeats 1000000 in
set_option maxRecDepth 100000 in
theorem hpop_any (wb g c m:Nat) (d:List Bx) (w:World) (hd:d.length = m + 1) (hm:m < 900000) (h0:HB w wb (.slice (some ⟨g,0,none⟩) (m + 1) c) d) (hh:isHeap d) :
  Calls Tryz.prog 78 #[.iface 120 (.pointer (some ⟨wb,0,none⟩))] w fun e w' => e = .returned (.iface 122 (gt d 0).v) ∧ ∃ d',HB w' wb (.slice (some ⟨g,0,none⟩) m c) d' ∧ d'.length = m ∧ (gt d 0 :: d').Perm d ∧ isHeap d' ∧ Kept (fun k => k = wb ∨ k = g) w w':=by
 have hcut:=swp_cut (d:=d) (by omega)
 rw [hd,Nat.add_sub_cancel] at hcut
 have HCUT:=Lib.hid hcut
 have HPM:=Lib.hid (cut_perm (d:=d) (by omega))
 have HDN:=Lib.hid (cut_down hh)
 have HCL:Hid ((cutF d).length = m):=by show _ = _; rw [cut_length,hd]; rfl
 have HD:=Lib.hid hd
 have H0:=Lib.hid h0
 have hm0:=mLen h0.head.cell0
 clear hcut hh hd h0
 go_enter Tryz.func78,Tryz.ntmps78
 go_wp2_with fail
 refine (blen_any (some ⟨g,0,none⟩) (m + 1) c w).mono ?_
 rintro e w0 ⟨rfl,hw⟩
 obtain rfl:w = w0:=hw.symm
 clear hw
 have hm1:=mSwap H0.out.head.cell0
 have HC:=Lib.hid (bswap_any g c (m + 1) 0 m d 0 w HD.out (by omega) H0.out.row (by omega) (by omega))
 have hz0:((0:Nat):Int) = 0:=rfl
 rw [hz0] at HC
 clear hz0 hm0
 go_wp2_with fail
 refine HC.out.mono ?_
 rintro e w1 ⟨rfl,hr1,hk1⟩
 have H1:=H0.out.moved hr1 (Bp.swp_perm d 0 m (by have:=HD.out; omega) (by have:=HD.out; omega)) hk1
 have HC2:=Lib.hid (down_any wb g c (m + 1) m (Bp.swp d 0 m) w1 (by rw [Bp.swp_length]; exact HD.out) (by omega) (Nat.le_succ m) H1 (by rw [HCUT.out.1]; exact HDN.out))
 have HK1:=Lib.hid hk1
 clear hr1 hk1 H1 HC hm1
 go_wp2_with fail
 refine HC2.out.mono ?_
 rintro e w2 ⟨hret,d',hl',hdr',hp',hh',h2,k2⟩
 obtain ⟨bb,rfl⟩:=hret
 have hm2:=mPop wb w2
 have hge:gt d' m = gt d 0:=(gt_drop hdr').trans HCUT.out.2
 have HC3:=Lib.hid (bpop_any wb g c m d' w2 hl' (by omega) h2)
 have HP:=Lib.hid hp'
 have HH:=Lib.hid hh'
 have HK2:=Lib.hid k2
 have HL:=Lib.hid hl'
 have HGE:=Lib.hid hge
 clear hl' hdr' hp' hh' h2 k2 hge HC2
 go_wp2_with fail
 refine HC3.out.mono ?_
 rintro e w3 ⟨rfl,h3,k3⟩
 rw [HGE.out]
 have HF:HB w3 wb (.slice (some ⟨g,0,none⟩) m c) (d'.take m) ∧ (d'.take m).length = m ∧ (gt d 0 :: d'.take m).Perm d ∧ isHeap (d'.take m) ∧ Kept (fun k => k = wb ∨ k = g) w w3:=by
  refine ⟨h3,by rw [List.length_take,HL.out]; omega,?_,HH.out,?_⟩
  ·have h5:=HP.out
   rw [HCUT.out.1] at h5
   exact (List.Perm.cons _ h5).trans HPM.out
  ·have q1:Kept (fun k => k = wb ∨ k = g) w w1:=(Kept.refl (fun k => k = wb ∨ k = g) w).trans HK1.out (fun _ _ h => .inr h)
   exact (q1.trans HK2.out (fun _ _ h => .inr h)).trans k3 (fun _ _ h => .inl h)
 have HFF:=Lib.hid HF
 clear HF h3 k3 hm2
 go_wp2
 go_ret
 exact ⟨rfl,_,HFF.out⟩
end Go.Proofs.YtodcoockhkghdaaGreat
namespace Go.Proofs.YtodcoockhkghdaaGreat
open Go.ChangeShapes Go.WideShapes Go.ChangeAt Go.RowKit Go.Sort Go.Maps Hp Bp
set_option linter.unusedSimpArgs false
set_option linter.unusedVariables false
theorem sproute_o (A:Option Addr) (n c:Nat) (l:List Ed) (Ar:Option Addr) (nr cr:Nat) (root:List Int) (Ab:Option Addr) (nb cb:Nat) (bans:List Int) (f q now size by_:Int) (w:World) (hd:l.length = n) (hn:n ≤ 1000) (hdr:root.length = nr) (hnr:nr ≤ 1000) (hwr:∀ k,k < nr → (Lit.int .i64 (root.getD k 0)).wf = true) (hdb:bans.length = nb) (hnb:nb ≤ 100000) (hwb:∀ k,k < nb → (Lit.int .i64 (bans.getD k 0)).wf = true) (hle:Sl w w.heap.size 8 A n c (flatEd l)) (hlr:Sl w w.heap.size 1 Ar nr cr (root.map (Value.int .i64))) (hlb:Sl w w.heap.size 1 Ab nb cb (bans.map (Value.int .i64)))
  (o:Option (List Hp × Int)) (ho:spurX l root bans f q now size by_ = o) (t:Int) (ht:bestV o = t) (H:List Hp) (hH:bestH o = H) (b:Bool) (hb0:o.isSome = b) :
  Calls Tryz.prog 76 #[.slice A n c,.slice Ar nr cr,.slice Ab nb cb,.int .i64 f,.int .i64 q,.int .i64 now,.int .i64 size,.int .i64 by_] w fun e w' => ∃ Av nv cv,e = .returned (.tuple #[.agg #[.slice Av nv cv,.int .i64 t],.bool b]) ∧ H.length = nv ∧ nv ≤ n ∧ w'.ownsRow w.heap.size 67 3 (.slice Av nv cv) nv (flatHp H) ∧ Below w.heap.size w w':=by
 refine (sproute_any A n c l Ar nr cr root Ab nb cb bans f q now size by_ w hd hn hdr hnr hwr hdb hnb hwb hle hlr hlb o ho t ht H hH b hb0).mono ?_
 rintro e w' ⟨v,rfl,hv,hbw⟩
 obtain ⟨Av,cv,rfl⟩:=slice_of_own hv
 refine ⟨Av,_,cv,rfl,rfl,?_,hv,hbw⟩
 subst hH
 cases o with
 | none => exact Nat.zero_le _
 | some p => rw [← hd]; exact spurX_len ho
def Bx.br (x:Bx):Br:=⟨(x.H,x.t),x.r,x.bans⟩
def Bx.new (B:Nat) (x:Bx):Prop:=(0 < x.n → ∀ ad,x.A = some ad → B ≤ ad.block) ∧ (0 < x.nb → ∀ ad,x.Ab = some ad → B ≤ ad.block)
theorem Bx.new.off {B g:Nat} {x:Bx} (h:x.new B) (hg:g < B):x.off g:=⟨fun hn ad e => by have:=h.1 hn ad e; omega,fun hn ad e => by have:=h.2 hn ad e; omega⟩
structure Boxes (w:World) (bl bf bq bn bs bb:Nat) (A:Option Addr) (n c:Nat) (f q now size by_:Int):Prop where
 l:Blok w bl 47 #[.slice A n c]
 f:Blok w bf 3 #[.int .i64 f]
 q:Blok w bq 3 #[.int .i64 q]
 n:Blok w bn 3 #[.int .i64 now]
 s:Blok w bs 3 #[.int .i64 size]
 b:Blok w bb 3 #[.int .i64 by_]
theorem Boxes.kept {S:Nat → Prop} {w w':World} {bl bf bq bn bs bb:Nat} {A:Option Addr} {n c:Nat} {f q now size by_:Int} (h:Boxes w bl bf bq bn bs bb A n c f q now size by_) (hk:Kept S w w') (h1:¬ S bl) (h2:¬ S bf) (h3:¬ S bq) (h4:¬ S bn) (h5:¬ S bs) (h6:¬ S bb):Boxes w' bl bf bq bn bs bb A n c f q now size by_:=
 ⟨h.l.kept hk h1,h.f.kept hk h2,h.q.kept hk h3,h.n.kept hk h4,h.s.kept hk h5,h.b.kept hk h6⟩
theorem Boxes.below {w w':World} {bl bf bq bn bs bb:Nat} {A:Option Addr} {n c:Nat} {f q now size by_:Int} (h:Boxes w bl bf bq bn bs bb A n c f q now size by_) (hb:Below w.heap.size w w'):Boxes w' bl bf bq bn bs bb A n c f q now size by_:=
 h.kept (S:=fun _ => False) (Kept.of_below hb) id id id id id id
theorem Boxes.apart {w w':World} {wb bl bf bq bn bs bb:Nat} {v:Value} {d:List Bx} {A:Option Addr} {n c:Nat} {f q now size by_:Int} (h:Boxes w bl bf bq bn bs bb A n c f q now size by_) (h0:HB w wb v d) (hk:Kept (fun k => k = wb ∨ v.ownBlock = some k) w w'):Boxes w' bl bf bq bn bs bb A n c f q now size by_:=by
 have key:∀ (g:Nat) (T:TypeId) (cs:Array Value),Blok w g T cs → 117 ≠ T → 122 ≠ T → ¬ (g = wb ∨ v.ownBlock = some g):=fun g T cs hB h1 h2 hc => by
  rcases hc with rfl | hc
  ·have:=h0.head
   unfold Blok at this hB
   rw [hB] at this
   injection this with this
   injection this with _ ht
   exact h1 ht.symm
  ·exact Blok.ne_own h0.row.row hB h2 hc
 exact h.kept hk (key _ _ _ h.l (by decide) (by decide)) (key _ _ _ h.f (by decide) (by decide)) (key _ _ _ h.q (by decide) (by decide)) (key _ _ _ h.n (by decide) (by decide)) (key _ _ _ h.s (by decide) (by decide)) (key _ _ _ h.b (by decide) (by decide))
def PartG (B wb:Nat) (v:Value) (d:List Bx) (add:List Br) (w w':World):Prop:=
 ∃ v' d',HB w' wb v' d' ∧ isHeap d' ∧ (d'.map Bx.br).Perm (add ++ d.map Bx.br) ∧ (∀ x ∈ d',x ∈ d ∨ x.new B) ∧ Kept (fun k => k = wb ∨ v.ownBlock = some k) w w' ∧ (v'.ownBlock = v.ownBlock ∨ ∃ k,w.heap.size ≤ k ∧ v'.ownBlock = some k)
def LookP (B wb:Nat) (v:Value) (d:List Bx) (add:List Br) (w:World) (e:Ending) (w':World):Prop:=e = .returned (.tuple #[]) ∧ PartG B wb v d add w w'
theorem PartG.below {B wb:Nat} {v:Value} {d:List Bx} {add:List Br} {w0 w w':World} (h:PartG B wb v d add w w') (hb:Below w0.heap.size w0 w):PartG B wb v d add w0 w':=by
 obtain ⟨v',d',h1,h2,h3,h4,h5,h6⟩:=h
 refine ⟨v',d',h1,h2,h3,h4,(Kept.of_below hb).trans h5 (fun _ _ h => h),?_⟩
 rcases h6 with h6 | ⟨k,hk,h6⟩
 ·exact .inl h6
 ·exact .inr ⟨k,Nat.le_trans hb.size hk,h6⟩
theorem PartG.none {B wb:Nat} {v:Value} {d:List Bx} {w w':World} (h0:HB w wb v d) (hh:isHeap d) (hb:Below w.heap.size w w'):PartG B wb v d [] w w':=
 ⟨v,d,h0.below hb,hh,List.Perm.refl _,fun x hx => .inl hx,Kept.of_below hb,.inl rfl⟩
theorem PartG.next {B wb:Nat} {v v1:Value} {d d1:List Bx} {P add:List Br} {w w1 w2:World} (hp:(d1.map Bx.br).Perm (P ++ d.map Bx.br)) (hn:∀ x ∈ d1,x ∈ d ∨ x.new B) (hK:Kept (fun k => k = wb ∨ v.ownBlock = some k) w w1) (hv:v1.ownBlock = v.ownBlock ∨ ∃ k,w.heap.size ≤ k ∧ v1.ownBlock = some k) (h:PartG B wb v1 d1 add w1 w2):PartG B wb v d (add ++ P) w w2:=by
 obtain ⟨v',d',h1,h2,h3,h4,h5,h6⟩:=h
 refine ⟨v',d',h1,h2,?_,fun x hx => ?_,hK.trans h5 (fun i hi e => ?_),?_⟩
 ·rw [List.append_assoc]
  exact h3.trans (List.Perm.append_left _ hp)
 ·rcases h4 x hx with h | h
  ·exact hn x h
  ·exact .inr h
 ·rcases e with e | e
  ·exact .inl e
  ·rcases hv with h | ⟨k,hk,h⟩
   ·exact .inr (h.symm.trans e)
   ·rw [e] at h; simp only [Option.some.injEq] at h; omega
 ·rcases h6 with h6 | ⟨k,hk,h6⟩
  ·rcases hv with h | ⟨k,hk,h⟩
   ·exact .inl (h6.trans h)
   ·exact .inr ⟨k,hk,h6.trans h⟩
  ·exact .inr ⟨k,Nat.le_trans hK.size hk,h6⟩
set_option maxHeartbeats 4000000 in
set_option maxRecDepth 100000 in
theorem look_any (bl bf bq bn bs bb wb B:Nat) (A:Option Addr) (n c:Nat) (l:List Ed) (f q now size by_:Int) (v:Value) (d:List Bx) (Ar:Option Addr) (nr cr:Nat) (root:List Int) (Ab:Option Addr) (nb cb:Nat) (bans:List Int) (w:World)
  (hd:l.length = n) (hn:n ≤ 1000) (hdr:root.length = nr) (hnr:nr ≤ 1000) (hwr:∀ k,k < nr → (Lit.int .i64 (root.getD k 0)).wf = true) (hdb:bans.length = nb) (hnb:nb ≤ 100000) (hwb:∀ k,k < nb → (Lit.int .i64 (bans.getD k 0)).wf = true)
  (hBx:Boxes w bl bf bq bn bs bb A n c f q now size by_) (hle:Sl w w.heap.size 8 A n c (flatEd l)) (hlr:Sl w w.heap.size 1 Ar nr cr (root.map (Value.int .i64))) (hlb:Sl w w.heap.size 1 Ab nb cb (bans.map (Value.int .i64)))
  (h0:HB w wb v d) (hh:isHeap d) (hsz:d.length < 900000) (hB:B ≤ w.heap.size) (hbn:0 < nb → ∀ ad,Ab = some ad → B ≤ ad.block ∧ wb ≠ ad.block ∧ v.ownBlock ≠ some ad.block)
  (o:Option (List Hp × Int)) (ho:spurX l root bans f q now size by_ = o) :
  Calls Tryz.prog 75 #[.slice Ar nr cr,.slice Ab nb cb,.pointer (some ⟨bl,0,none⟩),.pointer (some ⟨bf,0,none⟩),.pointer (some ⟨bq,0,none⟩),.pointer (some ⟨bn,0,none⟩),.pointer (some ⟨bs,0,none⟩),.pointer (some ⟨bb,0,none⟩),.pointer (some ⟨wb,0,none⟩)] w (LookP B wb v d (o.map fun p => (⟨p,nr,bans⟩:Br)).toList w):=by
 obtain ⟨t,ht⟩:∃ t,bestV o = t:=⟨_,rfl⟩
 obtain ⟨H,hH⟩:∃ t,bestH o = t:=⟨_,rfl⟩
 obtain ⟨b,hb0⟩:∃ t,o.isSome = t:=⟨_,rfl⟩
 have HC:=Lib.hid (sproute_o A n c l Ar nr cr root Ab nb cb bans f q now size by_ w hd hn hdr hnr hwr hdb hnb hwb hle hlr hlb o ho t ht H hH b hb0)
 have HLB:=Lib.hid hlb
 have HDB:=Lib.hid hdb
 have HT:=Lib.hid ht
 have HH:=Lib.hid hH
 have HB0:=Lib.hid hb0
 have HHB:=Lib.hid h0
 have HHP:=Lib.hid hh
 have HBN:=Lib.hid hbn
 have x0:=hBx.l.cell 0
 have x1:=hBx.f.cell 0
 have x2:=hBx.q.cell 0
 have x3:=hBx.n.cell 0
 have x4:=hBx.s.cell 0
 have x5:=hBx.b.cell 0
 have y0:=hBx.l.lt
 have y1:=hBx.f.lt
 have y2:=hBx.q.lt
 have y3:=hBx.n.lt
 have y4:=hBx.s.lt
 have y5:=hBx.b.lt
 clear hd hdr hwr hdb hwb hBx hle hlr hlb h0 hh hbn ho ht hH hb0
 go_enter Tryz.func75,Tryz.ntmps75
 go_wp2_with fail
 refine HC.out.mono ?_
 rintro e w1 ⟨Av,nv,cv,rfl,hnv,hnvn,hown,hb⟩
 clear x0 x1 x2 x3 x4 x5 y0 y1 y2 y3 y4 y5 HC
 obtain ⟨w2,hw2⟩:∃ z,w1.alloc (.cells #[.slice Av nv cv,.int .i64 t] 31) = z:=⟨_,rfl⟩
 have hb12:Below w1.heap.size w1 w2:=hw2 ▸ (Below.refl _ _).alloc (Nat.le_refl _) _
 have hb2:Below w.heap.size w w2:=hb.trans (hb12.mono hb.size)
 have hX:Blok w2 w1.heap.size 31 #[.slice Av nv cv,.int .i64 t]:=hw2 ▸ Blok.new w1 _ _
 have hown2:=own_belowJ hown hb12
 have h02:=HHB.out.below hb2
 have HNV:=Lib.hid hnv
 have HNW:=Lib.hid (show ∀ g,(Value.slice Av nv cv).ownBlock = some g → w.heap.size ≤ g from fun g e => (hown.lt g e).1)
 clear hnv
 cases b with
 | false =>
  have hon:o = none:=by have h:=HB0.out; cases o with | none => rfl | some p => cases h
  subst hon
  have HB2:=Lib.hid hb2
  have H02:=Lib.hid h02
  have HW2:=Lib.hid hw2
  clear hown hown2 hX hb hb12 hb2 h02 hw2
  go_wp2
  rw [HW2.out]
  go_end0
  exact ⟨rfl,v,d,H02.out,HHP.out,List.Perm.refl _,fun x hx => .inl hx,Kept.of_below HB2.out,.inl rfl⟩
 | true =>
  obtain ⟨p,hp⟩:∃ p,o = some p:=Option.isSome_iff_exists.1 HB0.out
  subst hp
  obtain rfl:p.1 = H:=HH.out
  obtain rfl:p.2 = t:=HT.out
  have hxok:(⟨Av,nv,cv,p.2,nr,Ab,nb,cb,p.1,bans⟩:Bx).ok w2:=⟨HNV.out,by show nv ≤ 1000; omega,Sl.of_own hown2,HDB.out,HLB.out.up hb2⟩
  have hwl:=h02.head.lt
  have hoffh:∀ g,g < w.heap.size → 0 < nv → ∀ ad,Av = some ad → ad.block ≠ g:=fun g hg hp ad e => by
   subst e
   obtain ⟨g',c',e',_⟩:=own_posB hown hp
   simp only [Value.slice.injEq,Option.some.injEq] at e'
   obtain ⟨rfl,_⟩:=e'
   have:=HNW.out g' rfl
   show g' ≠ g
   omega
  have hxo:(⟨Av,nv,cv,p.2,nr,Ab,nb,cb,p.1,bans⟩:Bx).off wb:=⟨hoffh wb HHB.out.head.lt,fun h ad e => fun e2 => (HBN.out h ad e).2.1 e2.symm⟩
  have hxv:∀ g,v.ownBlock = some g → (⟨Av,nv,cv,p.2,nr,Ab,nb,cb,p.1,bans⟩:Bx).off g:=fun g hg => ⟨hoffh g (HHB.out.row.row.lt g hg).2,fun h ad e => fun e2 => (HBN.out h ad e).2.2 (by rw [e2]; exact hg)⟩
  have hxn:(⟨Av,nv,cv,p.2,nr,Ab,nb,cb,p.1,bans⟩:Bx).new B:=⟨fun hp ad e => by
   subst e
   obtain ⟨g',c',e',_⟩:=own_posB hown hp
   simp only [Value.slice.injEq,Option.some.injEq] at e'
   obtain ⟨rfl,_⟩:=e'
   have:=HNW.out g' rfl
   show B ≤ g'
   omega,fun h ad e => (HBN.out h ad e).1⟩
  have HC:=Lib.hid (hpush_any wb v d ⟨Av,nv,cv,p.2,nr,Ab,nb,cb,p.1,bans⟩ w2 hsz h02 HHP.out hxok hxo hxv)
  have z0:w2.cell? ⟨w1.heap.size,0,none⟩ = some (.slice Av nv cv):=hX.cell 0
  have z1:w2.cell? ⟨w1.heap.size,1,none⟩ = some (.int .i64 p.2):=hX.cell 1
  have zl:=hX.lt
  have HB2:=Lib.hid hb2
  have HXN:=Lib.hid hxn
  obtain ⟨xb,hxb⟩:∃ z,w1.heap.size = z:=⟨_,rfl⟩
  have HW2:=Lib.hid hw2
  rw [hxb] at z0 z1 zl
  clear hown hown2 hX hb hb12 hb2 h02 hwl hoffh hxo hxv hxn hxok HHB
  go_upto_region 1 with fail
  clear hxb hw2
  go_wp2_with fail
  clear z0 z1
  refine HC.out.mono ?_
  rintro e w3 ⟨rfl,v',d',h3,hp3,hh3,hk3,hn3⟩
  have hs2:=HB2.out.size
  have HF:LookP B wb v d ((some p).map fun p => (⟨p,nr,bans⟩:Br)).toList w (.returned (.tuple #[])) w3:=by
   refine ⟨rfl,v',d',h3,hh3,?_,fun x hx => ?_,(Kept.of_below HB2.out).trans hk3 (fun _ _ h => h),?_⟩
   ·refine (hp3.map Bx.br).trans ?_
    rw [List.map_append]
    exact List.perm_append_comm
   ·rcases List.mem_append.1 (hp3.mem_iff.1 hx) with h | h
    ·exact .inl h
    ·rw [List.mem_singleton.1 h]; exact .inr HXN.out
   ·rcases hn3 with h | ⟨k,hk,h⟩
    ·exact .inl h
    ·exact .inr ⟨k,by omega,h⟩
  have HFF:=Lib.hid HF
  clear HF h3 hp3 hh3 hk3 hn3
  go_wp2
  go_end0
  exact HFF.out
end Go.Proofs.YtodcoockhkghdaaGreat
