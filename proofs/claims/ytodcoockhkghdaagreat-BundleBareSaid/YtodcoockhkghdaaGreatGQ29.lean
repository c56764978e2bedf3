/- Several texts of mine in one: BRoutes, Bundle3. No condition. -/
import Derived.Test.YtodcoockhkghdaaGreatBRoutesM
import Derived.Maps.AppendAt
import Derived.Test.YtodcoockhkghdaaGreatBundle
import Derived.Test.YtodcoockhkghdaaGreatGQ34

/- best.Routes: the first k of all routes, in order. It makes new memory alone. Conditions: up to 500 edges, k up to 800. -/
namespace Go.Proofs.YtodcoockhkghdaaGreat
open Go.ChangeShapes Go.WideShapes Go.ChangeAt Go.RowKit Go.Sort Go.Maps Bp
set_option linter.unusedSimpArgs false
set_option linter.unusedVariables false
def RoutesP (w:World) (R:List Rtp) (e:Ending) (w':World):Prop:=∃ v,e = .returned v ∧ RO w' w.heap.size v R ∧ Below w.heap.size w w'
theorem own_apart {w:World} {b b':Nat} {e e':TypeId} {s s' n n':Nat} {v v':Value} {xs xs':List Value} (h:w.ownsRow b e s v n xs) (h':w.ownsRow b' e' s' v' n' xs') (hne:e ≠ e'):∀ g,v.ownBlock = some g → v'.ownBlock ≠ some g:=fun g hg hc => by
 rcases h.2 with ⟨rfl,_⟩ | ⟨g1,_,_,rfl,_,h1,_⟩
 ·cases hg
 ·rcases h'.2 with ⟨rfl,_⟩ | ⟨g2,_,_,rfl,_,h2,_⟩
  ·cases hc
  ·simp only [Value.ownBlock,Option.some.injEq] at hg hc
   subst hg hc
   rw [h1] at h2
   injection h2 with h2
   injection h2 with _ h3
   exact hne h3
/-- The append's world: all but the routes' own row is as it was. -/
theorem HB.keptR {S:Nat → Prop} {w w':World} {wb:Nat} {v:Value} {d:List Bx} (h:HB w wb v d) (hk:Kept S w w') (h1:¬ S wb) (h2:∀ g,v.ownBlock = some g → ¬ S g) (h3:∀ x ∈ d,∀ g,S g → x.off g):HB w' wb v d:=
 ⟨h.head.kept hk h1,h.row.kept hk h3 h2,h.off⟩
set_option maxHeartbeats 8000000 in
set_option maxRecDepth 100000 in
theorem broutes_any (A:Option Addr) (n c:Nat) (l:List Ed) (f q now size by_ k:Int) (w:World) (hd:l.length = n) (hn:n ≤ 500) (hk:k ≤ 800) (hle:Sl w w.heap.size 8 A n c (flatEd l)) :
  Calls Tryz.prog 39 #[.slice A n c,.int .i64 f,.int .i64 q,.int .i64 now,.int .i64 size,.int .i64 by_,.int .i64 k] w (RoutesP w ((allR l f q now size by_).take k.toNat)):=by
 by_cases hk1:k < 1
 ·have hk0:k.toNat = 0:=by omega
  rw [hk0,List.take_zero]
  clear hk0 hd hle
  go_enter Tryz.func39,Tryz.ntmps39
  go_wp2
  go_ret
  exact ⟨_,rfl,RO.nil _ _,by (repeat (first | exact Below.refl _ _ | refine Below.alloc ?_ (by first | omega | (simp; done) | (simp; omega)) _ | refine Below.setCell ?_ (by first | omega | (simp; done) | (simp; omega)) _ | refine Below.drew ?_))⟩
 obtain ⟨km,rfl⟩:∃ km:Nat,k = (km:Int):=⟨k.toNat,by omega⟩
 have hkm1:1 ≤ km:=by omega
 have hkm2:km ≤ 800:=by omega
 rw [Int.toNat_natCast]
 have hk2:decide ((km:Int) < 1) = false:=decide_eq_false hk1
 have hk3:¬ km < 1:=by omega
 clear hk hk1
 have HD:=Lib.hid hd
 have HLE:=Lib.hid (fun w' (hb:Below w.heap.size w w') => hle.up hb)
 have HLB:=Lib.hid (show 0 < n → ∀ ad,A = some ad → ad.block < w.heap.size from fun h0 ad e => hle.off_new h0 e)
 clear hd hle
 obtain ⟨B,hB⟩:∃ z,w.heap.size = z:=⟨_,rfl⟩

 obtain ⟨w1,hw1⟩:∃ z,w.alloc (.cells #[.slice A n c] 47) = z:=⟨_,rfl⟩
 have n0:Blok w1 B 47 #[.slice A n c]:=by have h:=Blok.new w 47 #[.slice A n c]; rw [hw1,hB] at h; exact h
 have s1:w1.heap.size = B + 1:=by rw [← hw1]; simp [hB]
 have hb:Below w.heap.size w w1:=hw1 ▸ (Below.refl _ _).alloc (Nat.le_refl _) _
 obtain ⟨w2,hw2⟩:∃ z,w1.alloc (.cells #[.int .i64 f] 3) = z:=⟨_,rfl⟩
 have n1:Blok w2 (B + 1) 3 #[.int .i64 f]:=by have h:=Blok.new w1 3 #[.int .i64 f]; rw [hw2,s1] at h; exact h
 have s2:w2.heap.size = B + 2:=by rw [← hw2]; simp [s1]
 replace hb:Below w.heap.size w w2:=hw2 ▸ hb.alloc hb.size _
 replace n0:=hw2 ▸ n0.alloc (.cells #[.int .i64 f] 3)
 obtain ⟨w3,hw3⟩:∃ z,w2.alloc (.cells #[.int .i64 q] 3) = z:=⟨_,rfl⟩
 have n2:Blok w3 (B + 2) 3 #[.int .i64 q]:=by have h:=Blok.new w2 3 #[.int .i64 q]; rw [hw3,s2] at h; exact h
 have s3:w3.heap.size = B + 3:=by rw [← hw3]; simp [s2]
 replace hb:Below w.heap.size w w3:=hw3 ▸ hb.alloc hb.size _
 replace n0:=hw3 ▸ n0.alloc (.cells #[.int .i64 q] 3)
 replace n1:=hw3 ▸ n1.alloc (.cells #[.int .i64 q] 3)
 obtain ⟨w4,hw4⟩:∃ z,w3.alloc (.cells #[.int .i64 now] 3) = z:=⟨_,rfl⟩
 have n3:Blok w4 (B + 3) 3 #[.int .i64 now]:=by have h:=Blok.new w3 3 #[.int .i64 now]; rw [hw4,s3] at h; exact h
 have s4:w4.heap.size = B + 4:=by rw [← hw4]; simp [s3]
 replace hb:Below w.heap.size w w4:=hw4 ▸ hb.alloc hb.size _
 replace n0:=hw4 ▸ n0.alloc (.cells #[.int .i64 now] 3)
 replace n1:=hw4 ▸ n1.alloc (.cells #[.int .i64 now] 3)
 replace n2:=hw4 ▸ n2.alloc (.cells #[.int .i64 now] 3)
 obtain ⟨w5,hw5⟩:∃ z,w4.alloc (.cells #[.int .i64 size] 3) = z:=⟨_,rfl⟩
 have n4:Blok w5 (B + 4) 3 #[.int .i64 size]:=by have h:=Blok.new w4 3 #[.int .i64 size]; rw [hw5,s4] at h; exact h
 have s5:w5.heap.size = B + 5:=by rw [← hw5]; simp [s4]
 replace hb:Below w.heap.size w w5:=hw5 ▸ hb.alloc hb.size _
 replace n0:=hw5 ▸ n0.alloc (.cells #[.int .i64 size] 3)
 replace n1:=hw5 ▸ n1.alloc (.cells #[.int .i64 size] 3)
 replace n2:=hw5 ▸ n2.alloc (.cells #[.int .i64 size] 3)
 replace n3:=hw5 ▸ n3.alloc (.cells #[.int .i64 size] 3)
 obtain ⟨w6,hw6⟩:∃ z,w5.alloc (.cells #[.int .i64 by_] 3) = z:=⟨_,rfl⟩
 have n5:Blok w6 (B + 5) 3 #[.int .i64 by_]:=by have h:=Blok.new w5 3 #[.int .i64 by_]; rw [hw6,s5] at h; exact h
 have s6:w6.heap.size = B + 6:=by rw [← hw6]; simp [s5]
 replace hb:Below w.heap.size w w6:=hw6 ▸ hb.alloc hb.size _
 replace n0:=hw6 ▸ n0.alloc (.cells #[.int .i64 by_] 3)
 replace n1:=hw6 ▸ n1.alloc (.cells #[.int .i64 by_] 3)
 replace n2:=hw6 ▸ n2.alloc (.cells #[.int .i64 by_] 3)
 replace n3:=hw6 ▸ n3.alloc (.cells #[.int .i64 by_] 3)
 replace n4:=hw6 ▸ n4.alloc (.cells #[.int .i64 by_] 3)
 obtain ⟨w7,hw7⟩:∃ z,w6.alloc (.cells #[.slice none 0 0] 117) = z:=⟨_,rfl⟩
 have n6:Blok w7 (B + 6) 117 #[.slice none 0 0]:=by have h:=Blok.new w6 117 #[.slice none 0 0]; rw [hw7,s6] at h; exact h
 have s7:w7.heap.size = B + 7:=by rw [← hw7]; simp [s6]
 replace hb:Below w.heap.size w w7:=hw7 ▸ hb.alloc hb.size _
 replace n0:=hw7 ▸ n0.alloc (.cells #[.slice none 0 0] 117)
 replace n1:=hw7 ▸ n1.alloc (.cells #[.slice none 0 0] 117)
 replace n2:=hw7 ▸ n2.alloc (.cells #[.slice none 0 0] 117)
 replace n3:=hw7 ▸ n3.alloc (.cells #[.slice none 0 0] 117)
 replace n4:=hw7 ▸ n4.alloc (.cells #[.slice none 0 0] 117)
 replace n5:=hw7 ▸ n5.alloc (.cells #[.slice none 0 0] 117)
 have HX7:Hid (Boxes w7 B (B + 1) (B + 2) (B + 3) (B + 4) (B + 5) A n c f q now size by_):=⟨n0,n1,n2,n3,n4,n5⟩
 have H07:Hid (HB w7 (B + 6) (.slice none 0 0) []):=⟨n6,⟨World.ownsRow_nil _ _ _ _,fun x hx => (by cases hx),fun x hx => (by cases hx)⟩,fun x hx => (by cases hx)⟩
 have HB7:=Lib.hid hb
 have HBE:=Lib.hid hB
 clear n0 n1 n2 n3 n4 n5 n6 hb
 go_enter Tryz.func39,Tryz.ntmps39
 go_upto_region 5 with fail
 clear hw1 s1 hw2 s2 hw3 s3 hw4 s4 hw5 s5 hw6 s6 hw7 s7 hB
 go_wp2_with fail
 refine (look_any B (B + 1) (B + 2) (B + 3) (B + 4) (B + 5) (B + 6) w.heap.size A n c l f q now size by_ (.slice none 0 0) [] none 0 0 [] none 0 0 [] w7 HD.out (by omega) rfl (by omega) (fun k hk => by omega) rfl (by omega) (fun k hk => by omega) HX7.out (HLE.out _ HB7.out) (Sl.nil0 _ _ _) (Sl.nil0 _ _ _) H07.out (fun j hj h => by simp at h) (by simp) HB7.out.size (fun h => by omega) _ rfl).mono ?_
 rintro e w8 ⟨rfl,hG⟩
 have hwb:w.heap.size ≤ B + 6:=by have:=HBE.out; omega
 have HWB:=Lib.hid hwb
 obtain ⟨v8,d8,hS8⟩:=RoutesS.start hwb HB7.out HX7.out H07.out hkm1 hG
 obtain ⟨wb,hwbe⟩:∃ z,B + 6 = z:=⟨_,rfl⟩
 have HS8:=Lib.hid hS8
 rw [hwbe] at HS8 HWB
 try rw [hwbe]
 clear hG hwb hS8 HX7 H07 HB7 hwbe
 go_wp2_with fail
 go_loopw [17] (fun rv wr => ∃ v L d,RoutesS l f q now size by_ w B (B + 1) (B + 2) (B + 3) (B + 4) (B + 5) wb A n c km wr rv v L d) (fun rv _ => km - lenV rv)
 case atStart => exact ⟨v8,[],d8,HS8.out⟩
 case round =>
  clear HS8 v8 d8 w8
  obtain ⟨v,L,d,hS⟩:=hrel
  rename_i rv
  obtain ⟨Ar,cr,rfl⟩:=slice_of_own hS.row.row
  have hLk:L.length < km:=hS.lt
  by_cases hdd:d = []
  ·subst hdd
   obtain ⟨A',c',rfl⟩:=slice_of_own hS.hb.row.row
   have cb:=hS.hb.head.cell0
   have lb:=hS.hb.head.lt
   have HF:RoutesP w ((allR l f q now size by_).take km) (.returned (.slice Ar L.length cr)) wr:=⟨_,rfl,hS.done,hS.below⟩
   have HFF:=Lib.hid HF
   simp only [List.length_nil] at cb
   clear HF hS
   go_wp2
   go_ret
   exact HFF.out
  ·obtain ⟨m,hm⟩:∃ m,d.length = m + 1:=⟨d.length - 1,by cases d with | nil => exact absurd rfl hdd | cons a b => simp⟩
   obtain ⟨g,cg,rfl,hcap⟩:=own_posB hS.hb.row.row (by omega)
   rw [hm] at hS
   have hd0:0 < d.length:=by omega
   obtain ⟨x,hx⟩:∃ x,gt d 0 = x:=⟨_,rfl⟩
   have hxd:x ∈ d:=hx ▸ gt_mem hd0
   have hrow:BrRow wr 0 (.slice (some ⟨g,0,none⟩) d.length cg) d:=hm ▸ hS.hb.row
   have c0:wr.cell? ⟨g,0,none⟩ = some (.slice x.A x.n x.c):=by have h:=hrow.cell (k:=0) (j:=0) hd0 (by omega); rw [hx] at h; simpa [Bx.cs] using h
   have c1:wr.cell? ⟨g,1,none⟩ = some (.int .i64 x.t):=by have h:=hrow.cell (k:=0) (j:=1) hd0 (by omega); rw [hx] at h; simpa [Bx.cs] using h
   have c2:wr.cell? ⟨g,2,none⟩ = some (.int .i64 (x.r:Int)):=by have h:=hrow.cell (k:=0) (j:=2) hd0 (by omega); rw [hx] at h; simpa [Bx.cs] using h
   have c3:wr.cell? ⟨g,3,none⟩ = some (.slice x.Ab x.nb x.cb):=by have h:=hrow.cell (k:=0) (j:=3) hd0 (by omega); rw [hx] at h; simpa [Bx.cs] using h
   have cb:=hS.hb.head.cell0
   have lb:=hS.hb.head.lt
   have lg:g < wr.heap.size:=(hS.hb.row.row.lt g rfl).2
   have hmb:m < 900000:=by have:=hS.few; omega
   have HM:=Lib.hid hm
   have HXE:=Lib.hid hx
   have HXD:=Lib.hid hxd
   have HS:=Lib.hid hS
   obtain ⟨wA,hwA⟩:∃ z,wr.alloc (.cells #[.slice x.A x.n x.c,.int .i64 x.t,.int .i64 (x.r:Int),.slice x.Ab x.nb x.cb] 122) = z:=⟨_,rfl⟩
   have hbA:Below wr.heap.size wr wA:=hwA ▸ (Below.refl _ _).alloc (Nat.le_refl _) _
   have hXA:Blok wA wr.heap.size 122 #[.slice x.A x.n x.c,.int .i64 x.t,.int .i64 (x.r:Int),.slice x.Ab x.nb x.cb]:=hwA ▸ Blok.new wr _ _
   have HPOP:=Lib.hid (hpop_any wb g cg m d wA hm hmb (hS.hb.below hbA) hS.heap)
   obtain ⟨nb,hnb⟩:∃ z,wr.heap.size = z:=⟨_,rfl⟩
   rw [hnb] at hXA
   have HXA:=Lib.hid hXA
   have HBA:=Lib.hid hbA
   have HNB:=Lib.hid hnb
   clear hrow hm hx hxd hS hbA hXA hdd hd0 hcap
   go_upto_region 9 with fail
   clear c0 c1 c2 c3 cb lb hwA hnb
   go_wp2_with fail
   refine HPOP.out.mono ?_
   rintro e wB ⟨rfl,d',hHB,hl',hp',hh',hK'⟩
   rw [HXE.out] at hp'
   have hlw:=HS.out.hb.head.lt
   have hXB:=HXA.out.kept hK' (fun hc => by have:=HNB.out; rcases hc with h | h <;> omega)
   have hne1:=own_apart HS.out.row.row HS.out.hb.row.row (by decide)
   have hne2:=Blok.ne_own HS.out.row.row HS.out.hb.head (by decide)
   have hrB:RtRow wB w.heap.size (.slice Ar L.length cr) L:=(HS.out.row.below HBA.out).kept hK' (fun y hy g' hg => by
    rcases hg with rfl | rfl
    ·exact HS.out.offw y hy
    ·exact HS.out.offv y hy _ rfl) (fun g' hg hc => by
    rcases hc with rfl | rfl
    ·exact hne2 hg
    ·exact hne1 _ hg rfl)
   have hbB:Below w.heap.size w wB:=below_kept (HS.out.below.trans (HBA.out.mono HS.out.below.size)) (Nat.le_refl _) hK' (fun k hk => by
    rcases hk with rfl | rfl
    ·exact HWB.out
    ·exact HS.out.vnew _ rfl)
   have hxB:=(HS.out.box.below HBA.out).apart (HS.out.hb.below HBA.out) (hK'.trans (S':=fun _ => False) (Kept.refl _ _) (fun _ _ h => h.elim) |> fun (h:Kept (fun k => k = wb ∨ k = g) wA wB) => ⟨h.os,h.tape,h.output,h.size,fun k hk hn => h.block k hk (fun e => hn (by rcases e with e | e; exact .inl e; exact .inr (by rw [e]; rfl)))⟩)
   obtain ⟨i0,hi0,hz0,hz1,hz2⟩:=info_parts infoRh
   have z0:wB.cell? ⟨nb,0,none⟩ = some (.slice x.A x.n x.c):=hXB.cell 0
   have z1:wB.cell? ⟨nb,1,none⟩ = some (.int .i64 x.t):=hXB.cell 1
   have zl:=hXB.lt
   have HRB:=Lib.hid hrB
   have HBB:=Lib.hid hbB
   have HHB:=Lib.hid hHB
   have HXB:=Lib.hid hXB
   have HBXB:=Lib.hid hxB
   have HP:=Lib.hid hp'
   have HHH:=Lib.hid hh'
   have HL':=Lib.hid hl'
   have hlL:L.length ≤ 1000:=by omega
   have hwsB:w.heap.size ≤ wB.heap.size:=hbB.size
   have hxoB:x.ok wB:=((HS.out.hb.row.ok x HXD.out).below HBA.out).kept hK' (fun g' hg => by
    rcases hg with rfl | rfl
    ·exact HS.out.hb.off x HXD.out
    ·exact HS.out.hb.row.off x HXD.out _ rfl)
   have HXO:=Lib.hid hxoB
   clear HPOP hHB hl' hp' hh' hK' hXB hrB hbB hxB hne1 hne2 hlw hxoB
   go_upto_region 11 with (first | (at_builtin; refine wpList_append_own_at _ rfl (.tmp 32) (.tmp 35) 37 rfl w.heap.size 31 i0 _ 2 32 Tryz.underlying37 hi0 hz0 hz1 hz2 rfl (by decide) (.slice Ar L.length cr) L.length (flatRh (hdRx L)) rfl (HRB.out.row.alloc _) ⟨wB.heap.size,0,none⟩ 1 1 [.slice x.A x.n x.c,.int .i64 x.t] rfl rfl (by exact lit_cells _ #[.slice x.A x.n x.c,.int .i64 x.t] _ _ rfl) (by simp [Value.oneCell']) (by unfold maxLen; omega) (by omega) (by simp; omega) ?_; intro v1 wC hown1 hg1 hx1 hat1))
   clear z0 z1 zl hi0 hz0 hz1 hz2 hx1
   have hg1':Kept (fun k => (Value.slice Ar L.length cr).ownBlock = some k) wB wC:=((Kept.refl _ wB).alloc _).grow_ hg1 (fun i _ h => h)
   have hwsC:=hg1'.size
   have hrw:∀ g',(Value.slice Ar L.length cr).ownBlock = some g' → w.heap.size ≤ g':=fun g' hg => (HRB.out.row.lt g' hg).1
   have hnB1:=own_apart HHB.out.row.row HRB.out.row (by decide)
   have hnB2:=Blok.ne_own HRB.out.row HHB.out.head (by decide)
   have hHC:HB wC wb (.slice (some ⟨g,0,none⟩) m cg) d':=HHB.out.keptR hg1' hnB2 (fun g' hg hc => hnB1 g' hg hc) (fun y hy g' hg => HS.out.offr y (HP.out.mem_iff.1 (List.mem_cons_of_mem _ hy)) g' hg)
   have hbox:∀ (b':Nat) (T:TypeId) (cs:Array Value),Blok wB b' T cs → 31 ≠ T → ¬ (Value.slice Ar L.length cr).ownBlock = some b':=fun b' T cs hb hT => Blok.ne_own HRB.out.row hb hT
   have hxC:Boxes wC B (B + 1) (B + 2) (B + 3) (B + 4) (B + 5) A n c f q now size by_:=HBXB.out.kept hg1' (hbox _ _ _ HBXB.out.l (by decide)) (hbox _ _ _ HBXB.out.f (by decide)) (hbox _ _ _ HBXB.out.q (by decide)) (hbox _ _ _ HBXB.out.n (by decide)) (hbox _ _ _ HBXB.out.s (by decide)) (hbox _ _ _ HBXB.out.b (by decide))
   have hXC:=HXB.out.kept hg1' (hbox _ _ _ HXB.out (by decide))
   have hbC:Below w.heap.size w wC:=below_kept HBB.out (Nat.le_refl _) hg1' hrw
   have hxC':x.ok wC:=HXO.out.kept hg1' (fun g' hg => HS.out.offr x HXD.out g' hg)
   have hfl:flatRh (hdRx (L ++ [x.rx])) = flatRh (hdRx L) ++ [.slice x.A x.n x.c,.int .i64 x.t]:=by
    unfold hdRx
    rw [List.map_append,flatRh_append]
    rfl
   have hLl:(L ++ [x.rx]).length = L.length + 1:=by rw [List.length_append]; rfl
   have hal:∀ g',v1.ownBlock = some g' → (Value.slice Ar L.length cr).ownBlock = some g' ∨ wB.heap.size ≤ g':=fun g' hg => by
    rcases hat1 with h | h
    ·exact .inl (h.symm.trans hg)
    ·rw [h] at hg
     simp only [Option.some.injEq] at hg
     right
     rw [← hg]
     simp
   have hrC:RtRow wC w.heap.size v1 (L ++ [x.rx]):=by
    refine ⟨by rw [hLl,hfl]; exact hown1,fun y hy => ?_,fun y hy g' hg => ?_⟩
    ·rcases List.mem_append.1 hy with hy | hy
     ·exact (HRB.out.ok y hy).keptP hg1' (fun g' hg => HRB.out.off y hy g' hg)
     ·rw [List.mem_singleton.1 hy]; exact hxC'.rx
    ·rcases List.mem_append.1 hy with hy | hy
     ·rcases hal g' hg with h | h
      ·exact HRB.out.off y hy g' h
      ·exact (HRB.out.ok y hy).offP_new h
     ·rw [List.mem_singleton.1 hy]
      rcases hal g' hg with h | h
      ·exact (HS.out.offr x HXD.out g' h).rx
      ·exact HXO.out.rx.offP_new h
   have how:∀ y ∈ L ++ [x.rx],y.offP wb:=fun y hy => by
    rcases List.mem_append.1 hy with hy | hy
    ·exact HS.out.offw y hy
    ·rw [List.mem_singleton.1 hy]; exact (HS.out.hb.off x HXD.out).rx
   have hov:∀ y ∈ L ++ [x.rx],∀ g',(Value.slice (some ⟨g,0,none⟩) m cg).ownBlock = some g' → y.offP g':=fun y hy g' hg => by
    rcases List.mem_append.1 hy with hy | hy
    ·exact HS.out.offv y hy g' hg
    ·rw [List.mem_singleton.1 hy]; exact (HS.out.hb.row.off x HXD.out g' hg).rx
   have hor:∀ y ∈ d',∀ g',v1.ownBlock = some g' → y.off g':=fun y hy g' hg => by
    rcases hal g' hg with h | h
    ·exact HS.out.offr y (HP.out.mem_iff.1 (List.mem_cons_of_mem _ hy)) g' h
    ·exact (HHB.out.row.ok y hy).off_new h
   have hrw1:=Blok.ne_own hrC.row hHC.head (by decide)
   have hrv1:=own_apart hrC.row hHC.row.row (by decide)
   have hdp:0 < d.length:=by have:=HM.out; omega
   have hPX:(gt d 0 :: d').Perm d:=by rw [HXE.out]; exact HP.out
   obtain ⟨g1,c1,rfl,hc1⟩:=own_posB hown1 (by omega)
   have hlI:((L.length:Nat):Int) + 1 = ((L.length + 1:Nat):Int):=by omega
   by_cases hkk:L.length + 1 = km
   ·have HF:RoutesP w ((allR l f q now size by_).take km) (.returned (.slice (some ⟨g1,0,none⟩) (L.length + 1) c1)) wC:=⟨_,rfl,HS.out.full hdp hPX (by rw [HXE.out]; exact hrC) hkk,hbC⟩
    have HFF:=Lib.hid HF
    have e1:(((L.length + 1:Nat):Int) == (km:Int)) = true:=by simp; omega
    have e2:(((L.length:Nat):Int) + 1 == (km:Int)) = true:=by simp; omega
    clear HF hkk hPX hrv1 hrw1 hor hov how hrC hal hLl hfl hxC' hbC hXC hxC hbox hHC hnB1 hnB2 hrw hwsC hg1' hg1 hown1 hat1 hdp hlI hc1
    go_wp2
    go_ret
    exact HFF.out
   ·have hlk2:L.length + 1 < km:=by omega
    have e1:(((L.length + 1:Nat):Int) == (km:Int)) = false:=by simp; omega
    have e2:(((L.length:Nat):Int) + 1 == (km:Int)) = false:=by simp; omega
    have hok:=HS.out.seek.ok x.br (List.mem_map_of_mem HXD.out)
    have hwH:=rtok_wf hok.mem.1
    have hbn:=HS.out.bans x HXD.out
    have hrn:x.r ≤ x.n:=by
     have h:=hok.le
     rw [← HXO.out.hl]
     have e:(idsT x.br.p).length = x.H.length:=by show (x.H.map Hp.id).length = _; rw [List.length_map]
     rw [e] at h
     exact h
    have hnb9:x.nb ≤ 90000:=by have h:=hbn.1; rw [HXO.out.bl] at h; omega
    have hsz9:d'.length + x.n < 900000:=by have h1:=HL'.out; have h2:=HXO.out.hn; have h3:=HS.out.few; have h4:=HM.out; omega
    have hlo9:0 < n → ∀ ad,A = some ad → ad.block ≠ wb ∧ (Value.slice (some ⟨g,0,none⟩) m cg).ownBlock ≠ some ad.block:=fun h0 ad e => by
     have h1:=HLB.out h0 ad e
     refine ⟨by have:=HWB.out; omega,fun hc => ?_⟩
     have:=HS.out.vnew _ hc
     omega
    have HPART:=Lib.hid (part_w B (B + 1) (B + 2) (B + 3) (B + 4) (B + 5) wb A n c l f q now size by_ (.slice (some ⟨g,0,none⟩) m cg) d' x.A x.n x.c x.t x.r x.Ab x.nb x.cb x.H x.bans wC HD.out (by omega) hxC (HLE.out _ hbC) hlo9 hHC HHH.out hsz9 hxC' hrn hwH hbn.2 hnb9)
    have HGO:=Lib.hid (fun wE (hG:PartG wC.heap.size wb (.slice (some ⟨g,0,none⟩) m cg) d' (partsTo l f q now size by_ x.br (x.n - x.r)) wC wE) => HS.out.go (wd:=wC) (we:=wE) (vd:=.slice (some ⟨g,0,none⟩) m cg) HWB.out hn hdp hPX hlk2 hbC hxC hHC (fun g' hg => HS.out.vnew g' hg) (by rw [HXE.out]; exact hrC) hrw1 hrv1 (by rw [HXE.out]; exact how) (by rw [HXE.out]; exact hov) hor (by rw [HXE.out]; exact hG))
    rw [HXE.out] at HGO
    have z0:wC.cell? ⟨nb,0,none⟩ = some (.slice x.A x.n x.c):=hXC.cell 0
    have z1:wC.cell? ⟨nb,1,none⟩ = some (.int .i64 x.t):=hXC.cell 1
    have z2:wC.cell? ⟨nb,2,none⟩ = some (.int .i64 (x.r:Int)):=hXC.cell 2
    have z3:wC.cell? ⟨nb,3,none⟩ = some (.slice x.Ab x.nb x.cb):=hXC.cell 3
    have zl:=hXC.lt
    clear hkk hPX hrv1 hrw1 hor hov how hrC hal hLl hfl hxC' hbC hXC hxC hbox hHC hnB1 hnB2 hrw hwsC hg1' hg1 hown1 hat1 hdp hok hwH hbn hrn hnb9 hsz9 hlo9 hlI hc1
    go_wp2_with fail
    clear z0 z1 z2 z3 zl
    refine HPART.out.mono ?_
    rintro e wE ⟨rfl,hG⟩
    obtain ⟨v2,d2,hS2⟩:=HGO.out wE hG
    have HS2:=Lib.hid hS2
    clear hS2 hG HPART HGO
    go_wp2_with fail
    go_roundw
    case rel => exact ⟨v2,L ++ [x.rx],d2,HS2.out⟩
    case measure => simp [lenV]; omega
/-- The same, its answer spelt as a slice. -/
theorem broutes_v (A:Option Addr) (n c:Nat) (l:List Ed) (f q now size by_ k:Int) (w:World) (hd:l.length = n) (hn:n ≤ 500) (hk:k ≤ 800) (hle:Sl w w.heap.size 8 A n c (flatEd l)) (R:List Rtp) (hR:(allR l f q now size by_).take k.toNat = R) (m:Nat) (hm:R.length = m) :
  Calls Tryz.prog 39 #[.slice A n c,.int .i64 f,.int .i64 q,.int .i64 now,.int .i64 size,.int .i64 by_,.int .i64 k] w fun e w' => ∃ Av cv,e = .returned (.slice Av m cv) ∧ RO w' w.heap.size (.slice Av m cv) R ∧ Below w.heap.size w w':=by
 refine (broutes_any A n c l f q now size by_ k w hd hn hk hle).mono ?_
 rintro e w' ⟨v,rfl,h,hb⟩
 rw [hR] at h
 obtain ⟨Av,cv,rfl⟩:=h.sl
 rw [hm] at h ⊢
 exact ⟨Av,cv,rfl,h,hb⟩
end Go.Proofs.YtodcoockhkghdaaGreat

/- bundle.List: the first routes of a plan with nothing booked. It makes new memory alone. A right plan, up to five hundred contacts. -/
namespace Go.Proofs.YtodcoockhkghdaaGreat
open Go.ChangeShapes Go.WideShapes Go.ChangeAt Go.RowKit Go.Sort Go.Maps Hp Kv
set_option linter.unusedSimpArgs false
set_option linter.unusedVariables false
def ROv (base m:Nat) (R:List Rtp) (w:World) (u:Value):Prop:=∃ Av cv,u = .slice Av m cv ∧ RO w base (.slice Av m cv) R
theorem ROv.up {base m:Nat} {R:List Rtp} {w w':World} {u:Value} (h:ROv base m R w u) (hb:Below w.heap.size w w'):ROv base m R w' u:=by
 obtain ⟨Av,cv,e,h⟩:=h
 exact ⟨Av,cv,e,h.below hb⟩
/-- What is listed: the first so many routes. -/
def liX (ok:Bool) (E:List Ed) (fr tn clk k:Int):List Rtp:=if ok then (allR E fr tn clk 0 1099511627776).take k.toNat else []
set_option maxHeartbeats 16000000 in
set_option maxRecDepth 100000 in
theorem bulist_of (HSORT0:SortEdC) (A1:Option Addr) (n1 c1:Nat) (cs:List Co) (A:Option Addr) (n c:Nat) (rs:List Rg) (clk ver:Int) (fr tn k:Int) (w:World) (hd1:cs.length = n1) (hn1:n1 ≤ 500) (hd:rs.length = n) (hn:n ≤ 1000000) (h1:Sl w w.heap.size 6 A1 n1 c1 (flatCo cs)) (h:Sl w w.heap.size 5 A n c (flatRg rs)) (hc:Kc.rightC cs = true) (hr:Kr.rightB rs = true)
  (ok:Bool) (hok:(nodeB fr && nodeB tn && inB k 1 8) = ok) (R:List Rtp) (hR:liX ok (edgesX rs [] 0 cs) fr tn clk k = R) (m:Nat) (hm:R.length = m) :
  Calls Tryz.prog 13 #[.agg #[.slice A1 n1 c1,.slice A n c,.int .i64 clk,.int .i64 ver],.int .i64 fr,.int .i64 tn,.int .i64 k] w fun e w' => ∃ Av cv,e = .returned (.tuple #[.slice Av m cv,.int .i64 (if ok then 0 else 1)]) ∧ RO w' w.heap.size (.slice Av m cv) R ∧ Below w.heap.size w w':=by
 have hP:=Blok.new w 25 #[.slice A1 n1 c1,.slice A n c,.int .i64 clk,.int .i64 ver]
 have hB:Below w.heap.size w (w.alloc (.cells #[.slice A1 n1 c1,.slice A n c,.int .i64 clk,.int .i64 ver] 25)):=by (repeat (first | exact Below.refl _ _ | refine Below.alloc ?_ (by first | omega | (simp; done) | (simp; omega)) _ | refine Below.setCell ?_ (by first | omega | (simp; done) | (simp; omega)) _ | refine Below.drew ?_))
 have HSORT:=Lib.hid HSORT0
 have HD:=Lib.hid hd
 have HD1:=Lib.hid hd1
 have HL:=Lib.hid (fun w' (hb:Below w.heap.size w w') => h.up hb)
 have HL1:=Lib.hid (fun w' (hb:Below w.heap.size w w') => h1.up hb)
 have HC:=Lib.hid hc
 have HR:=Lib.hid hr
 obtain ⟨nf,hnf⟩:∃ z,nodeB fr = z:=⟨_,rfl⟩
 obtain ⟨nt,hnt⟩:∃ z,nodeB tn = z:=⟨_,rfl⟩
 obtain ⟨nk,hnk⟩:∃ z,inB k 1 8 = z:=⟨_,rfl⟩
 rw [hnf,hnt,hnk] at hok
 have HNF:=Lib.hid hnf
 have HNT:=Lib.hid hnt
 have HNK:=Lib.hid hnk
 have HOK:=Lib.hid hok
 have HRR:=Lib.hid hR
 have HM:=Lib.hid hm
 clear HSORT0 hd hd1 h h1 hc hr hnf hnt hnk hok hR hm
 go_enter Tryz.func13,Tryz.ntmps13
 go_upto_region 1 with fail
 generalize w.alloc (.cells #[.slice A1 n1 c1,.slice A n c,.int .i64 clk,.int .i64 ver] 25) = w4 at *
 obtain ⟨pb,hpb⟩:∃ z,w.heap.size = z:=⟨_,rfl⟩
 rw [hpb] at hP
 try rw [hpb]
 clear hpb
 have HB4:=Lib.hid hB
 have HP4:=Lib.hid hP
 clear hB hP

 go_wp2_with fail
 refine (node_is nf HNF.out w4).mono ?_
 rintro e w' ⟨rfl,rfl⟩
 cases nf with
 | false =>
  have h0:ok = false:=HOK.out.symm
  subst h0
  have h1:R = []:=HRR.out.symm
  subst h1
  have h2:m = 0:=HM.out.symm
  subst h2
  go_wp2_with fail
  refine bodyPost_ret (v:=.tuple #[.slice none 0 0,.int .i64 1]) (by simp [results,Tryz.results13,go_sem]) rfl ?_
  exact ⟨none,0,rfl,RO.nil _ _,HB4.out⟩
 | true =>
  go_wp2_with fail
  refine (node_is nt HNT.out w4).mono ?_
  rintro e w' ⟨rfl,rfl⟩
  cases nt with
  | false =>
   have h0:ok = false:=HOK.out.symm
   subst h0
   have h1:R = []:=HRR.out.symm
   subst h1
   have h2:m = 0:=HM.out.symm
   subst h2
   go_wp2_with fail
   refine bodyPost_ret (v:=.tuple #[.slice none 0 0,.int .i64 1]) (by simp [results,Tryz.results13,go_sem]) rfl ?_
   exact ⟨none,0,rfl,RO.nil _ _,HB4.out⟩
  | true =>
   go_wp2_with fail
   refine (in_is nk HNK.out w4).mono ?_
   rintro e w' ⟨rfl,rfl⟩
   cases nk with
   | false =>
    have h0:ok = false:=HOK.out.symm
    subst h0
    have h1:R = []:=HRR.out.symm
    subst h1
    have h2:m = 0:=HM.out.symm
    subst h2
    go_wp2_with fail
    refine bodyPost_ret (v:=.tuple #[.slice none 0 0,.int .i64 1]) (by simp [results,Tryz.results13,go_sem]) rfl ?_
    exact ⟨none,0,rfl,RO.nil _ _,HB4.out⟩
   | true =>
    have h0:ok = true:=HOK.out.symm
    subst h0
    have hk8:1 ≤ k ∧ k ≤ 8:=of_decide_eq_true HNK.out
    obtain ⟨km,rfl⟩:∃ km:Nat,k = (km:Int):=⟨k.toNat,by omega⟩
    obtain ⟨nE,hnE⟩:∃ z,(edgesX rs [] 0 cs).length = z:=⟨_,rfl⟩
    have hnE2:nE ≤ n1:=by rw [← hnE,← HD1.out]; exact edgesX_len _ _ _ _
    have HNE:=Lib.hid hnE
    obtain ⟨Rk,hRk⟩:∃ z,z = R:=⟨_,rfl⟩
    obtain ⟨mk,hmk⟩:∃ z,z = m:=⟨_,rfl⟩
    have HRK:Hid ((allR (edgesX rs [] 0 cs) fr tn clk 0 1099511627776).take (km:Int).toNat = Rk):=HRR.out.trans hRk.symm
    have HMK:Hid (Rk.length = mk):=by show _ = _; rw [hRk,hmk]; exact HM.out
    subst hRk hmk
    have HUP:Hid (∀ w',Below w4.heap.size w4 w' → Below w.heap.size w w'):=fun w' hb => HB4.out.trans (hb.mono HB4.out.size)
    clear hnE
    go_upto_region 3 with fail

    have hinj:∀ a c:Value,(fun u:Value => u) a = (fun u:Value => u) c → a = c:=fun a c h => by simpa using h
    have HINJ:=Lib.hid hinj
    clear hinj
    refine gen_frame ?_
    intro a0 ha0
    try simp only [List.append]
    refine wp_region_frames rfl (by kernel_rfl) (by kernel_rfl) (fun V x w' => Below w4.heap.size w4 w' ∧ TF [(0,.agg #[.slice A1 n1 c1,.slice A n c,.int .i64 clk,.int .i64 ver]),(2,.int .i64 fr),(3,.int .i64 tn),(4,.pointer (some ⟨pb,2,none⟩)),(5,.int .i64 clk),(6,.int .i64 (km:Int)),(9,.int .i64 0)] V x ∧ (V.getD 1 true = true → V.getD 7 true = false → Fin1 (fun u:Value => u) w4.heap.size 86 8 nE (flatEd (edgesX rs [] 0 cs)) w' (x 1)) ∧ (V.getD 7 true = true → (ROv w4.heap.size mk Rk) w' (x 7)) ∧ (V.getD 8 true = true → x 8 = x 7)) ?_ ?_ ?_
    ·intro x
     refine ⟨(Below.refl _ _).drew,TF.none rfl,?_,?_,?_⟩ <;> exact fun h => by simp at h
    ·intro V x b w' hbq hsz hF i hi hun haf hcl
     obtain ⟨hBw,hT,f1,f7,f8⟩:=hF
     have hbe:b = putAll a0 [some 23,some 24,some 25,some 26,some 27,some 28,some 29,some 30,some 8,some 9] x 0:=hbq
     have hz0:a0.tmps.size = 31:=by rw [ha0]; rfl
     have e1:b.eval (.tmp 1) = .int .i64 fr:=by rw [hbe,eval_out _ _ _ (by decide),ha0]; rfl
     have t1:b.tmps[1]?.getD undef = .int .i64 fr:=by simpa [Act.eval] using e1
     have e2:b.eval (.tmp 2) = .int .i64 tn:=by rw [hbe,eval_out _ _ _ (by decide),ha0]; rfl
     have t2:b.tmps[2]?.getD undef = .int .i64 tn:=by simpa [Act.eval] using e2
     have e3:b.eval (.tmp 3) = .int .i64 (km:Int):=by rw [hbe,eval_out _ _ _ (by decide),ha0]; rfl
     have t3:b.tmps[3]?.getD undef = .int .i64 (km:Int):=by simpa [Act.eval] using e3
     have e4:b.eval (.tmp 4) = .pointer (some ⟨pb,0,none⟩):=by rw [hbe,eval_out _ _ _ (by decide),ha0]; rfl
     have t4:b.tmps[4]?.getD undef = .pointer (some ⟨pb,0,none⟩):=by simpa [Act.eval] using e4
     have evc:∀ v,b.eval (.const v) = v:=fun _ => rfl
     have B0:=Below.refl w'.heap.size w'
     have EI:∀ (k e:Nat),([some 23,some 24,some 25,some 26,some 27,some 28,some 29,some 30,some 8,some 9]:List (Option Tmp))[k]? = some (some e) → e < 31 → b.eval (.tmp e) = x k:=fun k e h1 h2 => by rw [hbe,eval_in _ _ _ k (by decide) h1 (by rw [hz0]; exact h2),Nat.zero_add]
     clear hbq
     have hi':i < 10:=hi
     clear hi
     obtain rfl | rfl | rfl | rfl | rfl | rfl | rfl | rfl | rfl | rfl:i = 0 ∨ i = 1 ∨ i = 2 ∨ i = 3 ∨ i = 4 ∨ i = 5 ∨ i = 6 ∨ i = 7 ∨ i = 8 ∨ i = 9:=by omega
     ·have bq:=HP4.out.below hBw HP4.out.lt
      have n_0:w'.cell? ⟨pb,0,none⟩ = some (.slice A1 n1 c1):=bq.cell 0
      have n_1:w'.cell? ⟨pb,1,none⟩ = some (.slice A n c):=bq.cell 1
      have n_2:w'.cell? ⟨pb,2,none⟩ = some (.int .i64 clk):=bq.cell 2
      have n_3:w'.cell? ⟨pb,3,none⟩ = some (.int .i64 ver):=bq.cell 3
      have lt_n:=bq.lt
      refine wpOp_runs (v:=.agg #[.slice A1 n1 c1,.slice A n c,.int .i64 clk,.int .i64 ver]) rfl rfl (by simp [execOp,go_sem,t4,n_0,n_1,n_2,n_3,lt_n]) ⟨_,_,rfl,rfl,⟨hBw,hT.on 0 rfl rfl,kfD f1 rfl B0,kM (P:=(ROv w4.heap.size mk Rk)) f7 rfl (fun _ h => ROv.up h B0),kfE f8 rfl rfl rfl⟩⟩
     ·have d0:=getD_ft (haf _ rfl ⟨0,.data⟩ (by simp) rfl)
      have e23:=(EI 0 23 rfl (by decide)).trans (hT.get 0 rfl d0)
      have t23:=tev e23
      refine wpOp_of rfl ?_
      refine step_call rfl 40 #[.tmp 23] _ rfl #[.agg #[.slice A1 n1 c1,.slice A n c,.int .i64 clk,.int .i64 ver]] (by simp [e23]) Tryz.func40 rfl rfl ?_
      refine (vbareX_of HSORT.out A1 n1 c1 cs A n c rs clk ver w' HD1.out (by omega) HD.out (by omega) (HL1.out _ (HUP.out _ hBw)) (HL.out _ (HUP.out _ hBw)) HC.out HR.out).mono ?_
      rintro e w'' ⟨v,rfl,hown,hb⟩
      rw [HNE.out] at hown
      exact ⟨_,rfl,_,_,rfl,rfl,⟨hBw.trans (hb.mono hBw.size),hT.off rfl,fun _ _ => by rw [upd_same]; exact ⟨_,rfl,own_down hown hBw.size⟩,kM (P:=(ROv w4.heap.size mk Rk)) f7 rfl (fun _ h => ROv.up h hb),kfE f8 rfl rfl rfl⟩⟩
     ·refine wpOp_runs (v:=.int .i64 fr) rfl rfl (by simp [execOp,go_sem,t1]) ⟨_,_,rfl,rfl,⟨hBw,hT.on 1 rfl rfl,kfD f1 rfl B0,kM (P:=(ROv w4.heap.size mk Rk)) f7 rfl (fun _ h => ROv.up h B0),kfE f8 rfl rfl rfl⟩⟩
     ·refine wpOp_runs (v:=.int .i64 tn) rfl rfl (by simp [execOp,go_sem,t2]) ⟨_,_,rfl,rfl,⟨hBw,hT.on 2 rfl rfl,kfD f1 rfl B0,kM (P:=(ROv w4.heap.size mk Rk)) f7 rfl (fun _ h => ROv.up h B0),kfE f8 rfl rfl rfl⟩⟩
     ·refine wpOp_runs (v:=.pointer (some ⟨pb,2,none⟩)) rfl rfl (by simp [execOp,go_sem,t4]) ⟨_,_,rfl,rfl,⟨hBw,hT.on 3 rfl rfl,kfD f1 rfl B0,kM (P:=(ROv w4.heap.size mk Rk)) f7 rfl (fun _ h => ROv.up h B0),kfE f8 rfl rfl rfl⟩⟩
     ·have d4:=getD_ft (haf _ rfl ⟨4,.data⟩ (by simp) rfl)
      have e27:=(EI 4 27 rfl (by decide)).trans (hT.get 3 rfl d4)
      have t27:=tev e27
      have bq:=HP4.out.below hBw HP4.out.lt
      have n_0:w'.cell? ⟨pb,2,none⟩ = some (.int .i64 clk):=bq.cell 2
      refine wpOp_runs (v:=.int .i64 clk) rfl rfl (by simp [execOp,go_sem,t27,n_0]) ⟨_,_,rfl,rfl,⟨hBw,hT.on 4 rfl rfl,kfD f1 rfl B0,kM (P:=(ROv w4.heap.size mk Rk)) f7 rfl (fun _ h => ROv.up h B0),kfE f8 rfl rfl rfl⟩⟩
     ·refine wpOp_runs (v:=.int .i64 (km:Int)) rfl rfl (by simp [execOp,go_sem,t3]) ⟨_,_,rfl,rfl,⟨hBw,hT.on 5 rfl rfl,kfD f1 rfl B0,kM (P:=(ROv w4.heap.size mk Rk)) f7 rfl (fun _ h => ROv.up h B0),kfE f8 rfl rfl rfl⟩⟩
     ·have d1:=getD_ft (haf _ rfl ⟨1,.data⟩ (by simp) rfl)
      have e24:=EI 1 24 rfl (by decide)
      obtain ⟨m1,me1,mo1⟩:=f1 d1 hun
      rw [me1] at e24
      have t24:=tev e24
      have d2:=getD_ft (haf _ rfl ⟨2,.data⟩ (by simp) rfl)
      have e25:=(EI 2 25 rfl (by decide)).trans (hT.get 1 rfl d2)
      have t25:=tev e25
      have d3:=getD_ft (haf _ rfl ⟨3,.data⟩ (by simp) rfl)
      have e26:=(EI 3 26 rfl (by decide)).trans (hT.get 2 rfl d3)
      have t26:=tev e26
      have d5:=getD_ft (haf _ rfl ⟨5,.data⟩ (by simp) rfl)
      have e28:=(EI 5 28 rfl (by decide)).trans (hT.get 4 rfl d5)
      have t28:=tev e28
      have d6:=getD_ft (haf _ rfl ⟨6,.data⟩ (by simp) rfl)
      have e29:=(EI 6 29 rfl (by decide)).trans (hT.get 5 rfl d6)
      have t29:=tev e29
      obtain ⟨A7,c7,hm7⟩:=slice_of_own mo1
      subst hm7
      refine wpOp_of rfl ?_
      refine step_call rfl 39 #[.tmp 24,.tmp 25,.tmp 26,.tmp 28,.const (.int .i64 0),.const (.int .i64 1099511627776),.tmp 29] _ rfl #[.slice A7 nE c7,.int .i64 fr,.int .i64 tn,.int .i64 clk,.int .i64 0,.int .i64 1099511627776,.int .i64 (km:Int)] (by simp [e24,e25,e26,e28,e29,evc]) Tryz.func39 rfl rfl ?_
      refine (broutes_v A7 nE c7 (edgesX rs [] 0 cs) fr tn clk 0 1099511627776 (km:Int) w' HNE.out (by omega) (by omega) (Sl.of_own mo1) Rk HRK.out mk HMK.out).mono ?_
      rintro e w'' ⟨Av,cv,rfl,hro,hb⟩
      exact ⟨_,rfl,_,_,rfl,rfl,⟨hBw.trans (hb.mono hBw.size),hT.off rfl,kfD f1 rfl hb,fun _ => by rw [upd_same]; exact ⟨_,_,rfl,hro.down hBw.size⟩,fun h => absurd (getD_ft (hcl 8 _ rfl (un_set (i:=7) rfl h) ⟨7,.data⟩ (by simp) rfl)) (by rw [hun]; decide)⟩⟩
     ·have d7:=getD_ft (haf _ rfl ⟨7,.data⟩ (by simp) rfl)
      have e30:=EI 7 30 rfl (by decide)
      have t30:=tev e30
      refine wpOp_runs (v:=x 7) rfl rfl (by simp [execOp,go_sem,t30]) ⟨_,_,rfl,rfl,⟨hBw,hT.off rfl,kfD f1 rfl B0,kM (P:=(ROv w4.heap.size mk Rk)) f7 rfl (fun _ h => ROv.up h B0),fun _ => by rw [upd_same,upd_off x _ rfl]⟩⟩
     ·refine wpOp_runs (v:=.int .i64 0) rfl rfl (by simp [execOp,go_sem]) ⟨_,_,rfl,rfl,⟨hBw,hT.on 6 rfl rfl,kfD f1 rfl B0,kM (P:=(ROv w4.heap.size mk Rk)) f7 rfl (fun _ h => ROv.up h B0),kfE f8 rfl rfl rfl⟩⟩
    intro V x w5 hall hF
    obtain ⟨hBw,hT,f1,f7,f8⟩:=hF
    have hx0:=hT.get 0 rfl (hall 0 (by decide))
    have hx2:=hT.get 1 rfl (hall 2 (by decide))
    have hx3:=hT.get 2 rfl (hall 3 (by decide))
    have hx4:=hT.get 3 rfl (hall 4 (by decide))
    have hx5:=hT.get 4 rfl (hall 5 (by decide))
    have hx6:=hT.get 5 rfl (hall 6 (by decide))
    have hx9:=hT.get 6 rfl (hall 9 (by decide))
    have oF:=f7 (hall 7 (by decide))
    have hx8:x 8 = x 7:=f8 (hall 8 (by decide))
    clear hall f1 f7 f8 hT
    subst ha0
    simp only [List.map_cons,List.map_nil,putAll,hx0,hx2,hx3,hx4,hx5,hx6,hx9,hx8]
    clear hx0 hx2 hx3 hx4 hx5 hx6 hx9 hx8
    go_simp
    obtain ⟨Av,cv,e15,hro⟩:=oF
    have HRO:=Lib.hid (hro.down HB4.out.size)
    have HBW:=Lib.hid (HUP.out _ hBw)
    try simp only [e15]
    clear hro hBw e15
    go_wp2_with fail
    refine bodyPost_ret (v:=.tuple #[.slice Av mk cv,.int .i64 0]) (by simp [results,Tryz.results13,go_sem]) rfl ?_
    exact ⟨_,_,rfl,HRO.out,HBW.out⟩
end Go.Proofs.YtodcoockhkghdaaGreat
