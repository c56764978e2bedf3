/- The document's own plans: List. -/
import Derived.Test.YtolaabllhibkdaaGreatGT
import Derived.Test.YtolaabllhibkdaaGreatGM
namespace Go.Proofs.YtolaabllhibkdaaGreat
open Go.ChangeShapes Go.WideShapes Go.ChangeAt Go.RowKit Go.Sort
set_option linter.unusedSimpArgs false
set_option linter.unusedVariables false
set_option maxHeartbeats 8000000 in
set_option maxRecDepth 100000 in
theorem rplist_any (A1:Option Addr) (n1 c1:Nat) (A:Option Addr) (n c:Nat) (p:Pl) (w:World) (h:PlAt w A1 n1 c1 A n c p) :
  Calls Tryz.prog 21 #[.agg #[.slice A1 n1 c1,.slice A n c,.int .i64 p.clk,.int .i64 p.ver]] w fun e w' => ∃ v,e = .returned v ∧ w'.ownsRow w.heap.size 37 13 v (n + n1) (flatDr (listP p)) ∧ Below w.heap.size w w':=by
 obtain ⟨i0,hi0,hz0,hz1,hz2⟩:=info_parts infoDr
 have hB:Below w.heap.size w (w.alloc (.cells #[.slice A1 n1 c1,.slice A n c,.int .i64 p.clk,.int .i64 p.ver] 25)):=by (repeat (first | exact Below.refl _ _ | refine Below.alloc ?_ (by first | omega | (simp; done) | (simp; omega)) _ | refine Below.setCell ?_ (by first | omega | (simp; done) | (simp; omega)) _ | refine Below.drew ?_))
 have hP:=Blok.new w 25 #[.slice A1 n1 c1,.slice A n c,.int .i64 p.clk,.int .i64 p.ver]
 have HL1:=Lib.hid h.l
 have HL2:=Lib.hid h.l1
 have hb1:=h.b1
 have hb:=h.b
 have H0:=Lib.hid h
 have p1:(w.alloc (.cells #[.slice A1 n1 c1,.slice A n c,.int .i64 p.clk,.int .i64 p.ver] 25)).cell? ⟨w.heap.size,1,none⟩ = some (.slice A n c):=hP.cell 1
 have lt_p:=hP.lt
 have HP:=Lib.hid hP
 have HB:=Lib.hid hB
 have hs0:=hB.size
 clear h hB hP
 go_enter Tryz.func21,Tryz.ntmps21
 go_upto_region 2 with fail
 generalize w.alloc (.cells #[.slice A1 n1 c1,.slice A n c,.int .i64 p.clk,.int .i64 p.ver] 25) = w0 at *
 go_wp2_with fail
 clear p1 lt_p
 go_loopw [3,4] (fun ev iv wr => ∃ (es:List Dr) (m i:Nat),iv = .int .i64 i ∧ i ≤ n ∧ m ≤ i ∧ Hid (es.length = m) ∧ Hid (es = (p.rs.take i).map mkR) ∧ wr.ownsRow (w.heap.size + 1) 37 13 ev m (flatDr es) ∧ Below w.heap.size w wr ∧ Hid (Blok wr w.heap.size 25 #[.slice A1 n1 c1,.slice A n c,.int .i64 p.clk,.int .i64 p.ver])) (fun ev iv _ => n - (intOf iv).toNat)
 case atStart => exact ⟨[],0,0,rfl,by omega,by omega,rfl,rfl,World.ownsRow_nil _ _ _ _,HB.out,HP.out⟩
 case round =>
  clear HP HB hs0
  obtain ⟨es,m,i,rfl,hi,hm,HE,HF,hown,hB,HP⟩:=hrel
  have hs:=hB.size
  obtain ⟨Ae,ce,rfl⟩:=slice_of_own hown
  have hltp:=HP.out.lt
  by_cases hin:i < n
  ·have hl:=H0.out.s.up hB
   obtain ⟨ad,rfl,hab,c0',c1',c2',c3',c4'⟩:=hl.lst.atRg HL1.out hin
   have hin':i < p.rs.length:=by rw [HL1.out]; exact hin
   have hst:=take_snocRg hin'
   obtain ⟨x,hx⟩:∃ x,gRg p.rs i = x:=⟨_,rfl⟩
   rw [hx] at c0' c1' c2' c3' c4' hst
   have HST:=Lib.hid hst
   have p1:wr.cell? ⟨w.heap.size,1,none⟩ = some (.slice (some ad) n c):=HP.out.cell 1
   have lt_p:=HP.out.lt
   clear hx hst hl
   go_wp2_with (first | (at_builtin; refine wpList_append_own _ rfl _ _ 31 rfl (w.heap.size + 1) 37 i0 _ 13 104 Tryz.underlying31 hi0 hz0 hz1 hz2 rfl (by decide) _ _ _ rfl (hown.alloc _) ⟨wr.heap.size,0,none⟩ 1 1 [.int .i64 1,.int .i64 2,.int .i64 0,.int .i64 0,.int .i64 0,.int .i64 0,.int .i64 0,.int .i64 0,.int .i64 x.fr,.int .i64 x.tn,.int .i64 x.st,.int .i64 x.en,.int .i64 x.ow] rfl rfl (by exact lit_cells wr #[.int .i64 1,.int .i64 2,.int .i64 0,.int .i64 0,.int .i64 0,.int .i64 0,.int .i64 0,.int .i64 0,.int .i64 x.fr,.int .i64 x.tn,.int .i64 x.st,.int .i64 x.en,.int .i64 x.ow] _ _ rfl) (by simp [Value.oneCell']) (by unfold maxLen; omega) (by omega) (by simp; omega) ?_; intro v' w3 hown' hgrow3 hnil3; clear hnil3))
   have hbN:Below w.heap.size w w3:=(hB.alloc hs _).grown hgrow3 (by simp; omega) (fun q hq => by have:=(hown.lt q hq).1; omega)
   have hPN:=Lib.hid ((HP.out.alloc (.cells #[.int .i64 1,.int .i64 2,.int .i64 0,.int .i64 0,.int .i64 0,.int .i64 0,.int .i64 0,.int .i64 0,.int .i64 x.fr,.int .i64 x.tn,.int .i64 x.st,.int .i64 x.en,.int .i64 x.ow] 37)).grown hgrow3 (fun e => by have:=(hown.lt w.heap.size e.symm).1; omega))
   have HNX:Hid (es ++ [mkR x] = (p.rs.take (i + 1)).map mkR):=by
    show es ++ [mkR x] = (p.rs.take (i + 1)).map mkR
    rw [HST.out,HF.out]; simp
   clear hgrow3 c0' c1' c2' c3' c4' lt_p p1
   go_roundw
   case rel => exact ⟨es ++ [mkR x],m + 1,i + 1,by go_num,by omega,by omega,by simp [Hid,HE.out],HNX,(by rw [flatDr_append,flatDr_one_]; exact hown'),hbN,hPN⟩
   case measure => simp [intOf]; omega
  ·obtain rfl:n = i:=by omega
   have p1:wr.cell? ⟨w.heap.size,1,none⟩ = some (.slice A n c):=HP.out.cell 1
   have hF2:es = p.rs.map mkR:=by rw [HF.out,List.take_of_length_le (by rw [HL1.out]; omega)]
   have HFX:Hid (es = p.rs.map mkR ++ (p.cs.take 0).map mkC):=by show es = _; rw [hF2]; simp
   have HB:=Lib.hid hB
   have hs0:=hB.size
   have p0:wr.cell? ⟨w.heap.size,0,none⟩ = some (.slice A1 n1 c1):=HP.out.cell 0
   have lt_p:=HP.out.lt
   clear hB hF2 hs
   go_wp2_with fail
   clear p0 p1 lt_p
   go_loopw [3,5] (fun ev iv wr => ∃ (es:List Dr) (m i:Nat),iv = .int .i64 i ∧ i ≤ n1 ∧ m ≤ n + i ∧ Hid (es.length = m) ∧ Hid (es = p.rs.map mkR ++ (p.cs.take i).map mkC) ∧ wr.ownsRow (w.heap.size + 1) 37 13 ev m (flatDr es) ∧ Below w.heap.size w wr ∧ Hid (Blok wr w.heap.size 25 #[.slice A1 n1 c1,.slice A n c,.int .i64 p.clk,.int .i64 p.ver])) (fun ev iv _ => n1 - (intOf iv).toNat)
   case atStart => exact ⟨es,m,0,rfl,by omega,by omega,HE,HFX,hown,HB.out,HP⟩
   case round =>
    clear hown HP HB HE HF HFX hs0
    obtain ⟨es,m,i,rfl,hi,hm,HE,HF,hown,hB,HP⟩:=hrel
    have hs:=hB.size
    obtain ⟨Ae,ce,rfl⟩:=slice_of_own hown
    have hltp:=HP.out.lt
    by_cases hin:i < n1
    ·have hl:=H0.out.s1.up hB
     obtain ⟨ad,rfl,hab,c0',c1',c2',c3',c4',c5'⟩:=hl.lst.atCo HL2.out hin
     have hin':i < p.cs.length:=by rw [HL2.out]; exact hin
     have hst:=take_snocCo hin'
     obtain ⟨x,hx⟩:∃ x,gCo p.cs i = x:=⟨_,rfl⟩
     rw [hx] at c0' c1' c2' c3' c4' c5' hst
     have HST:=Lib.hid hst
     have p0:wr.cell? ⟨w.heap.size,0,none⟩ = some (.slice (some ad) n1 c1):=HP.out.cell 0
     have lt_p:=HP.out.lt
     clear hx hst hl
     go_wp2_with (first | (at_builtin; refine wpList_append_own _ rfl _ _ 31 rfl (w.heap.size + 1) 37 i0 _ 13 104 Tryz.underlying31 hi0 hz0 hz1 hz2 rfl (by decide) _ _ _ rfl (hown.alloc _) ⟨wr.heap.size,0,none⟩ 1 1 [.int .i64 1,.int .i64 1,.int .i64 x.id,.int .i64 x.fr,.int .i64 x.tn,.int .i64 x.st,.int .i64 x.en,.int .i64 x.rt,.int .i64 0,.int .i64 0,.int .i64 0,.int .i64 0,.int .i64 0] rfl rfl (by exact lit_cells wr #[.int .i64 1,.int .i64 1,.int .i64 x.id,.int .i64 x.fr,.int .i64 x.tn,.int .i64 x.st,.int .i64 x.en,.int .i64 x.rt,.int .i64 0,.int .i64 0,.int .i64 0,.int .i64 0,.int .i64 0] _ _ rfl) (by simp [Value.oneCell']) (by unfold maxLen; omega) (by omega) (by simp; omega) ?_; intro v' w3 hown' hgrow3 hnil3; clear hnil3))
     have hbN:Below w.heap.size w w3:=(hB.alloc hs _).grown hgrow3 (by simp; omega) (fun q hq => by have:=(hown.lt q hq).1; omega)
     have hPN:=Lib.hid ((HP.out.alloc (.cells #[.int .i64 1,.int .i64 1,.int .i64 x.id,.int .i64 x.fr,.int .i64 x.tn,.int .i64 x.st,.int .i64 x.en,.int .i64 x.rt,.int .i64 0,.int .i64 0,.int .i64 0,.int .i64 0,.int .i64 0] 37)).grown hgrow3 (fun e => by have:=(hown.lt w.heap.size e.symm).1; omega))
     have HNX:Hid (es ++ [mkC x] = p.rs.map mkR ++ (p.cs.take (i + 1)).map mkC):=by
      show es ++ [mkC x] = p.rs.map mkR ++ (p.cs.take (i + 1)).map mkC
      rw [HST.out,HF.out]; simp
     clear hgrow3 c0' c1' c2' c3' c4' c5' lt_p p0
     go_roundw
     case rel => exact ⟨es ++ [mkC x],m + 1,i + 1,by go_num,by omega,by omega,by simp [Hid,HE.out],HNX,(by rw [flatDr_append,flatDr_one_]; exact hown'),hbN,hPN⟩
     case measure => simp [intOf]; omega
    ·obtain rfl:n1 = i:=by omega
     have hke:es.length = m:=HE.out
     have hcat:es = listP p:=by rw [HF.out,List.take_of_length_le (by rw [HL2.out]; omega)]; rfl
     have hml:m = n + n1:=by rw [← hke,hcat]; unfold listP; simp [HL1.out,HL2.out]
     have HC:=Lib.hid hcat
     have HM:=Lib.hid hml
     clear hcat hml hke
     have p0:wr.cell? ⟨w.heap.size,0,none⟩ = some (.slice A1 n1 c1):=HP.out.cell 0
     have lt_p:=HP.out.lt
     go_wp2_with fail
     go_ret
     exact ⟨_,rfl,by rw [← HC.out,← HM.out]; exact own_down hown (by omega),hB⟩
end Go.Proofs.YtolaabllhibkdaaGreat
