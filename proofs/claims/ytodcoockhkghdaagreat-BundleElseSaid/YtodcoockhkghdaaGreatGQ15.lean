/- Several texts of mine in one: JointT, JointT2, Due, JointTM. No condition. -/
import Derived.Test.YtodcoockhkghdaaGreatGQ12
import Derived.Test.YtodcoockhkghdaaGreatGQ13
import Derived.Test.YtodcoockhkghdaaGreatPath4
import Derived.Test.YtodcoockhkghdaaGreatGQ14
namespace Go.Proofs.YtodcoockhkghdaaGreat
open Go.ChangeShapes Go.WideShapes Go.ChangeAt Go.RowKit Go.Sort Hp
set_option linter.unusedSimpArgs false
set_option linter.unusedVariables false
def rowT (l:List Ed) (k n:Nat):List Int:=((List.range k).filter (fun (i:Nat) => (gEd l i).tn == (n:Int))).map (fun (i:Nat) => (i:Int))
theorem rowT_next (l:List Ed) (k n:Nat):rowT l (k + 1) n = if (gEd l k).tn = (n:Int) then rowT l k n ++ [(k:Int)] else rowT l k n:=by
 unfold rowT
 rw [List.range_succ,List.filter_append,List.map_append]
 by_cases h:(gEd l k).tn = (n:Int)
 ·rw [if_pos h]; simp [h]
 ·rw [if_neg h]; simp [h]
theorem rowT_zero (l:List Ed) (n:Nat):rowT l 0 n = []:=rfl
theorem rowT_len (l:List Ed) (k n:Nat):(rowT l k n).length ≤ k:=by
 unfold rowT
 rw [List.length_map]
 have:=List.length_filter_le (fun i => (gEd l i).tn == (n:Int)) (List.range k)
 simpa using this
structure PlcT (w:World) (base:Nat) (l:List Ed) (k:Nat) (cs:List Value):Prop where
 len:cs.length = 256
 row:∀ n,n < 256 → w.ownsRow base 3 1 (cellP cs n) (rowT l k n).length ((rowT l k n).map (Value.int .i64))
 sep:∀ n m,n < 256 → m < 256 → n ≠ m → (cellP cs n).ownBlock = none ∨ (cellP cs n).ownBlock ≠ (cellP cs m).ownBlock
theorem PlcT.zero (w:World) (base:Nat) (l:List Ed):PlcT w base l 0 (List.replicate 256 (.slice none 0 0)):=by
 have hc:∀ n,n < 256 → cellP (List.replicate 256 (Value.slice none 0 0)) n = .slice none 0 0:=fun n hn => by
  unfold cellP
  rw [List.getD_eq_getElem?_getD,List.getElem?_replicate,if_pos hn]; rfl
 refine ⟨List.length_replicate,fun n hn => ?_,fun n m hn hm _ => ?_⟩
 ·rw [hc n hn,rowT_zero]
  exact World.ownsRow_nil _ _ _ _
 ·rw [hc n hn]; exact .inl rfl
theorem PlcT.below {w w':World} {base:Nat} {l:List Ed} {k:Nat} {cs:List Value} (h:PlcT w base l k cs) (hb:Below w.heap.size w w'):PlcT w' base l k cs:=⟨h.len,fun n hn => own_belowJ (h.row n hn) hb,h.sep⟩
theorem PlcT.put {w W w':World} {base g:Nat} {l:List Ed} {k f:Nat} {v1:Value} {cs:List Value} (h:PlcT w base l k cs) (hf:f < 256) (hfr:(gEd l k).tn = (f:Int)) (hg:g < base) (hw:Below w.heap.size w W) (hgr:W.grownBy w' (cellP cs f).ownBlock)
  (hown:w'.ownsRow base 3 1 v1 ((rowT l k f).length + 1) ((rowT l k f).map (Value.int .i64) ++ [.int .i64 k])) (hbl:v1.ownBlock = (cellP cs f).ownBlock ∨ ∃ b,w.heap.size ≤ b ∧ v1.ownBlock = some b) :
  PlcT (w'.setCell ⟨g,f,none⟩ v1) base l (k + 1) (cs.set f v1):=by
 have hset:∀ {v:Value} {n:Nat} {xs:List Value},w'.ownsRow base 3 1 v n xs → (w'.setCell ⟨g,f,none⟩ v1).ownsRow base 3 1 v n xs:=fun hv => own_low' hv (grown_set (g:=g) w' f v1) hg
 have hl:=h.len
 refine ⟨by rw [List.length_set]; exact h.len,fun n hn => ?_,fun n m hn hm hne => ?_⟩
 ·rw [cellP_set v1 (by omega),rowT_next]
  by_cases e:n = f
  ·subst e
   rw [if_pos rfl,if_pos hfr,List.length_append,List.map_append]
   exact hset hown
  ·rw [if_neg e,if_neg (fun e2 => e (by omega))]
   refine hset ((own_belowJ (h.row n hn) hw).kept hgr ?_)
   rcases h.sep n f hn hf e with h1 | h1
   ·exact .inl h1
   ·exact .inr h1
 ·rw [cellP_set v1 (by omega),cellP_set v1 (by omega)]
  have key:∀ m,m < 256 → m ≠ f → (cellP cs m).ownBlock = none ∨ (cellP cs m).ownBlock ≠ v1.ownBlock:=fun m hm hmf => by
   rcases hbl with h1 | ⟨b,h1,h2⟩
   ·rw [h1]; exact h.sep m f hm hf hmf
   ·cases ho:(cellP cs m).ownBlock with
    | none => exact .inl rfl
    | some q =>
     refine .inr fun e => ?_
     rw [h2] at e
     injection e with e
     have:=((h.row m hm).lt q ho).2
     omega
  by_cases e:n = f
  ·subst e
   rw [if_pos rfl,if_neg (fun e => hne e.symm)]
   rcases key m hm (fun e => hne e.symm) with h1 | h1
   ·by_cases h3:v1.ownBlock = none
    ·exact .inl h3
    ·exact .inr fun e => h3 (by rw [e]; exact h1)
   ·exact .inr fun e => h1 e.symm
  ·rw [if_neg e]
   by_cases e2:m = f
   ·subst e2
    rw [if_pos rfl]
    exact key n hn e
   ·rw [if_neg e2]; exact h.sep n m hn hm hne
theorem zeroPT:Tryz.zeroCells162 = (List.replicate 256 (Value.slice none 0 0)).toArray:=by kernel_rfl
set_option maxHeartbeats 2000000 in
set_option maxRecDepth 100000 in
theorem jto_any (A:Option Addr) (n c:Nat) (l:List Ed) (w:World) (hd:l.length = n) (hn:n ≤ 1000) (hok:∀ k,k < n → 1 ≤ (gEd l k).tn ∧ (gEd l k).tn ≤ 255) (h:Sl w w.heap.size 8 A n c (flatEd l)) :
  Calls Tryz.prog 109 #[.slice A n c] w fun e w' => ∃ cs:List Value,e = .returned (.pointer (some ⟨w.heap.size,0,none⟩)) ∧ Blok w' w.heap.size 162 cs.toArray ∧ PlcT w' (w.heap.size + 1) l n cs ∧ Below w.heap.size w w':=by
 obtain ⟨i0,hi0,hz0,hz1,hz2⟩:=info_parts infoIJ
 have hB:Below w.heap.size w (w.alloc (.cells Tryz.zeroCells162 162)):=(Below.refl _ _).alloc (Nat.le_refl _) _
 have hG:=Blok.new w 162 Tryz.zeroCells162
 have HD:=Lib.hid hd
 have HOK:=Lib.hid hok
 have HL:=Lib.hid (fun w' (hb:Below w.heap.size w w') => h.up hb)
 clear hd hok h
 go_enter Tryz.func109,Tryz.ntmps109
 go_upto_region 2 with fail
 generalize w.alloc (.cells Tryz.zeroCells162 162) = w0 at *
 rw [zeroPT] at hG
 have HG0:=Lib.hid hG
 have HP0:Hid (PlcT w0 (w.heap.size + 1) l 0 (List.replicate 256 (.slice none 0 0))):=PlcT.zero _ _ _
 clear hG
 go_wp2_with fail
 go_loopw [8] (fun iv wr => ∃ (k:Nat) (cs:List Value),iv = .int .i64 k ∧ k ≤ n ∧ Below w.heap.size w wr ∧ Hid (Blok wr w.heap.size 162 cs.toArray) ∧ Hid (PlcT wr (w.heap.size + 1) l k cs)) (fun iv _ => n - (intOf iv).toNat)
 case atStart => exact ⟨0,_,rfl,by omega,hB,HG0,HP0⟩
 case round =>
  clear hB HG0 HP0
  obtain ⟨k,cs,rfl,hk,hB,HG,HP⟩:=hrel
  have hs:=hB.size
  by_cases hkn:k < n
  ·obtain ⟨ad,rfl,hab,c0,c1,c2,c3,c4,c5,c6,c7⟩:=(HL.out _ hB).lst.atEd HD.out hkn
   have hfr:=HOK.out k hkn
   obtain ⟨x,hx⟩:∃ x,gEd l k = x:=⟨_,rfl⟩
   rw [hx] at c0 c1 c2 c3 c4 c5 c6 c7 hfr
   have HX:=Lib.hid hx
   have hX:=Blok.new wr 86 #[.int .i64 x.id,.int .i64 x.fr,.int .i64 x.tn,.int .i64 x.op,.int .i64 x.en,.int .i64 x.ra,.int .i64 x.ow,.int .i64 x.ro]
   have hb:=(Below.refl wr.heap.size wr).alloc (Nat.le_refl _) (.cells #[.int .i64 x.id,.int .i64 x.fr,.int .i64 x.tn,.int .i64 x.op,.int .i64 x.en,.int .i64 x.ra,.int .i64 x.ow,.int .i64 x.ro] 86)
   go_upto_region 5 with fail
   clear c0 c1 c2 c3 c4 c5 c6 c7
   have hG:=HG.out.below hb HG.out.lt
   have hP:=HP.out.below hb
   have hB2:=hB.trans (hb.mono hs)
   clear hb HG HP hB hs hx
   generalize wr.alloc (.cells #[.int .i64 x.id,.int .i64 x.fr,.int .i64 x.tn,.int .i64 x.op,.int .i64 x.en,.int .i64 x.ra,.int .i64 x.ow,.int .i64 x.ro] 86) = w2 at *
   generalize wr.heap.size = bx at *
   obtain ⟨f,hf⟩:∃ f:Nat,x.tn = (f:Int):=⟨x.tn.toNat,by omega⟩
   have HFR:=Lib.hid (show (gEd l k).tn = (f:Int) from by rw [HX.out,hf])
   have hf2:f < 256:=by omega
   have x1:w2.cell? ⟨bx,2,none⟩ = some (.int .i64 (f:Int)):=by rw [← hf]; exact hX.cell 2
   have lt_x:=hX.lt
   have hlen:=hP.len
   obtain ⟨v,hv⟩:∃ v,cellP cs f = v:=⟨_,rfl⟩
   have pg:w2.cell? ⟨w.heap.size,f,none⟩ = some v:=by
    rw [hG.cell f,← hv]
    have:=cellP_at (cs:=cs) (n:=f) (by omega)
    simpa using this
   have fg:=hG.free f
   have lt_g:=hG.lt
   have hrow:=hP.row f hf2
   rw [hv] at hrow
   have hrl:=rowT_len l k f
   have HROW:=Lib.hid hrow
   have HG2:=Lib.hid hG
   have HP2:=Lib.hid hP
   have HV:=Lib.hid hv
   have hs2:=hB2.size
   have hgv:some w.heap.size ≠ v.ownBlock:=fun e => by have:=(HROW.out.lt _ e.symm).1; omega
   have hfI:(f:Int) < 256:=by omega
   have hf0:(0:Int) ≤ (f:Int):=by omega
   have HXB:=Lib.hid hX
   have hxv:=Lib.hid (Blok.ne_own HROW.out hX (by decide))
   have x1h:=Lib.hid x1
   clear hX hf hfr hv hG hP hrow hlen
   go_region_law (refine step_append_own rfl (.tmp 18) (.tmp 20) 44 rfl (w.heap.size + 1) 3 i0 _ 1 8 Tryz.underlying44 hi0 hz0 hz1 hz2 rfl (by decide) v (rowT l k f).length ((rowT l k f).map (Value.int .i64)) rfl (HROW.out.alloc _) ⟨w2.heap.size,0,none⟩ 1 1 [.int .i64 k] rfl rfl (by exact lit_cells _ #[.int .i64 k] _ _ (by simp)) (by simp [Value.oneCell']) (by unfold maxLen; omega) (by omega) (by simp; omega) ?_; intro v1 w1 hown1 hg1 hn1 hl1; clear hn1; obtain ⟨A1,q1,rfl⟩:=slice_of_own hown1; have hb1:=Blok.over HG2.out hg1 (fun e => hgv e.symm) (by (repeat (first | exact Below.refl _ _ | refine Below.alloc ?_ (by first | omega | (simp; done) | (simp; omega)) _ | refine Below.setCell ?_ (by first | omega | (simp; done) | (simp; omega)) _ | refine Below.drew ?_))); have cb1:w1.cell? ⟨w.heap.size,f,none⟩ = some v:=(hb1.cell f).trans ((HG2.out.cell f).symm.trans pg); have hbx:=Blok.over HXB.out hg1 hxv.out (by (repeat (first | exact Below.refl _ _ | refine Below.alloc ?_ (by first | omega | (simp; done) | (simp; omega)) _ | refine Below.setCell ?_ (by first | omega | (simp; done) | (simp; omega)) _ | refine Below.drew ?_))); have xb1:w1.cell? ⟨bx,2,none⟩ = some (.int .i64 (f:Int)):=(hbx.cell 2).trans ((HXB.out.cell 2).symm.trans x1h.out); have lbx:=hbx.lt; clear hbx; have fb1:=hb1.free f; have lb1:=hb1.lt; have HL1:=Lib.hid hl1; have HO1:=Lib.hid hown1; have HGR:=Lib.hid hg1; have HB1:=Lib.hid hb1; clear hl1 hown1 hg1 hb1)
   all_goals
    have hw:Below w2.heap.size w2 ((w2.alloc (.cells #[.int .i64 k] 3)).drew):=by (repeat (first | exact Below.refl _ _ | refine Below.alloc ?_ (by first | omega | (simp; done) | (simp; omega)) _ | refine Below.setCell ?_ (by first | omega | (simp; done) | (simp; omega)) _ | refine Below.drew ?_))
    have hbl:(Value.slice A1 ((rowT l k f).length + 1) q1).ownBlock = (cellP cs f).ownBlock ∨ ∃ b,w2.heap.size ≤ b ∧ (Value.slice A1 ((rowT l k f).length + 1) q1).ownBlock = some b:=by
     rcases HL1.out with e | e
     ·exact .inl (by rw [HV.out]; exact e)
     ·exact .inr ⟨_,hw.size,e⟩
    have hPN:=PlcT.put (g:=w.heap.size) HP2.out hf2 HFR.out (by omega) hw (by rw [HV.out]; exact HGR.out) HO1.out hbl
    have hGN:Blok (w1.setCell ⟨w.heap.size,f,none⟩ (.slice A1 ((rowT l k f).length + 1) q1)) w.heap.size 162 (cs.set f (.slice A1 ((rowT l k f).length + 1) q1)).toArray:=by
     have h:=HB1.out.set_ f (.slice A1 ((rowT l k f).length + 1) q1)
     simpa using h
    have hB1:Below w.heap.size w w1:=(hB2.trans (hw.mono hs2)).grown HGR.out (Nat.le_trans hs2 hw.size) (fun g hg => by have:=(HROW.out.lt g hg).1; omega)
    have hBN:=hB1.setCell (p:=⟨w.heap.size,f,none⟩) (Nat.le_refl _) (.slice A1 ((rowT l k f).length + 1) q1)
    have HPN:=Lib.hid hPN
    have HGN:=Lib.hid hGN
    clear hPN hGN hB1 hw hbl HGR HO1 HL1 HB1 cb1 xb1 lbx fb1 lb1 pg fg lt_g x1 lt_x hB2
    generalize w1.setCell ⟨w.heap.size,f,none⟩ (.slice A1 ((rowT l k f).length + 1) q1) = wq at *
    go_wp2_with fail
    go_roundw
    case rel => exact ⟨k + 1,cs.set f (.slice A1 ((rowT l k f).length + 1) q1),by go_num,by omega,hBN,HGN,HPN⟩
    case measure => simp [intOf]; omega
  ·obtain rfl:k = n:=by omega
   go_wp2_with fail
   go_ret
   exact ⟨cs,rfl,HG.out,HP.out,hB⟩
end Go.Proofs.YtodcoockhkghdaaGreat
namespace Go.Proofs.YtodcoockhkghdaaGreat
open Go.ChangeShapes Go.WideShapes Go.ChangeAt Go.RowKit Go.Sort Go.Maps Hp
set_option linter.unusedSimpArgs false
set_option linter.unusedVariables false
theorem infoSt:(Tryz.prog.info? 159).map (fun i => (i.zero,i.size,i.bytes)) = some (some (.agg #[.int .i64 0,.int .i64 0]),2,16):=by kernel_rfl
theorem zeroSt (w:World):(zeroValue 160).run Tryz.prog w = .ok (.slice none 0 0) w:=by kernel_rfl
def updP (P:Int → List (Int × Int)) (x:Int) (r:List (Int × Int)):Int → List (Int × Int):=fun y => if y = x then r else P y
def updC (cs:Int → Value) (x:Int) (v:Value):Int → Value:=fun y => if y = x then v else cs y
theorem updP_same (P:Int → List (Int × Int)) (x:Int) (r:List (Int × Int)):updP P x r x = r:=if_pos rfl
theorem updP_ne (P:Int → List (Int × Int)) {x y:Int} (r:List (Int × Int)) (h:y ≠ x):updP P x r y = P y:=if_neg h
theorem updC_same (cs:Int → Value) (x:Int) (v:Value):updC cs x v x = v:=if_pos rfl
theorem updC_ne (cs:Int → Value) {x y:Int} (v:Value) (h:y ≠ x):updC cs x v y = cs y:=if_neg h
def rowsS (P:Int → List (Int × Int)) (cs:Int → Value):Lit → Option Value
 | .int .i64 x => if P x = [] then none else some (cs x)
 | _ => none
structure SM (w:World) (M sb nm:Nat) (P:Int → List (Int × Int)) (cs:Int → Value):Prop where
 map:MapV w 3 sb nm (rowsS P cs)
 row:∀ x,w.ownsRow M 159 2 (cs x) (P x).length (flat2 (P x))
 sep:∀ x y,x ≠ y → (cs x).ownBlock = none ∨ (cs x).ownBlock ≠ (cs y).ownBlock
 nil:∀ x,P x = [] → cs x = .slice none 0 0
 low:M ≤ sb
 mo:∀ x,(cs x).ownBlock ≠ some sb
theorem row_keptS {S:Nat → Prop} {w w':World} {base:Nat} {e:TypeId} {size n:Nat} {v:Value} {xs:List Value} (h:w.ownsRow base e size v n xs) (hk:Kept S w w') (h2:∀ k,v.ownBlock = some k → ¬ S k):w'.ownsRow base e size v n xs:=hk.owns h h2
theorem MapV.keptS {S:Nat → Prop} {w w':World} {k:TypeId} {b n:Nat} {T:Lit → Option Value} (h:MapV w k b n T) (hk:Kept S w w') (h1:¬ S b):MapV w' k b n T:=by
 obtain ⟨D,⟨es,clock,h2,h3⟩,h4⟩:=h
 exact ⟨D,⟨es,clock,(hk.block b (lt_of_block h2) h1).trans h2,h3⟩,h4⟩
section
variable {w w':World} {M sb nm:Nat} {P:Int → List (Int × Int)} {cs:Int → Value}
theorem SM.look (h:SM w M sb nm P cs) {x:Int} (hx:(Lit.int .i64 x).wf = true):(Instr.lookup 155 (.map (some sb)) (.int .i64 x) false).run Tryz.prog w = .ok (cs x) w:=by
 have h1:=MapV.look h.map keyedV Tryz.underlying155 (zeroSt w) (keyI x hx) (isKeyI x)
 rw [h1,show (rowsS P cs (.int .i64 x)).getD (.slice none 0 0) = cs x from by
  show (if P x = [] then none else some (cs x)).getD _ = _
  by_cases e:P x = []
  ·rw [if_pos e,h.nil x e]; rfl
  ·rw [if_neg e]; rfl]
theorem SM.keptS {S:Nat → Prop} (h:SM w M sb nm P cs) (hk:Kept S w w') (h1:¬ S sb) (h2:∀ x k,(cs x).ownBlock = some k → ¬ S k):SM w' M sb nm P cs:=
 ⟨MapV.keptS h.map hk h1,fun x => row_keptS (h.row x) hk (h2 x),h.sep,h.nil,h.low,h.mo⟩
theorem SM.below (h:SM w M sb nm P cs) (hB:Below w.heap.size w w'):SM w' M sb nm P cs:=
 h.keptS (Kept.of_below (S:=fun _ => False) hB) (fun x => x) (fun _ _ _ x => x)
theorem SM.put {W w1 w2:World} {x a b:Int} {v1:Value} {T:Lit → Option Value} (h:SM w M sb nm P cs) (hM:M ≤ w.heap.size) (hw:Below w.heap.size w W) (hg:W.grownBy w1 (cs x).ownBlock)
  (hown:w1.ownsRow M 159 2 v1 ((P x).length + 1) (flat2 (P x) ++ [.int .i64 a,.int .i64 b])) (hbl:v1.ownBlock = (cs x).ownBlock ∨ ∃ k,w.heap.size ≤ k ∧ v1.ownBlock = some k)
  (hmap:MapV w2 3 sb (nm + 1) T) (hT:∀ kl,setS (rowsS P cs) (.int .i64 x) v1 kl = T kl) (hg2:w1.grownBy w2 (some sb)) :
  SM w2 M sb (nm + 1) (updP P x (P x ++ [(a,b)])) (updC cs x v1):=by
 have hsb:=MapV.lt h.map
 have hv1:v1.ownBlock ≠ some sb:=by
  rcases hbl with e | ⟨k,hk,e⟩
  ·rw [e]; exact h.mo x
  ·rw [e]; intro e2; injection e2 with e2; omega
 have hother:∀ y,y ≠ x → (cs y).ownBlock = none ∨ (cs y).ownBlock ≠ v1.ownBlock:=fun y hy => by
  rcases hbl with e | ⟨k,hk,e⟩
  ·rw [e]; exact h.sep y x hy
  ·cases ho:(cs y).ownBlock with
   | none => exact .inl rfl
   | some z =>
    refine .inr fun e2 => ?_
    rw [e] at e2
    injection e2 with e2
    have:=((h.row y).lt z ho).2
    omega
 refine ⟨MapV.congr hmap fun kl => ?_,fun y => ?_,fun y z hyz => ?_,fun y hy => ?_,h.low,fun y => ?_⟩
 ·rw [← hT kl]
  by_cases e:kl = .int .i64 x
  ·subst e
   rw [setS_same]
   show some v1 = if updP P x (P x ++ [(a,b)]) x = [] then none else some (updC cs x v1 x)
   rw [updP_same,updC_same,if_neg (by simp)]
  ·rw [setS_other _ _ e]
   unfold rowsS
   split
   ·rename_i y
    have hy:y ≠ x:=fun h => e (by rw [h])
    rw [updP_ne _ _ hy,updC_ne _ _ hy]
   ·rfl
 ·by_cases e:y = x
  ·subst e
   rw [updP_same,updC_same,List.length_append,flat2_append]
   exact hown.kept hg2 (.inr hv1)
  ·rw [updP_ne _ _ e,updC_ne _ _ e]
   have h1:W.ownsRow M 159 2 (cs y) (P y).length (flat2 (P y)):=own_belowJ (h.row y) hw
   have h2:=h1.kept hg (h.sep y x e)
   exact h2.kept hg2 (.inr (h.mo y))
 ·by_cases e:y = x
  ·subst e
   rw [updC_same,updC_ne _ _ (fun e => hyz e.symm)]
   rcases hother z (fun e => hyz e.symm) with h1 | h1
   ·by_cases h3:v1.ownBlock = none
    ·exact .inl h3
    ·exact .inr fun e => h3 (by rw [e]; exact h1)
   ·exact .inr fun e => h1 e.symm
  ·rw [updC_ne _ _ e]
   by_cases e2:z = x
   ·subst e2
    rw [updC_same]
    exact hother y e
   ·rw [updC_ne _ _ e2]
    exact h.sep y z hyz
 ·by_cases e:y = x
  ·subst e
   rw [updP_same] at hy
   simp at hy
  ·rw [updP_ne _ _ e] at hy
   rw [updC_ne _ _ e]
   exact h.nil y hy
 ·by_cases e:y = x
  ·subst e; rw [updC_same]; exact hv1
  ·rw [updC_ne _ _ e]; exact h.mo y
end
def opn (sh:List Int) (q:Int):Int → Bool:=fun y => y == q || !sh.contains y
structure DC (w0 w1:World) (tb pb ub:Nat) (A:Option Addr) (n c:Nat) (l:List Ed) (ct:List Value) (sh:List Int):Prop where
 pl:∀ w',Below tb w1 w' → PlcT w' (w0.heap.size + 1) l n ct ∧ Blok w' pb 162 ct.toArray
 ed:∀ w',Below tb w1 w' → Sl w' w'.heap.size 8 A n c (flatEd l)
 su:∀ w',Below tb w1 w' → ∃ un,SetW w' ub un (fun y => sh.contains y)
 up:∀ w',Below tb w1 w' → Below w0.heap.size w0 w'
structure TB (w1 w:World) (tb pb ub:Nat) (A:Option Addr) (n c:Nat) (q size:Int) (h sb nm:Nat) (P:Int → List (Int × Int)) (cs:Int → Value) (vf:Value) (F:List Int):Prop where
 box:Blok w tb 157 #[.slice A n c,.pointer (some ⟨pb,0,none⟩),.int .i64 q,.int .i64 size,.map (some ub),.int .i64 h,.map (some sb),vf]
 sm:SM w (tb + 1) sb nm P cs
 fr:w.ownsRow (tb + 1) 3 1 vf F.length (F.map (Value.int .i64))
 fs:∀ x,vf.ownBlock = none ∨ vf.ownBlock ≠ (cs x).ownBlock
 fm:vf.ownBlock ≠ some sb
 bl:Below tb w1 w
def TabH (w0 w:World) (tb:Nat) (A:Option Addr) (n c:Nat) (l:List Ed) (q by_ size:Int) (sh:List Int) (h:Nat):Prop:=
 ∃ (w1:World) (pb ub sb nm:Nat) (ct:List Value) (P:Int → List (Int × Int)) (cs:Int → Value) (vf:Value) (F:List Int),DC w0 w1 tb pb ub A n c l ct sh ∧ TB w1 w tb pb ub A n c q size h sb nm P cs vf F ∧
  Steps P (lateL l size (opn sh q) q by_) h ∧ Cov l size (opn sh q) q (lateL l size (opn sh q) q by_ h) F ∧ (∀ x ∈ F,1 ≤ x ∧ x ≤ 255) ∧ (∀ x ∈ F,(lateL l size (opn sh q) q by_ h x).isSome = true) ∧ F.length ≤ 255 ∧ (∀ x,(P x).length ≤ h + 1) ∧ nm ≤ 1 + 255 * h
theorem TabH.below {w0 w w':World} {tb:Nat} {A:Option Addr} {n c:Nat} {l:List Ed} {q by_ size:Int} {sh:List Int} {h:Nat} (t:TabH w0 w tb A n c l q by_ size sh h) (hB:Below w.heap.size w w'):TabH w0 w' tb A n c l q by_ size sh h:=by
 obtain ⟨w1,pb,ub,sb,nm,ct,P,cs,vf,F,hd,ht,rest⟩:=t
 exact ⟨w1,pb,ub,sb,nm,ct,P,cs,vf,F,hd,⟨ht.box.below hB ht.box.lt,ht.sm.below hB,own_belowJ ht.fr hB,ht.fs,ht.fm,ht.bl.trans (hB.mono (Nat.le_of_lt ht.box.lt))⟩,rest⟩
theorem TabH.up {w0 w:World} {tb:Nat} {A:Option Addr} {n c:Nat} {l:List Ed} {q by_ size:Int} {sh:List Int} {h:Nat} (t:TabH w0 w tb A n c l q by_ size sh h):Below w0.heap.size w0 w:=by
 obtain ⟨w1,pb,ub,sb,nm,ct,P,cs,vf,F,hd,ht,_⟩:=t
 exact hd.up _ ht.bl
section
variable {w1 w w':World} {tb pb ub:Nat} {A:Option Addr} {n c:Nat} {q size:Int} {h sb nm:Nat} {P:Int → List (Int × Int)} {cs:Int → Value} {vf:Value} {F:List Int}
theorem TB.below (t:TB w1 w tb pb ub A n c q size h sb nm P cs vf F) (hB:Below w.heap.size w w'):TB w1 w' tb pb ub A n c q size h sb nm P cs vf F:=
 ⟨t.box.below hB t.box.lt,t.sm.below hB,own_belowJ t.fr hB,t.fs,t.fm,t.bl.trans (hB.mono (Nat.le_of_lt t.box.lt))⟩
end
end Go.Proofs.YtodcoockhkghdaaGreat
namespace Go.Proofs.YtodcoockhkghdaaGreat
open Go.ChangeShapes Go.WideShapes Go.ChangeAt Go.RowKit Go.Sort Hp
set_option linter.unusedSimpArgs false
set_option linter.unusedVariables false
theorem rowT_edges (l:List Ed) (n:Nat):∀ k,k ≤ l.length → (rowT l k n).map (fun i => gEd l i.toNat) = (l.take k).filter (fun e => e.tn == (n:Int))
 | 0,_ => by rw [rowT_zero]; rfl
 | k + 1,h => by
  have ih:=rowT_edges l n k (by omega)
  rw [rowT_next,take_nextEd (by omega),List.filter_append,← ih]
  by_cases e:(gEd l k).tn = (n:Int)
  ·rw [if_pos e,List.map_append,List.filter_cons_of_pos (by simpa using e)]; simp
  ·rw [if_neg e,List.filter_cons_of_neg (by simpa using e)]; simp
structure RowT (l:List Ed) (n:Int) (R:List Int):Prop where
 at_:∀ j,j < R.length → ∃ i:Nat,R.getD j 0 = (i:Int) ∧ i < l.length ∧ (gEd l i).tn = n
 len:R.length = (l.filter (fun e => e.tn == n)).length
 all:∀ e ∈ l,e.tn = n → e ∈ R.map (fun i => gEd l i.toNat)
theorem rowT_of (l:List Ed) (n:Nat):RowT l (n:Int) (rowT l l.length n):=by
 have h:=rowT_edges l n l.length (Nat.le_refl _)
 rw [List.take_length] at h
 refine ⟨fun j hj => ?_,?_,fun e he hf => ?_⟩
 ·have hm:(rowT l l.length n).getD j 0 ∈ rowT l l.length n:=by
   rw [List.getD_eq_getElem?_getD,List.getElem?_eq_getElem hj]; exact List.getElem_mem _
  generalize (rowT l l.length n).getD j 0 = x at hm
  unfold rowT at hm
  obtain ⟨i,hi,rfl⟩:=List.mem_map.1 hm
  obtain ⟨h1,h2⟩:=List.mem_filter.1 hi
  exact ⟨i,rfl,by simpa using h1,by simpa using h2⟩
 ·have:=congrArg List.length h
  rwa [List.length_map] at this
 ·rw [h]
  exact List.mem_filter.2 ⟨he,by simpa using hf⟩
end Go.Proofs.YtodcoockhkghdaaGreat
