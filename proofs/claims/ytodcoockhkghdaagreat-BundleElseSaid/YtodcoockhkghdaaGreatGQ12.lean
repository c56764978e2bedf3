/- Several texts of mine in one: Joint, Early5, HeapC, SprMem, EarlyMath2, SprMath. No condition. -/
import Derived.Test.YtodcoockhkghdaaGreatGQ14
import Derived.Test.YtodcoockhkghdaaGreatGQ7
import Derived.Test.YtodcoockhkghdaaGreatGQ3
namespace Go.Proofs.YtodcoockhkghdaaGreat
open Go.ChangeShapes Go.WideShapes Go.ChangeAt Go.RowKit Go.Sort Hp
set_option linter.unusedSimpArgs false
set_option linter.unusedVariables false
theorem infoIJ:(Tryz.prog.info? 3).map (fun i => (i.zero,i.size,i.bytes)) = some (some (.int .i64 0),1,8):=by kernel_rfl
def rowI (l:List Ed) (k n:Nat):List Int:=((List.range k).filter (fun (i:Nat) => (gEd l i).fr == (n:Int))).map (fun (i:Nat) => (i:Int))
theorem rowI_next (l:List Ed) (k n:Nat):rowI l (k + 1) n = if (gEd l k).fr = (n:Int) then rowI l k n ++ [(k:Int)] else rowI l k n:=by
 unfold rowI
 rw [List.range_succ,List.filter_append,List.map_append]
 by_cases h:(gEd l k).fr = (n:Int)
 ·rw [if_pos h]; simp [h]
 ·rw [if_neg h]; simp [h]
theorem rowI_zero (l:List Ed) (n:Nat):rowI l 0 n = []:=rfl
theorem rowI_len (l:List Ed) (k n:Nat):(rowI l k n).length ≤ k:=by
 unfold rowI
 rw [List.length_map]
 have:=List.length_filter_le (fun i => (gEd l i).fr == (n:Int)) (List.range k)
 simpa using this
def cellP (cs:List Value) (n:Nat):Value:=cs.getD n (.bool false)
structure Plc (w:World) (base:Nat) (l:List Ed) (k:Nat) (cs:List Value):Prop where
 len:cs.length = 256
 row:∀ n,n < 256 → w.ownsRow base 3 1 (cellP cs n) (rowI l k n).length ((rowI l k n).map (Value.int .i64))
 sep:∀ n m,n < 256 → m < 256 → n ≠ m → (cellP cs n).ownBlock = none ∨ (cellP cs n).ownBlock ≠ (cellP cs m).ownBlock
theorem cellP_at {cs:List Value} {n:Nat} (h:n < cs.length):cs[n]? = some (cellP cs n):=by
 unfold cellP
 rw [List.getD_eq_getElem?_getD,List.getElem?_eq_getElem h]; rfl
theorem cellP_set {cs:List Value} {f n:Nat} (v:Value) (h:f < cs.length):cellP (cs.set f v) n = if n = f then v else cellP cs n:=by
 unfold cellP
 rw [List.getD_eq_getElem?_getD,List.getD_eq_getElem?_getD,List.getElem?_set]
 by_cases e:n = f
 ·subst e; simp [h]
 ·rw [if_neg (fun e2 => e e2.symm),if_neg e]
theorem own_low' {w w':World} {base g:Nat} {e:TypeId} {size n:Nat} {v:Value} {xs:List Value} (h:w.ownsRow base e size v n xs) (hg:w.grownBy w' (some g)) (hb:g < base):w'.ownsRow base e size v n xs:=
 h.kept hg (by
  cases hq:v.ownBlock with
  | none => exact .inl rfl
  | some q =>
   refine .inr fun e => ?_
   injection e with e
   have:=(h.lt q hq).1
   omega)
theorem own_belowJ {w w':World} {base:Nat} {e:TypeId} {size n:Nat} {v:Value} {xs:List Value} (h:w.ownsRow base e size v n xs) (hb:Below w.heap.size w w'):w'.ownsRow base e size v n xs:=
 h.kept (grown_of_below (row:=some w.heap.size) hb) (.inr (fun e => by have:=(h.lt _ e).2; omega))
theorem Plc.zero (w:World) (base:Nat) (l:List Ed):Plc w base l 0 (List.replicate 256 (.slice none 0 0)):=by
 have hc:∀ n,n < 256 → cellP (List.replicate 256 (Value.slice none 0 0)) n = .slice none 0 0:=fun n hn => by
  unfold cellP
  rw [List.getD_eq_getElem?_getD,List.getElem?_replicate,if_pos hn]; rfl
 refine ⟨List.length_replicate,fun n hn => ?_,fun n m hn hm _ => ?_⟩
 ·rw [hc n hn,rowI_zero]
  exact World.ownsRow_nil _ _ _ _
 ·rw [hc n hn]; exact .inl rfl
theorem Plc.below {w w':World} {base:Nat} {l:List Ed} {k:Nat} {cs:List Value} (h:Plc w base l k cs) (hb:Below w.heap.size w w'):Plc w' base l k cs:=⟨h.len,fun n hn => own_belowJ (h.row n hn) hb,h.sep⟩
theorem Plc.put {w W w':World} {base g:Nat} {l:List Ed} {k f:Nat} {v1:Value} {cs:List Value} (h:Plc w base l k cs) (hf:f < 256) (hfr:(gEd l k).fr = (f:Int)) (hg:g < base) (hw:Below w.heap.size w W) (hgr:W.grownBy w' (cellP cs f).ownBlock)
  (hown:w'.ownsRow base 3 1 v1 ((rowI l k f).length + 1) ((rowI l k f).map (Value.int .i64) ++ [.int .i64 k])) (hbl:v1.ownBlock = (cellP cs f).ownBlock ∨ ∃ b,w.heap.size ≤ b ∧ v1.ownBlock = some b) :
  Plc (w'.setCell ⟨g,f,none⟩ v1) base l (k + 1) (cs.set f v1):=by
 have hset:∀ {v:Value} {n:Nat} {xs:List Value},w'.ownsRow base 3 1 v n xs → (w'.setCell ⟨g,f,none⟩ v1).ownsRow base 3 1 v n xs:=fun hv => own_low' hv (grown_set (g:=g) w' f v1) hg
 have hl:=h.len
 refine ⟨by rw [List.length_set]; exact h.len,fun n hn => ?_,fun n m hn hm hne => ?_⟩
 ·rw [cellP_set v1 (by omega),rowI_next]
  by_cases e:n = f
  ·subst e
   rw [if_pos rfl,if_pos hfr,List.length_append,List.map_append]
   exact hset hown
  ·rw [if_neg e,if_neg (fun e2 => e (by omega))]
   refine hset ((own_belowJ (h.row n hn) hw).kept hgr ?_)
   rcases h.sep n f hn hf e with h1 | h1
   ·exact .inl h1
   ·exact .inr h1
 ·rw [cellP_set v1 (by omega),cellP_set v1 (by omega)]
  have key:∀ m,m < 256 → m ≠ f → (cellP cs m).ownBlock = none ∨ (cellP cs m).ownBlock ≠ v1.ownBlock:=fun m hm hmf => by
   rcases hbl with h1 | ⟨b,h1,h2⟩
   ·rw [h1]; exact h.sep m f hm hf hmf
   ·cases ho:(cellP cs m).ownBlock with
    | none => exact .inl rfl
    | some q =>
     refine .inr fun e => ?_
     rw [h2] at e
     injection e with e
     have:=((h.row m hm).lt q ho).2
     omega
  by_cases e:n = f
  ·subst e
   rw [if_pos rfl,if_neg (fun e => hne e.symm)]
   rcases key m hm (fun e => hne e.symm) with h1 | h1
   ·by_cases h3:v1.ownBlock = none
    ·exact .inl h3
    ·exact .inr fun e => h3 (by rw [e]; exact h1)
   ·exact .inr fun e => h1 e.symm
  ·rw [if_neg e]
   by_cases e2:m = f
   ·subst e2
    rw [if_pos rfl]
    exact key n hn e
   ·rw [if_neg e2]; exact h.sep n m hn hm hne
end Go.Proofs.YtodcoockhkghdaaGreat
namespace Go.Proofs.YtodcoockhkghdaaGreat
open Go.ChangeShapes Go.WideShapes Go.ChangeAt Go.RowKit Go.Sort Go.Maps Hp
set_option linter.unusedSimpArgs false
set_option linter.unusedVariables false
def tabS (T:Int → Option Int):Lit → Option Value
 | .int .i64 x => (T x).map (Value.int .i64)
 | _ => none
def MapT (w:World) (b n:Nat) (T:Int → Option Int):Prop:=MapV w 3 b n (tabS T)
theorem sorted_srt {T:Int → Option Int} {ks:List Int} (hn:ks.Nodup) (hs:ks.Pairwise (fun a b => a ≤ b)):Srt (ks.map fun x => (x,(T x).getD 0)):=by
 unfold Srt
 rw [List.pairwise_map]
 have h:=List.Pairwise.and (List.nodup_iff_pairwise_ne.1 hn) hs
 exact h.imp fun {a b} h => by have h1:=h.1; have h2:=h.2; show a < b; omega
theorem sorted_at {T:Int → Option Int}:∀ {ks:List Int} {x:Int},atR (ks.map fun x => (x,(T x).getD 0)) x = if x ∈ ks then some ((T x).getD 0) else none
 | [],x => by simp [atR]
 | k :: ks,x => by
  rw [List.map_cons,atR_cons]
  by_cases e:k = x
  ·subst e; simp
  ·rw [if_neg e,sorted_at]
   have e2:¬ x = k:=fun h => e h.symm
   simp [e2]
theorem zeroI5 (w:World):(zeroValue 3).run Tryz.prog w = .ok (.int .i64 0) w:=by kernel_rfl
set_option maxHeartbeats 4000000 in
set_option maxRecDepth 100000 in
theorem esort_any (b n:Nat) (T:Int → Option Int) (w:World) (hM:MapT w b n T) (hn:n ≤ 1000000) (hwf:∀ x,(T x).isSome = true → (Lit.int .i64 x).wf = true) :
  Calls Tryz.prog 106 #[.map (some b)] w fun e w' => ∃ v r,e = .returned v ∧ Srt r ∧ atR r = T ∧ r.length ≤ n ∧ w'.ownsRow w.heap.size 150 2 v r.length (flat2 r) ∧ Below w.heap.size w w':=by
 obtain ⟨i0,hi0,hz0,hz1,hz2⟩:=info_parts ready_info
 obtain ⟨D,hown,hD⟩:=hM
 have hsz:=hown.size_le
 obtain ⟨hnd,hmem⟩:=intKeys_facts hown (Maps.int_keyed Tryz.underlying3) Tryz.underlying3
 have HM:=Lib.hid (show MapT w b n T from ⟨D,hown,hD⟩)
 have HWF:=Lib.hid hwf
 have hin:∀ x,x ∈ intKeys D ↔ (T x).isSome = true:=fun x => by
  rw [hmem x,(hD (.int .i64 x) (by simp [WideAt.IsKeyLit])).1]
  show ((T x).map (Value.int .i64)).isSome = true ↔ _
  simp
 have HIN:=Lib.hid hin
 have HND:=Lib.hid hnd
 clear hD hmem hin hnd hwf
 go_enter Tryz.func106,Tryz.ntmps106
 go_wp2_with fail
 refine (Tryz.ekeys (some b) w).mono ?_
 rintro e w1 ⟨rfl,rfl⟩
 go_wp2_with fail
 refine (Tryz.esorted b n D heldV w hown (by unfold maxLen; omega) (by omega)).mono ?_
 rintro e w2 ⟨v,ss,rfl,hp,hrow,hnil,hb⟩
 obtain ⟨ks,hks⟩:∃ l,ss.mergeSort (fun x y => decide (x ≤ y)) = l:=⟨_,rfl⟩
 rw [hks] at hrow
 have hpk:ks.Perm (intKeys D):=by rw [← hks]; exact (List.mergeSort_perm _ _).trans hp
 have hsk:ks.Pairwise (fun a b => a ≤ b):=by
  rw [← hks]
  have:=List.pairwise_mergeSort (le:=fun (a b:Int) => decide (a ≤ b)) (fun a b c h1 h2 => by simp at *; omega) (fun a b => by simp; omega) ss
  exact this.imp (fun h => by simpa using h)
 have hkl:ks.length = ss.length:=by rw [← hks]; exact List.length_mergeSort _
 have hlen:(intKeys D).length = Maps.size D:=by
  obtain ⟨es,rfl⟩:=hown.isMap
  rw [Maps.size_eq]; simp [intKeys]
 have hmn:ss.length ≤ n:=by rw [hp.length_eq,hlen]; exact hsz
 obtain ⟨m,hm⟩:∃ m,ss.length = m:=⟨_,rfl⟩
 rw [hm] at hrow hkl hmn
 obtain ⟨Ak,ck,rfl⟩:=slice_of_own hrow
 have hkr:=Sl.of_own hrow
 have HMM:Hid (∀ x,x ∈ ks ↔ (T x).isSome = true):=fun x => (hpk.mem_iff).trans (HIN.out x)
 have HNK:Hid ks.Nodup:=hpk.nodup_iff.2 HND.out
 have HSK:=Lib.hid hsk
 have HKL:=Lib.hid hkl
 have HKR:=Lib.hid (fun w' (hb:Below w2.heap.size w2 w') => hkr.up hb)
 have HB:=Lib.hid hb
 have hs2:=hb.size
 clear hp hnil hks hpk hsk hkl hlen hrow hkr hb hown hsz HIN HND
 clear hm
 go_wp2_with fail
 go_loopw [3,10] (fun ev iv wr => ∃ (i:Nat),iv = .int .i64 i ∧ i ≤ m ∧ wr.ownsRow w2.heap.size 150 2 ev i (flat2 ((ks.take i).map fun x => (x,(T x).getD 0))) ∧ Below w2.heap.size w2 wr) (fun ev iv _ => m - (intOf iv).toNat)
 case atStart => exact ⟨0,rfl,by omega,World.ownsRow_nil _ _ _ _,Below.refl _ _⟩
 case round =>
  obtain ⟨i,rfl,hi,hown,hB⟩:=hrel
  have hs:=hB.size
  obtain ⟨Ae,ce,rfl⟩:=slice_of_own hown
  have HNW:=Lib.hid hown
  clear hown
  by_cases him:i < m
  ·obtain ⟨ad,rfl,hab,c0⟩:=(HKR.out _ hB).lst.atI HKL.out him
   have hik:i < ks.length:=by rw [HKL.out]; exact him
   have htk:ks.take (i + 1) = ks.take i ++ [ks.getD i 0]:=by
    rw [List.take_succ_eq_append_getElem hik,List.getD_eq_getElem?_getD,List.getElem?_eq_getElem hik]; rfl
   have hmx:ks.getD i 0 ∈ ks:=by
    rw [List.getD_eq_getElem?_getD,List.getElem?_eq_getElem hik]; exact List.getElem_mem _
   obtain ⟨x,hx⟩:∃ x,ks.getD i 0 = x:=⟨_,rfl⟩
   rw [hx] at c0 htk hmx
   have hTx:=(HMM.out x).1 hmx
   have HW:=Lib.hid (HWF.out x hTx)
   obtain ⟨u,hu⟩:=Option.isSome_iff_exists.1 hTx
   have HU:=Lib.hid hu
   have HTK:=Lib.hid htk
   have hMr:=HM.out.below (HB.out.trans (hB.mono hs2))
   have HMR:=Lib.hid (show MapV wr 3 b n (tabS T) from hMr)
   clear hik htk hmx hx hTx hu hMr
   go_wp2_with (first
    | (at_lookup; refine wpList_look_map rfl _ _ _ rfl 3 3 b n (tabS T) rfl HMR.out (Maps.int_keyed Tryz.underlying3) Tryz.underlying152 (zeroI5 _) (.int .i64 x) (.int .i64 x) rfl (keyI x HW.out) (isKeyI x) (.int .i64 u) (by show ((T x).map (Value.int .i64)).getD _ = _; rw [HU.out]; rfl) ?_)
    | (at_builtin; refine wpList_append_own _ rfl _ _ 105 rfl w2.heap.size 150 i0 _ 2 16 Tryz.underlying105 hi0 hz0 hz1 hz2 rfl (by decide) _ _ _ rfl (HNW.out.alloc _) ⟨wr.heap.size,0,none⟩ 1 1 [.int .i64 x,.int .i64 u] rfl rfl (by exact lit_cells wr #[.int .i64 x,.int .i64 u] _ _ rfl) (by simp [Value.oneCell']) (by unfold maxLen; omega) (by omega) (by simp; omega) ?_; intro v' w3 hown' hgrow3 hnil3; clear hnil3))
   have hbN:Below w2.heap.size w2 w3:=(hB.alloc hs _).grown hgrow3 (by simp; omega) (fun g hg => (HNW.out.lt g hg).1)
   have HON:Hid (w3.ownsRow w2.heap.size 150 2 v' (i + 1) (flat2 ((ks.take (i + 1)).map fun x => (x,(T x).getD 0)))):=by
    show w3.ownsRow w2.heap.size 150 2 v' (i + 1) _
    rw [HTK.out,List.map_append,flat2_append]
    show w3.ownsRow w2.heap.size 150 2 v' (i + 1) (_ ++ [.int .i64 x,.int .i64 ((T x).getD 0)])
    rw [HU.out]
    exact hown'
   clear hgrow3 hown'
   go_roundw
   case rel => exact ⟨i + 1,by go_num,by omega,HON.out,hbN⟩
   case measure => simp [intOf]; omega
  ·obtain rfl:i = m:=by omega
   have htk:ks.take i = ks:=List.take_of_length_le (by rw [HKL.out]; exact Nat.le_refl _)
   have HTK:=Lib.hid htk
   clear htk
   have hat:atR (ks.map fun x => (x,(T x).getD 0)) = T:=by
    funext x
    rw [sorted_at]
    by_cases h:x ∈ ks
    ·rw [if_pos h]
     obtain ⟨u,hu⟩:=Option.isSome_iff_exists.1 ((HMM.out x).1 h)
     rw [hu]; rfl
    ·rw [if_neg h]
     cases hu:T x with
     | none => rfl
     | some u => exact absurd ((HMM.out x).2 (by rw [hu]; rfl)) h
   have HAT:=Lib.hid hat
   clear hat
   go_wp2_with fail
   go_ret
   refine ⟨_,ks.map fun x => (x,(T x).getD 0),rfl,sorted_srt HNK.out HSK.out,HAT.out,by rw [List.length_map,HKL.out]; exact hmn,?_,HB.out.trans (hB.mono hs2)⟩
   have h:=HNW.out
   rw [HTK.out] at h
   rw [List.length_map,HKL.out]
   exact own_down h hs2
end Go.Proofs.YtodcoockhkghdaaGreat
namespace Go.Proofs.YtodcoockhkghdaaGreat
open Go.ChangeShapes Go.WideShapes Go.ChangeAt Go.RowKit Go.Sort Hp
set_option linter.unusedSimpArgs false
set_option linter.unusedVariables false
namespace Hp
def IsLeast (m:Rd) (l:List Rd):Prop:=m ∈ l ∧ ∀ x ∈ l,ahd x m = false
theorem least_one {m k:Rd} {l:List Rd} (h:IsLeast m l) (h':IsLeast k l):m = k:=ahd_antisymm (h.2 k h'.1) (h'.2 m h.1)
theorem least_ex:∀ (l:List Rd),l ≠ [] → ∃ m,IsLeast m l
 | [],h => absurd rfl h
 | [a],_ => ⟨a,by simp,by simp [ahd_irr]⟩
 | a :: b :: l,_ => by
  obtain ⟨m,h1,h2⟩:=least_ex (b :: l) (by simp)
  cases ha:ahd a m
  ·refine ⟨m,List.mem_cons_of_mem _ h1,fun x hx => ?_⟩
   rcases List.mem_cons.1 hx with rfl | hx
   ·exact ha
   ·exact h2 x hx
  ·refine ⟨a,by simp,fun x hx => ?_⟩
   rcases List.mem_cons.1 hx with rfl | hx
   ·exact ahd_irr _
   ·exact nle_trans (nle_of_ahd ha) (h2 x hx)
theorem least_perm {m:Rd} {l l':List Rd} (h:IsLeast m l) (hp:l.Perm l'):IsLeast m l':=⟨hp.mem_iff.1 h.1,fun x hx => h.2 x (hp.mem_iff.2 hx)⟩
theorem least_head {d:List Rd} (h:isHeap d) (hd:0 < d.length):IsLeast (gt d 0) d:=⟨gt_mem hd,fun x hx => heap_least h hx⟩
end Hp
theorem HeapB.some_ {w:World} {B hb:Nat} {v:Value} {d l:List (Int × Int)} (h:HeapB w B hb v d l) (hd:0 < d.length):∃ g cap,v = .slice (some ⟨g,0,none⟩) d.length cap ∧ d.length ≤ cap ∧ HeapAt w hb g cap d:=by
 obtain ⟨g,c,rfl,hc⟩:=own_pos h.at_.row hd
 exact ⟨g,c,rfl,hc,h.at_.at_⟩
theorem HeapB.nil_ {w:World} {B hb:Nat} {v:Value} {d:List (Int × Int)} (h:HeapB w B hb v d []):HeapV w hb v []:=by
 have:=h.perm.length_eq
 have e:d = []:=List.eq_nil_of_length_eq_zero (by simpa using this)
 rw [← e]; exact h.at_
theorem popC {w:World} {B hb:Nat} {v:Value} {d l:List (Int × Int)} (h:HeapB w B hb v d l) {m:Int × Int} (hm:IsLeast m l) (hn:l.length ≤ 1000000) :
  Calls Tryz.prog 151 #[.pointer (some ⟨hb,0,none⟩)] w fun e w' => e = .returned (.tuple #[.agg #[.int .i64 m.1,.int .i64 m.2],.bool true]) ∧
   ∃ v' d',HeapB w' B hb v' d' (l.erase m) ∧ v'.ownBlock = v.ownBlock ∧ Kept (fun k => k = hb ∨ v.ownBlock = some k) w w':=by
 have hlen:=h.perm.length_eq
 have hd:0 < d.length:=by rw [hlen]; exact List.length_pos_of_mem hm.1
 obtain ⟨g,cap,rfl,hc,hA⟩:=h.some_ hd
 have e:=least_one hm (least_perm (least_head h.heap hd) h.perm)
 rw [e]
 refine (pop_some hb g cap d w hc (by omega) hA h.heap hd).mono ?_
 rintro e' w' ⟨rfl,d',k1,k2,k3,k4⟩
 refine ⟨rfl,_,d',⟨k3.v,k2,?_,h.hb,fun k hk => h.own k hk⟩,rfl,?_⟩
 ·have hp:=(k1.trans h.perm).erase (gt d 0)
  simpa using hp
 ·exact Kept.trans (Kept.refl _ _) k4 (fun i _ hi => by simpa [Value.ownBlock,eq_comm] using hi)
theorem pushC {w:World} {B hb:Nat} {v:Value} {d l:List (Int × Int)} (h:HeapB w B hb v d l) (hB:B ≤ w.heap.size) (r:Int × Int) (hn:l.length < 1000000) :
  Calls Tryz.prog 152 #[.pointer (some ⟨hb,0,none⟩),.agg #[.int .i64 r.1,.int .i64 r.2]] w fun e w' => e = .returned (.tuple #[]) ∧
   ∃ v' d',HeapB w' B hb v' d' (l ++ [r]) ∧ (v'.ownBlock = v.ownBlock ∨ ∃ k,w.heap.size ≤ k ∧ v'.ownBlock = some k) ∧ Kept (fun k => k = hb ∨ v.ownBlock = some k) w w':=by
 have hlen:=h.perm.length_eq
 refine (push_any hb v d r w (by omega) h.at_ h.heap).mono ?_
 rintro e w' ⟨rfl,v',d',k1,k2,k3,k4,k5⟩
 refine ⟨rfl,v',d',⟨k3,k2,k1.trans (h.perm.append_right _),h.hb,fun k hk => ?_⟩,k5,k4⟩
 rcases k5 with e | ⟨j,hj,e⟩
 ·exact h.own k (by rw [← e]; exact hk)
 ·rw [e] at hk
  simp at hk
  omega
end Go.Proofs.YtodcoockhkghdaaGreat
namespace Go.Proofs.YtodcoockhkghdaaGreat
open Go.ChangeShapes Go.WideShapes Go.ChangeAt Go.RowKit Go.Sort Go.Maps Hp
set_option linter.unusedSimpArgs false
set_option linter.unusedVariables false
theorem MapT.keptS {S:Nat → Prop} {w w':World} {b n:Nat} {T:Int → Option Int} (h:MapT w b n T) (hk:Kept S w w') (h1:¬ S b):MapT w' b n T:=by
 obtain ⟨D,⟨es,clock,h2,h3⟩,h4⟩:=h
 exact ⟨D,⟨es,clock,(hk.block b (lt_of_block h2) h1).trans h2,h3⟩,h4⟩
theorem HeapB.grown {w w':World} {row:Option Nat} {B hb:Nat} {v:Value} {d l:List (Int × Int)} (h:HeapB w B hb v d l) (hg:w.grownBy w' row) (h1:some hb ≠ row) (h2:v.ownBlock = none ∨ v.ownBlock ≠ row):HeapB w' B hb v d l:=
 ⟨⟨h.at_.head.grown hg h1,h.at_.row.kept hg h2⟩,h.heap,h.perm,h.hb,h.own⟩
theorem HeapB.lower {w:World} {B C hb:Nat} {v:Value} {d l:List (Int × Int)} (h:HeapB w C hb v d l) (hC:B ≤ C):HeapB w B hb v d l:=⟨h.at_,h.heap,h.perm,Nat.le_trans hC h.hb,fun k hk => Nat.le_trans hC (h.own k hk)⟩
theorem tabS_set (T:Int → Option Int) (x a:Int) (kl:Lit):setS (tabS T) (.int .i64 x) (.int .i64 a) kl = tabS (setT T x a) kl:=by
 by_cases e:kl = .int .i64 x
 ·subst e
  rw [setS_same]
  show some _ = ((setT T x a) x).map _
  rw [setT_same]; rfl
 ·rw [setS_other _ _ e]
  unfold tabS
  split
  ·rename_i y
   rw [setT_ne _ _ (fun h => e (by rw [h]))]
  ·rfl
theorem oneT_set (q now:Int):setT (fun _ => none) q now = oneT q now:=rfl
theorem MapT.look {w:World} {b n:Nat} {T:Int → Option Int} (h:MapT w b n T) {x u:Int} (hx:(Lit.int .i64 x).wf = true) (hu:(T x).getD 0 = u):(Instr.lookup 152 (.map (some b)) (.int .i64 x) false).run Tryz.prog w = .ok (.int .i64 u) w:=by
 have h1:=MapV.look h keyedV Tryz.underlying152 (zeroI5 w) (keyI x hx) (isKeyI x)
 rw [h1,show (tabS T (.int .i64 x)).getD (.int .i64 0) = .int .i64 u from by
  show ((T x).map (Value.int .i64)).getD _ = _
  rw [← hu]
  cases T x <;> rfl]
theorem MapT.look_ok {w:World} {b n:Nat} {T:Int → Option Int} (h:MapT w b n T) {x u:Int} {k:Bool} (hx:(Lit.int .i64 x).wf = true) (hu:(T x).getD 0 = u) (hk:(T x).isSome = k):(Instr.lookup 152 (.map (some b)) (.int .i64 x) true).run Tryz.prog w = .ok (.tuple #[.int .i64 u,.bool k]) w:=by
 have h1:=MapV.look_ok h keyedV Tryz.underlying152 (zeroI5 w) (keyI x hx) (isKeyI x)
 rw [h1,show (tabS T (.int .i64 x)).getD (.int .i64 0) = .int .i64 u from by
  show ((T x).map (Value.int .i64)).getD _ = _
  rw [← hu]
  cases T x <;> rfl,show (tabS T (.int .i64 x)).isSome = k from by
  show ((T x).map (Value.int .i64)).isSome = k
  rw [← hk]
  cases T x <;> rfl]
theorem MapT.put {w:World} {b n:Nat} {T:Int → Option Int} (h:MapT w b n T) (hn:n < maxLen) {x:Int} (hx:(Lit.int .i64 x).wf = true) (a:Int):∃ w',(Instr.mapUpdate 152 (.map (some b)) (.int .i64 x) (.int .i64 a)).run Tryz.prog w = .ok () w' ∧ MapT w' b (n + 1) (setT T x a) ∧ w.grownBy w' (some b):=by
 obtain ⟨w',h1,h2,h3⟩:=MapV.put h keyedV Tryz.underlying152 hn (keyI x hx) (isKeyI x) (.int .i64 a)
 exact ⟨w',h1,MapV.congr h2 (tabS_set T x a),h3⟩
theorem MapT.made (w:World):MapT (w.alloc (.map #[] 0)) w.heap.size 0 (fun _ => none):=by
 refine MapV.congr (MapV.made w 3) fun kl => ?_
 unfold tabS
 split <;> rfl
structure SW (w1 w:World) (mb hb rb nm:Nat) (rc:Array Value) (T:Int → Option Int) (v:Value) (d H:List (Int × Int)):Prop where
 map:MapT w mb nm T
 heap:HeapB w (mb + 1) hb v d H
 box:Blok w rb 150 rc
 mr:mb < rb
 hr:hb ≠ rb
 vr:v.ownBlock ≠ some rb
 bl:Below mb w1 w
section
variable {w1 w w':World} {mb hb rb nm nm':Nat} {rc:Array Value} {T T':Int → Option Int} {v v':Value} {d d' H H':List (Int × Int)}
theorem SW.below (h:SW w1 w mb hb rb nm rc T v d H) (hB:Below w.heap.size w w'):SW w1 w' mb hb rb nm rc T v d H:=
 ⟨MapV.below h.map hB,h.heap.below hB,h.box.below hB h.box.lt,h.mr,h.hr,h.vr,h.bl.trans (hB.mono (Nat.le_of_lt (MapV.lt h.map)))⟩
theorem SW.put (h:SW w1 w mb hb rb nm rc T v d H) (hm:MapT w' mb nm' T') (hg:w.grownBy w' (some mb)):SW w1 w' mb hb rb nm' rc T' v d H:=
 ⟨hm,h.heap.grown hg (fun e => by injection e with e; have:=h.heap.hb; omega) (.inr fun e => by have:=h.heap.own mb e; omega),h.box.grown hg (fun e => by injection e with e; have:=h.mr; omega),h.mr,h.hr,h.vr,
  h.bl.grown hg (Nat.le_of_lt (MapV.lt h.map)) (fun k hk => by injection hk with hk; omega)⟩
theorem SW.keep (h:SW w1 w mb hb rb nm rc T v d H) (hH:HeapB w' (mb + 1) hb v' d' H') (hk:Kept (fun k => k = hb ∨ v.ownBlock = some k) w w') (hv:v'.ownBlock = v.ownBlock ∨ ∃ k,w.heap.size ≤ k ∧ v'.ownBlock = some k):SW w1 w' mb hb rb nm rc T v' d' H':=by
 have hlow:∀ k,k ≤ mb → ¬ (k = hb ∨ v.ownBlock = some k):=by
  rintro k hk (e | e)
  ·have:=h.heap.hb; omega
  ·have:=h.heap.own k e; omega
 refine ⟨h.map.keptS hk (hlow mb (Nat.le_refl _)),hH,h.box.kept hk ?_,h.mr,h.hr,?_,hk.below_of h.bl (Nat.le_of_lt (MapV.lt h.map)) (fun k hk => hlow k (by omega))⟩
 ·rintro (e | e)
  ·exact h.hr e.symm
  ·exact h.vr e
 ·rcases hv with e | ⟨k,hk2,e⟩
  ·rw [e]; exact h.vr
  ·rw [e]
   intro e2
   injection e2 with e2
   have:=h.box.lt
   omega
theorem SW.start (hm:MapT w mb nm T) (hh:HeapB w (mb + 1) hb v d H) (bl:Below mb w1 w) (cs:Array Value):SW w1 (w.alloc (.cells cs 150)) mb hb w.heap.size nm cs T v d H:=by
 have hB:Below w.heap.size w (w.alloc (.cells cs 150)):=(Below.refl _ _).alloc (Nat.le_refl _) _
 exact ⟨MapV.below hm hB,hh.below hB,Blok.new _ _ _,MapV.lt hm,by have:=hh.at_.head.lt; omega,fun e => by have:=(hh.at_.row.lt _ e).2; omega,bl.trans (hB.mono (Nat.le_of_lt (MapV.lt hm)))⟩
theorem SW.newbox (h:SW w1 w mb hb rb nm rc T v d H) (cs:Array Value):SW w1 (w.alloc (.cells cs 150)) mb hb w.heap.size nm cs T v d H:=
 SW.start h.map h.heap h.bl cs
theorem SW.set (h:SW w1 w mb hb rb nm rc T v d H) (i:Nat) (u:Value):SW w1 (w.setCell ⟨rb,i,none⟩ u) mb hb rb nm (rc.setIfInBounds i u) T v d H:=by
 have hg:=grown_set (g:=rb) w i u
 have hmr:=h.mr
 refine ⟨MapV.kept h.map hg (fun e => by injection e with e; omega),h.heap.grown hg (fun e => by injection e with e; exact h.hr e) (.inr h.vr),h.box.set_ i u,h.mr,h.hr,h.vr,h.bl.grown hg (Nat.le_of_lt (MapV.lt h.map)) (fun k hk => by injection hk with hk; omega)⟩
end
end Go.Proofs.YtodcoockhkghdaaGreat
namespace Go.Proofs.YtodcoockhkghdaaGreat
open Go.ChangeShapes Go.WideShapes Go.ChangeAt Go.RowKit Go.Sort
set_option linter.unusedSimpArgs false
set_option linter.unusedVariables false
structure Cnt (T:Int → Option Int) (H:List (Int × Int)) (X:List Int) (lo:Int):Prop where
 nd:H.Nodup
 ge:∀ n t,(n,t) ∈ H → lo ≤ t
 fin:∀ n ∈ X,∃ v,T n = some v ∧ v ≤ lo ∧ (n,v) ∉ H
 xnd:X.Nodup
theorem Cnt.first (q now:Int):Cnt (oneT q now) [(q,now)] [] now:=⟨by simp,fun n t h => by simp at h; omega,fun n h => by simp at h,by simp⟩
theorem Cnt.pop {T:Int → Option Int} {H H':List (Int × Int)} {X:List Int} {lo n t:Int} (h:Cnt T H X lo) (hH:H.Perm ((n,t) :: H')) (hl:∀ m s,(m,s) ∈ H' → t ≤ s):Cnt T H' X t ∧ (n,t) ∉ H' ∧ (T n = some t → n ∉ X):=by
 have hnd:=(hH.nodup_iff).1 h.nd
 obtain ⟨h1,h2⟩:=List.nodup_cons.1 hnd
 have hlo:=h.ge n t (hH.mem_iff.2 (List.mem_cons_self ..))
 refine ⟨⟨h2,hl,fun m hm => ?_,h.xnd⟩,h1,fun hT hX => ?_⟩
 ·obtain ⟨v,hv,hle,hno⟩:=h.fin m hm
  exact ⟨v,hv,by omega,fun hin => hno (hH.mem_iff.2 (List.mem_cons_of_mem _ hin))⟩
 ·obtain ⟨v,hv,_,hno⟩:=h.fin n hX
  rw [hT] at hv
  injection hv with hv
  subst hv
  exact hno (hH.mem_iff.2 (List.mem_cons_self ..))
theorem Cnt.push {T:Int → Option Int} {H H':List (Int × Int)} {X:List Int} {lo m a:Int} (h:Cnt T H X lo) (hw:∀ n t,(n,t) ∈ H → ∃ u,T n = some u ∧ u ≤ t) (ha:lo ≤ a) (hl:lessT T m a = true) (hH:H'.Perm ((m,a) :: H)):Cnt (setT T m a) H' X lo ∧ m ∉ X:=by
 have hmX:m ∉ X:=fun hX => by
  obtain ⟨v,hv,hle,_⟩:=h.fin m hX
  unfold lessT at hl
  rw [hv] at hl
  have:=of_decide_eq_true hl
  omega
 have hnew:(m,a) ∉ H:=fun hin => by
  obtain ⟨u,hu,hle⟩:=hw m a hin
  unfold lessT at hl
  rw [hu] at hl
  have:=of_decide_eq_true hl
  omega
 refine ⟨⟨(hH.nodup_iff).2 (List.nodup_cons.2 ⟨hnew,h.nd⟩),fun n t hin => ?_,fun n hn => ?_,h.xnd⟩,hmX⟩
 ·rcases List.mem_cons.1 (hH.mem_iff.1 hin) with h1 | h1
  ·injection h1 with _ e2
   omega
  ·exact h.ge n t h1
 ·obtain ⟨v,hv,hle,hno⟩:=h.fin n hn
  have hne:n ≠ m:=fun e => hmX (e ▸ hn)
  refine ⟨v,by rw [setT_ne _ _ hne]; exact hv,hle,fun hin => ?_⟩
  rcases List.mem_cons.1 (hH.mem_iff.1 hin) with h1 | h1
  ·injection h1 with e1 _
   exact hne e1
  ·exact hno h1
theorem Cnt.take {T:Int → Option Int} {H:List (Int × Int)} {X:List Int} {n t:Int} (h:Cnt T H X t) (hT:T n = some t) (hno:(n,t) ∉ H) (hX:n ∉ X):Cnt T H (n :: X) t:=by
 refine ⟨h.nd,h.ge,fun m hm => ?_,List.nodup_cons.2 ⟨hX,h.xnd⟩⟩
 rcases List.mem_cons.1 hm with rfl | h1
 ·exact ⟨t,hT,Int.le_refl _,hno⟩
 ·exact h.fin m h1
def leftE (l:List Ed) (X:List Int):Nat:=(l.filter fun e => !X.contains e.fr).length
theorem leftE_le (l:List Ed) (X:List Int):leftE l X ≤ l.length:=List.length_filter_le _ _
theorem leftE_take (l:List Ed) {X:List Int} {n:Int} (hX:n ∉ X):leftE l (n :: X) + (l.filter fun e => e.fr == n).length = leftE l X:=by
 unfold leftE
 induction l with
 | nil => rfl
 | cons e r ih =>
  by_cases h1:e.fr = n
  ·have h2:X.contains e.fr = false:=by rw [h1,Bool.eq_false_iff]; intro h; exact hX (List.contains_iff_mem.1 h)
   have h3:(n :: X).contains e.fr = true:=by rw [List.contains_iff_mem,h1]; exact List.mem_cons_self ..
   rw [List.filter_cons_of_neg (by simp only [h3]; decide),List.filter_cons_of_pos (by simpa using h1),List.filter_cons_of_pos (by simp only [h2]; decide)]
   simp only [List.length_cons]
   omega
  ·have h3:(n :: X).contains e.fr = X.contains e.fr:=by
    rw [Bool.eq_iff_iff,List.contains_iff_mem,List.contains_iff_mem,List.mem_cons]
    exact ⟨fun h => h.resolve_left h1,.inr⟩
   rw [List.filter_cons_of_neg (p:=fun e:Ed => e.fr == n) (by simpa using h1)]
   cases h4:X.contains e.fr with
   | true =>
    rw [List.filter_cons_of_neg (by simp only [h3,h4]; decide),List.filter_cons_of_neg (by simp only [h4]; decide)]
    exact ih
   | false =>
    rw [List.filter_cons_of_pos (by simp only [h3,h4]; decide),List.filter_cons_of_pos (by simp only [h4]; decide)]
    simp only [List.length_cons]
    omega
end Go.Proofs.YtodcoockhkghdaaGreat
namespace Go.Proofs.YtodcoockhkghdaaGreat
open Go.ChangeShapes Go.WideShapes Go.ChangeAt Go.RowKit Go.Sort Hp
set_option linter.unusedSimpArgs false
set_option linter.unusedVariables false
theorem runE_node {size:Int} {no:Int → Bool}:∀ {es:List Ed} {n t m u:Int},runE size no n t es = some (m,u) → m = n ∨ ∃ e ∈ es,e.tn = m
 | [],n,t,m,u,h => by injection h with h; injection h with e1 _; exact .inl e1.symm
 | e :: r,n,t,m,u,h => by
  obtain ⟨s,a,hf,hn,hp,hr⟩:=runE_cons h
  rcases runE_node hr with h1 | ⟨x,hx,h1⟩
  ·exact .inr ⟨e,List.mem_cons_self ..,h1.symm⟩
  ·exact .inr ⟨x,List.mem_cons_of_mem _ hx,h1⟩
theorem Rch.node {l:List Ed} {size:Int} {no:Int → Bool} {q now n t:Int} (hr:rightE l = true) (hq:1 ≤ q ∧ q ≤ 255) (h:Rch l size no q now n t):1 ≤ n ∧ n ≤ 255:=by
 obtain ⟨es,hl,h1⟩:=h
 rcases runE_node h1 with rfl | ⟨e,he,rfl⟩
 ·exact hq
 ·exact (Ed.ok_spec.1 (rightE_ok hr (hl e he))).2.2.1
theorem rowI_edges (l:List Ed) (n:Nat):∀ k,k ≤ l.length → (rowI l k n).map (fun i => gEd l i.toNat) = (l.take k).filter (fun e => e.fr == (n:Int))
 | 0,_ => by rw [rowI_zero]; rfl
 | k + 1,h => by
  have ih:=rowI_edges l n k (by omega)
  rw [rowI_next,take_nextEd (by omega),List.filter_append,← ih]
  by_cases e:(gEd l k).fr = (n:Int)
  ·rw [if_pos e,List.map_append,List.filter_cons_of_pos (by simpa using e)]; simp
  ·rw [if_neg e,List.filter_cons_of_neg (by simpa using e)]; simp
structure RowE (l:List Ed) (n:Int) (R:List Int):Prop where
 at_:∀ j,j < R.length → ∃ i:Nat,R.getD j 0 = (i:Int) ∧ i < l.length ∧ (gEd l i).fr = n
 len:R.length = (l.filter (fun e => e.fr == n)).length
 all:∀ e ∈ l,e.fr = n → e ∈ R.map (fun i => gEd l i.toNat)
theorem rowE_of (l:List Ed) (n:Nat):RowE l (n:Int) (rowI l l.length n):=by
 have h:=rowI_edges l n l.length (Nat.le_refl _)
 rw [List.take_length] at h
 refine ⟨fun j hj => ?_,?_,fun e he hf => ?_⟩
 ·have hm:(rowI l l.length n).getD j 0 ∈ rowI l l.length n:=by
   rw [List.getD_eq_getElem?_getD,List.getElem?_eq_getElem hj]; exact List.getElem_mem _
  generalize (rowI l l.length n).getD j 0 = x at hm
  unfold rowI at hm
  obtain ⟨i,hi,rfl⟩:=List.mem_map.1 hm
  obtain ⟨h1,h2⟩:=List.mem_filter.1 hi
  exact ⟨i,rfl,by simpa using h1,by simpa using h2⟩
 ·have:=congrArg List.length h
  rwa [List.length_map] at this
 ·rw [h]
  exact List.mem_filter.2 ⟨he,by simpa using hf⟩
def psE (l:List Ed) (R:List Int) (j:Nat):List Ed:=(R.take j).map (fun i => gEd l i.toNat)
theorem psE_next {l:List Ed} {n:Int} {R:List Int} {j i:Nat} (hj:j < R.length) (hi:R.getD j 0 = (i:Int)):psE l R (j + 1) = psE l R j ++ [gEd l i]:=by
 unfold psE
 rw [List.take_succ_eq_append_getElem hj,List.map_append]
 have:R[j] = (i:Int):=by rw [← hi,List.getD_eq_getElem?_getD,List.getElem?_eq_getElem hj]; rfl
 rw [this]; rfl
section
variable {l:List Ed} {size:Int} {no:Int → Bool} {q now:Int}
structure SeaE (l:List Ed) (size:Int) (no:Int → Bool) (q now:Int) (nm:Nat) (T:Int → Option Int) (H:List (Int × Int)) (X:List Int) (lo:Int) (G:Nat):Prop where
 sp:Spread l size no q now T H
 ct:Cnt T H X lo
 hl:H.length + leftE l X ≤ l.length + 1
 hn:nm + leftE l X ≤ l.length + 1
 hg:H.length + 2 * leftE l X ≤ G
structure SeaR (l:List Ed) (size:Int) (no:Int → Bool) (q now:Int) (nm:Nat) (T:Int → Option Int) (H:List (Int × Int)) (X:List Int) (n t:Int) (g:Nat):Prop where
 sp:Spread l size no q now T ((n,t) :: H)
 ct:Cnt T H X t
 out:(n,t) ∉ H
 new:T n = some t → n ∉ X
 hl:H.length + leftE l X ≤ l.length
 hn:nm + leftE l X ≤ l.length + 1
 hg:1 + H.length + 2 * leftE l X ≤ g
structure SeaI (l:List Ed) (size:Int) (no:Int → Bool) (q now:Int) (n t:Int) (R:List Int) (X:List Int) (g j nm:Nat) (T:Int → Option Int) (H:List (Int × Int)):Prop where
 at_:SpreadAt l size no q now n t (psE l R j) T H
 ct:Cnt T H (n :: X) t
 hl:H.length + R.length + leftE l (n :: X) ≤ l.length + j
 hn:nm + R.length + leftE l (n :: X) ≤ l.length + 1 + j
 hg:1 + H.length + 2 * leftE l (n :: X) + 2 * R.length ≤ g + j
theorem SeaE.first:SeaE l size no q now 1 (oneT q now) [(q,now)] [] now (1 + 2 * l.length):=by
 have h:=leftE_le l []
 exact ⟨Spread.first,Cnt.first q now,by simp; omega,by omega,by simp; omega⟩
theorem SeaE.pop {nm:Nat} {T:Int → Option Int} {H:List (Int × Int)} {X:List Int} {lo:Int} {G:Nat} (h:SeaE l size no q now nm T H X lo G) {m:Int × Int} (hm:IsLeast m H):SeaR l size no q now nm T (H.erase m) X m.1 m.2 G:=by
 have hp:H.Perm ((m.1,m.2) :: H.erase m):=List.perm_cons_erase hm.1
 have hlen:=hp.length_eq
 rw [List.length_cons] at hlen
 obtain ⟨h1,h2,h3⟩:=h.ct.pop hp (fun a s hs => by
  have:=ahd_no.1 (hm.2 (a,s) (List.mem_of_mem_erase hs))
  simp only at this
  omega)
 have:=h.hl
 have:=h.hg
 have:=h.hn
 refine ⟨⟨h.sp.start,h.sp.rch,fun a s hs => h.sp.wait a s (hp.mem_iff.2 hs),fun a s hs => ?_⟩,h1,h2,h3,by omega,by omega,by omega⟩
 rcases h.sp.pend a s hs with h4 | h4
 ·exact .inl (hp.mem_iff.1 h4)
 ·exact .inr h4
theorem SeaE.done {nm:Nat} {T:Int → Option Int} {X:List Int} {lo:Int} {G:Nat} (h0:0 ≤ now) (h:SeaE l size no q now nm T [] X lo G):Early l size no q now T:=h.sp.done h0
theorem SeaR.told {nm:Nat} {T:Int → Option Int} {H:List (Int × Int)} {X:List Int} {n t:Int} {g:Nat} (h:SeaR l size no q now nm T H X n t g):∃ u,T n = some u ∧ u ≤ t:=h.sp.wait n t (List.mem_cons_self ..)
theorem SeaR.stale {nm:Nat} {T:Int → Option Int} {H:List (Int × Int)} {X:List Int} {n t u:Int} {g:Nat} (h:SeaR l size no q now nm T H X n t g) (hu:T n = some u) (hlt:u < t):SeaE l size no q now nm T H X t (g - 1):=by
 have:=h.hl
 have:=h.hg
 exact ⟨h.sp.stale (List.Perm.refl _) hu hlt,h.ct,by omega,h.hn,by omega⟩
theorem SeaR.take {nm:Nat} {T:Int → Option Int} {H:List (Int × Int)} {X:List Int} {n t:Int} {g:Nat} {R:List Int} (h:SeaR l size no q now nm T H X n t g) (hT:T n = some t) (hR:RowE l n R):SeaI l size no q now n t R X g 0 nm T H:=by
 have h1:=leftE_take l (h.new hT)
 rw [← hR.len] at h1
 have:=h.hl
 have:=h.hg
 have:=h.hn
 exact ⟨h.sp.pop (List.Perm.refl _) hT,h.ct.take hT h.out (h.new hT),by omega,by omega,by omega⟩
theorem SeaI.skip {n t:Int} {R X:List Int} {g j nm i:Nat} {T:Int → Option Int} {H:List (Int × Int)} (h:SeaI l size no q now n t R X g j nm T H) (hj:j < R.length) (hi:R.getD j 0 = (i:Int)) (hs:∀ s a,no (gEd l i).tn = false → (gEd l i).pass t size = some (s,a) → lessT T (gEd l i).tn a = false):SeaI l size no q now n t R X g (j + 1) nm T H:=by
 have:=h.hl
 have:=h.hg
 have:=h.hn
 exact ⟨by rw [psE_next (n:=n) hj hi]; exact h.at_.skip hs,h.ct,by omega,by omega,by omega⟩
theorem SeaI.push {n t s a:Int} {R X:List Int} {g j nm i:Nat} {T:Int → Option Int} {H:List (Int × Int)} (h:SeaI l size no q now n t R X g j nm T H) (hj:j < R.length) (hi:R.getD j 0 = (i:Int)) (hil:i < l.length) (hok:(gEd l i).ok = true) (hf:(gEd l i).fr = n) (hn:no (gEd l i).tn = false) (hq:no q = true) (hp:(gEd l i).pass t size = some (s,a)) (hl:lessT T (gEd l i).tn a = true) :
  SeaI l size no q now n t R X g (j + 1) (nm + 1) (setT T (gEd l i).tn a) (H ++ [((gEd l i).tn,a)]):=by
 have h1:=h.hl
 have h2:=h.hg
 have h3:=h.hn
 have hne:=(Ed.ok_spec.1 hok).2.2.2.1
 have hH:(H ++ [((gEd l i).tn,a)]).Perm (((gEd l i).tn,a) :: H):=List.perm_append_comm
 have hpf:=pass_facts hp
 refine ⟨by rw [psE_next (n:=n) hj hi]; exact h.at_.push (gEd_mem hil) hf (fun e => hne (by rw [hf,e])) hn hq hp hl hH,(h.ct.push h.at_.wait (by omega) hl hH).1,?_,by omega,?_⟩
 ·rw [List.length_append]; simp; omega
 ·rw [List.length_append]; simp; omega
theorem SeaI.end_ {n t:Int} {R X:List Int} {g nm:Nat} {T:Int → Option Int} {H:List (Int × Int)} (h:SeaI l size no q now n t R X g R.length nm T H) (hR:RowE l n R):SeaE l size no q now nm T H (n :: X) t (g - 1):=by
 have h1:=h.hl
 have h2:=h.hg
 have h3:=h.hn
 refine ⟨h.at_.end_ fun e he hf => ?_,h.ct,by omega,by omega,by omega⟩
 have:=hR.all e he hf
 unfold psE
 rw [List.take_of_length_le (Nat.le_refl _)]
 exact this
end
end Go.Proofs.YtodcoockhkghdaaGreat
