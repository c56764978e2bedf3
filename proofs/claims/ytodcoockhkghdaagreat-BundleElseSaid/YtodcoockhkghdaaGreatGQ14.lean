/- Several texts of mine in one: Ref15b, Ref15c, Ref15d, Early3, Early4, Early2. No condition. -/
import Derived.Test.YtodcoockhkghdaaGreatGQ3
import Derived.Test.YtodcoockhkghdaaGreatGQ11
import Derived.Test.YtodcoockhkghdaaGreatGQ8
import Derived.Test.YtodcoockhkghdaaGreatShelfIter
import Derived.Test.YtodcoockhkghdaaGreatGQ9
import Derived.Test.YtodcoockhkghdaaGreatGQ2
namespace Go.Proofs.YtodcoockhkghdaaGreat
open Go.ChangeShapes Go.WideShapes Go.ChangeAt Go.RowKit Go.Sort Hp
set_option linter.unusedSimpArgs false
set_option linter.unusedVariables false
def shutE (sh:List Int) (q:Int):Int → Bool:=fun y => (sh ++ [q]).contains y
structure IsTimes (l:List Ed) (q now size:Int) (sh:List Int) (r:List (Int × Int)):Prop where
 srt:Srt r
 no:askE l q now size = false → r = []
 yes:askE l q now size = true → Early l size (shutE sh q) q now (atR r)
theorem IsTimes.one {l:List Ed} {q now size:Int} {sh:List Int} {r r':List (Int × Int)} (h:IsTimes l q now size sh r) (h':IsTimes l q now size sh r'):r = r':=by
 cases ha:askE l q now size with
 | false => rw [h.no ha,h'.no ha]
 | true => exact Srt.ext h.srt h'.srt fun n => congrFun ((h.yes ha).one (h'.yes ha)) n
end Go.Proofs.YtodcoockhkghdaaGreat
namespace Go.Proofs
open Go.RowKit Go.Maps Go.Sort Go.Shelf
set_option linter.unusedSimpArgs false
set_option linter.unusedVariables false
theorem Tryz.sortsA (m : Nat) : AnyZI.SortsIn Tryz.prog Tryz.sortedA_ren Fence.wide m :=
  ⟨fun blk off cap ss W hH hblk hsz => callsIn_wide.2 (AnyM.slices_Sort_int Tryz.sortA blk off cap ss W hH hblk hsz),
   fun p cap W => callsIn_wide.2 (AnyM.slices_Sort_int_none Tryz.sortA p cap W)⟩
theorem Tryz.ekeys (mb : Option Nat) (W : World) : Calls Tryz.prog 149 #[.map mb] W fun e w' => e = .returned (.func (.func 177) #[] #[.pointer (some ⟨W.heap.size, 0, none⟩)]) ∧ w' = W.alloc (.cells #[.map mb] 152) :=
  callsIn_wide.1 (AnyZI.keys_in Tryz.keysA Fence.wide 5 trivial rfl mb W)
set_option maxHeartbeats 1000000 in
theorem Tryz.esorted {H : Type} (b nn : Nat) (D0 : DataW H) (R : Value → Option (DataW H × List MemPlace)) (w : World) (hown : w.ownsMap Tryz.prog 3 R b nn D0) (hmax : Maps.size D0 ≤ maxLen) (hbytes : Maps.size D0 * 8 ≤ 140737488355328) :
    Calls Tryz.prog 148 #[.func (.func 177) #[] #[.pointer (some ⟨w.heap.size, 0, none⟩)]] (w.alloc (.cells #[.map (some b)] 152)) fun e w' => ∃ (v : Value) (ss : List Int), e = .returned v ∧ ss.Perm (intKeys D0) ∧
      w'.ownsRow w.heap.size 3 1 v ss.length ((ss.mergeSort (fun x y => decide (x ≤ y))).map encZ) ∧ (v = .slice none 0 0 ↔ ss = []) ∧ Below w.heap.size w w' := by
  have hbl := hown.lt
  have hseq : SeqGives Fence.wide 2 Tryz.prog 177 #[.pointer (some ⟨w.heap.size, 0, none⟩)] encZ (fun ss => ss.Perm (intKeys D0)) (Maps.size D0) (w.alloc (.cells #[.map (some b)] 152)) :=
    AnyZI.keys_gives (ρ := Tryz.keysA_ren) { Tryz.keysA with } Fence.wide _ trivial rfl (by omega) w.heap.size b nn D0 _ (by simp) (by simp) (by
      obtain ⟨es, clock, hb, Ft, hs, hD⟩ := hown
      exact ⟨es, clock, (Below.heap_alloc _ _ b hbl).trans hb, Ft, hs, hD⟩)
  have cS := AnyZI.sorted_in Tryz.sortedA Fence.wide 5 trivial trivial trivial trivial rfl (by omega) (Tryz.sortsA _) (enters_of Tryz.func176 (by kernel_rfl) rfl) 177 #[.pointer (some ⟨w.heap.size, 0, none⟩)] trivial (enters_of Tryz.func177 (by kernel_rfl) rfl) _ _ hmax hbytes _ hseq
  change CallsIn _ _ Tryz.prog 148 _ _ _ at cS
  refine (callsIn_wide.1 cS).mono ?_
  rintro e w' ⟨v, ss, rfl, hS, hrow, hnil, hb⟩
  exact ⟨v, ss, rfl, hS, ownsRow_base_a hrow (by simp), hnil, ((Below.refl _ w).alloc (Nat.le_refl _) _).trans (hb.mono (by simp))⟩
end Go.Proofs
namespace Go.Proofs.YtodcoockhkghdaaGreat
open Go.ChangeShapes Go.WideShapes Go.ChangeAt Go.RowKit Go.Sort Go.Maps
set_option linter.unusedSimpArgs false
set_option linter.unusedVariables false
theorem intKeys_facts {H:Type} {D:DataW H} {P:Program} {k:TypeId} {R:Value → Option (DataW H × List MemPlace)} {w:World} {b n:Nat} (hown:w.ownsMap P k R b n D) (K:Keyed P k) (hk:P.underlying k = some (.int .i64)):(intKeys D).Nodup ∧ ∀ x,x ∈ intKeys D ↔ Maps.has D (.int .i64 x) = true:=by
 obtain ⟨es,hD,hpw,_⟩:=hown.entries K
 obtain ⟨es',hD',hko⟩:=hown.keysOf
 obtain rfl:es = es':=by rw [hD] at hD'; simpa using hD'
 subst hD
 have hi:∀ p ∈ es,∃ x,p.1 = .int .i64 x:=fun p hp => by
  obtain ⟨v,hv⟩:=hko p hp
  obtain ⟨x,_,hx,_⟩:=Maps.keyOf_i64 hk hv
  exact ⟨x,hx⟩
 refine ⟨?_,fun x => ?_⟩
 ·unfold intKeys
  rw [List.nodup_iff_pairwise_ne,List.pairwise_map]
  refine hpw.imp_of_mem ?_
  intro p q hp hq hne e
  obtain ⟨a,ha⟩:=hi p hp
  obtain ⟨c,hc⟩:=hi q hq
  rw [ha,hc] at e hne
  exact hne (by simpa [Go.intOf] using e)
 ·unfold intKeys
  rw [Maps.has_eq,List.any_eq_true,List.mem_map]
  refine exists_congr fun p => and_congr_right fun hp => ?_
  obtain ⟨a,ha⟩:=hi p hp
  rw [ha]
  simp [Go.intOf,Lit.sameKey]
end Go.Proofs.YtodcoockhkghdaaGreat
namespace Go.Proofs.YtodcoockhkghdaaGreat
open Go.ChangeShapes Go.WideShapes Go.ChangeAt Go.RowKit Go.Sort Hp
set_option linter.unusedSimpArgs false
set_option linter.unusedVariables false
theorem run_makeMap0 {P:Program} (t k e:TypeId) (ht:P.underlying t = some (.map k e)) (w:World):(Instr.makeMap t none).run P w = .ok (.map (some w.heap.size)) (w.alloc (.map #[] 0)):=by
 simp [Instr.makeMap,run_underlying ht]
def clsd (sh:List Int) (q:Int) (k:Nat):Int → Bool:=fun y => y == q || (sh.take k).contains y
theorem contains_snoc (l:List Int) (x y:Int):(l ++ [x]).contains y = (l.contains y || y == x):=by
 rw [Bool.eq_iff_iff]
 simp only [Bool.or_eq_true,beq_iff_eq,List.contains_iff_mem,List.mem_append,List.mem_singleton]
theorem clsd_next {sh:List Int} {q:Int} {k:Nat} (h:k < sh.length) (y:Int):clsd sh q (k + 1) y = if y = sh.getD k 0 then true else clsd sh q k y:=by
 unfold clsd
 rw [List.take_succ_eq_append_getElem h,contains_snoc,List.getD_eq_getElem?_getD,List.getElem?_eq_getElem h]
 generalize sh[k] = x
 generalize (sh.take k).contains y = b
 show (y == q || (b || y == x)) = if y = x then true else (y == q || b)
 by_cases e:y = x
 ·rw [if_pos e,beq_iff_eq.2 e]; simp
 ·rw [if_neg e,beq_eq_false_iff_ne.2 e,Bool.or_false]
theorem clsd_all {sh:List Int} {q:Int} {k:Nat} (h:sh.length ≤ k) (y:Int):clsd sh q k y = shutE sh q y:=by
 unfold clsd shutE
 rw [List.take_of_length_le h,Bool.eq_iff_iff]
 simp only [Bool.or_eq_true,beq_iff_eq,List.contains_iff_mem,List.mem_append,List.mem_singleton]
 exact Or.comm
set_option maxHeartbeats 2000000 in
set_option maxRecDepth 100000 in
theorem eclosed_any (q:Int) (As:Option Addr) (ns cs:Nat) (sh:List Int) (w:World) (hq:(Lit.int .i64 q).wf = true) (hds:sh.length = ns) (hns:ns ≤ 100000) (hwf:∀ k,k < ns → (Lit.int .i64 (sh.getD k 0)).wf = true) (hls:Sl w w.heap.size 1 As ns cs (sh.map (Value.int .i64))) :
  Calls Tryz.prog 108 #[.int .i64 q,.slice As ns cs] w fun e w' => ∃ b n,e = .returned (.map (some b)) ∧ w.heap.size ≤ b ∧ n ≤ ns + 1 ∧ SetW w' b n (shutE sh q) ∧ Below w.heap.size w w':=by
 have HDS:=Lib.hid hds
 have HWF:=Lib.hid hwf
 have hmk:=run_makeMap0 (P:=Tryz.prog) 134 3 4 Tryz.underlying134 w
 obtain ⟨g,hg⟩:∃ g,w.heap.size = g:=⟨_,rfl⟩
 have hS0:=SetW.made w
 rw [hg] at hS0
 rw [hg] at hmk
 have HG:=Lib.hid hg
 have hB0:Below w.heap.size w (w.alloc (.map #[] 0)):=(Below.refl _ _).alloc (Nat.le_refl _) _
 have hs0:=hB0.size
 obtain ⟨w2,hput,hS2,hg2⟩:=hS0.put (by unfold maxLen; omega) hq true
 have hgl:∀ j,some g = some j → w.heap.size ≤ j:=fun j hj => by have:=HG.out; simp at hj; omega
 have hB2:Below w.heap.size w w2:=hB0.grown hg2 hs0 hgl
 have HL:=Lib.hid (fun w' (hb:Below w.heap.size w w') => hls.up hb)
 clear hg hls hds hwf hB0 hS0 hg2 hs0
 go_enter Tryz.func108,Tryz.ntmps108
 go_wp2
 clear hmk hput
 go_loopw [13] (fun iv wr => ∃ k:Nat,k ≤ ns ∧ iv = .int .i64 k ∧ Below w.heap.size w wr ∧ SetW wr g (k + 1) (clsd sh q k)) (fun iv _ => ns - (intOf iv).toNat)
 case atStart => exact ⟨0,by omega,rfl,hB2,hS2.congr (fun y _ => by unfold clsd; by_cases e:y = q <;> simp [e])⟩
 case round =>
  clear hB2 hS2
  obtain ⟨k,hk,rfl,hB,hS⟩:=hrel
  have hs:=hB.size
  by_cases hkn:k < ns
  ·obtain ⟨ad,rfl,hab,c0⟩:=(HL.out _ hB).lst.atI HDS.out hkn
   have hw:=HWF.out k hkn
   have hnx:=clsd_next (sh:=sh) (q:=q) (k:=k) (by rw [HDS.out]; exact hkn)
   obtain ⟨id,hid⟩:∃ x,sh.getD k 0 = x:=⟨_,rfl⟩
   rw [hid] at c0 hw hnx
   have HW:=Lib.hid hw
   have HNX:=Lib.hid hnx
   clear hid hw hnx
   go_wp2_with (at_mapUpdate; refine wpList_put_set rfl _ _ _ rfl g (k + 1) _ id true rfl hS (by unfold maxLen; omega) rfl HW.out rfl ?_; intro w4 hS4 hg4)
   have hB4:Below w.heap.size w w4:=hB.grown hg4 hs hgl
   have hS5:SetW w4 g (k + 1 + 1) (clsd sh q (k + 1)):=hS4.congr (fun j _ => by rw [HNX.out j])
   clear hS4 hg4 hS
   go_wp2
   go_roundw
   case rel => exact ⟨k + 1,by omega,by go_num,hB4,hS5⟩
   case measure => simp [intOf]; omega
  ·obtain rfl:k = ns:=by omega
   have hS2:SetW wr g (k + 1) (shutE sh q):=hS.congr (fun j _ => clsd_all (by rw [HDS.out]; exact Nat.le_refl _) j)
   have HS2:=Lib.hid hS2
   clear hS hS2
   go_wp2
   go_ret
   exact ⟨g,k + 1,rfl,by have:=HG.out; omega,by omega,HS2.out,hB⟩
end Go.Proofs.YtodcoockhkghdaaGreat
