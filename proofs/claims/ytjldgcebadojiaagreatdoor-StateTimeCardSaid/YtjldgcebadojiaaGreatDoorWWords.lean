/- Contracts of words.Lines and words.Words. They read a variable of the library's, of which it is known that it holds an int. -/
import Derived.Test.YtjldgcebadojiaaGreatDoorGQ21
import Derived.Test.YtjldgcebadojiaaGreatDoorShelf
import Derived.Lib.OthersKept
import Derived.WalkSmall
namespace Go.Proofs.YtjldgcebadojiaaGreatDoor
open Go.ChangeShapes Go.WideShapes Go.ChangeAt Go.RowKit Go.Sort
set_option linter.unusedSimpArgs false
set_option linter.unusedVariables false
/-- internal/bytealg.MaxLen holds an int. -/
def MaxAt (w:World):Prop:=∃ m,w.cell? ⟨Tryz.laysM146_ren.g 1,0,none⟩ = some (.int .i64 m)
theorem MaxAt.below {w w':World} (h:MaxAt w) (hb:Below w.heap.size w w'):MaxAt w':=by
 obtain ⟨m,hm⟩:=h
 exact ⟨m,by rw [hb.cell (block_lt_of_cell hm)]; exact hm⟩
theorem max_of_shaped {w:World} (h:w.ShapedOpen Tryz.prog):MaxAt w:=Tryz.laysM146.s1_3 w h
theorem split_any (s sep:ByteArray) (w:World) (hm:MaxAt w) (hs:s.size < 4294967281) (h1:1 ≤ sep.size) :
  Calls Tryz.prog 102 #[.string s,.string sep] w fun e w' =>
   e = .returned (.slice (some ⟨w.heap.size,0,none⟩) (Lib.countB s sep + 1) (Lib.countB s sep + 1)) ∧ w' = w.alloc (.cells ((Lib.splitB sep 0 (Lib.countB s sep) s).map Value.string).toArray 9):=by
 obtain ⟨m,hm⟩:=hm
 exact Any.strings_Split { Tryz.laysM146 with } Tryz.laysM146.i9 s sep m w hs hm h1
theorem cut_any (s sep:ByteArray) (w:World) (hm:MaxAt w) (hs:s.size < 4294967281) :
  Calls Tryz.prog 104 #[.string s,.string sep] w fun e w' => e = .returned (.tuple #[.string ⟨(Lib.cut s.data.toList sep.data.toList).1.toArray⟩,.string ⟨(Lib.cut s.data.toList sep.data.toList).2.1.toArray⟩,.bool (Lib.cut s.data.toList sep.data.toList).2.2]) ∧ ∃ n,w' = w.drewN n:=by
 obtain ⟨m,hm⟩:=hm
 exact Any.strings_Cut { Tryz.laysM145 with } s sep m w hs hm
theorem splitB_vs (s:ByteArray):(Lib.splitB ⟨#[10]⟩ 0 (Lib.countB s ⟨#[10]⟩) s).map Value.string = vs (Lib.splitK [10] 0 (Lib.count s.data.toList [10]) s.data.toList):=by
 have h:=Lib.splitB_data ⟨#[10]⟩ 0 (Lib.countB s ⟨#[10]⟩) s
 show _ = vs (Lib.splitK (⟨#[10]⟩:ByteArray).data.toList 0 (Lib.countB s ⟨#[10]⟩) s.data.toList)
 rw [← h]
 unfold vs
 rw [List.map_map]
 exact List.map_congr_left (fun x _ => by simp [bs_of])
theorem splitB_len (s:ByteArray):Lib.countB s ⟨#[10]⟩ + 1 = (Lib.splitK [10] 0 (Lib.count s.data.toList [10]) s.data.toList).length:=by
 have h:=Lib.splitB_all ⟨#[10]⟩ (by decide) 0 (Lib.countB s ⟨#[10]⟩) s rfl
 have h2:=congrArg List.length (splitB_vs s)
 rw [List.length_map,vs_length,h] at h2
 exact h2
set_option maxHeartbeats 1000000 in
set_option maxRecDepth 100000 in
theorem lines_any (s0:ByteArray) (s:Bytes) (hs0:s0.data.toList = s) (w:World) (hm:MaxAt w) (hs:s.length ≤ 2000000) :
  Calls Tryz.prog 62 #[.string s0] w fun e w' => ∃ v,e = .returned v ∧ w'.ownsRow w.heap.size 9 1 v (linesL s).length (vs (linesL s)) ∧ Below w.heap.size w w':=by
 by_cases h0:s = []
 ·have hE:s0.toList.isEmpty = true:=by rw [ByteArray.toList_eq,hs0,h0]; rfl
  have hl:linesL s = []:=by rw [h0]; rfl
  have HL:=Lib.hid hl
  clear hl
  go_enter Tryz.func62,Tryz.ntmps62
  go_wp2
  go_ret
  exact ⟨_,rfl,by rw [HL.out]; exact World.ownsRow_nil _ _ _ _,Below.refl _ _⟩
 ·have hE:s0.toList.isEmpty = false:=by rw [ByteArray.toList_eq,hs0]; simpa using h0
  obtain ⟨t,ht⟩:∃ t:ByteArray,(⟨(Lib.trimSuffix s0.data.toList [10]).toArray⟩:ByteArray) = t:=⟨_,rfl⟩
  have htl:t.data.toList = Lib.trimSuffix s [10]:=by rw [← ht,← hs0]
  have hts:t.size ≤ 2000000:=by
   rw [size_list,htl]
   unfold Lib.trimSuffix
   split
   ·rw [List.length_take]; omega
   ·exact hs
  have hsz:s0.size ≤ 9223372036854775807:=by rw [size_list,hs0]; omega
  have hl:linesL s = Lib.splitK [10] 0 (Lib.count t.data.toList [10]) t.data.toList:=by
   rw [← split_lines,splitL,if_neg h0,htl]
  have HT:=Lib.hid (Tryz.strings_TrimSuffix s0 ⟨#[10]⟩ w hsz)
  have HC:=Lib.hid (split_any t ⟨#[10]⟩ w hm (by omega) (by decide))
  have HTT:=Lib.hid ht
  have HL:=Lib.hid hl
  clear ht htl hl hm hs hsz hs0 h0
  go_enter Tryz.func62,Tryz.ntmps62
  go_wp2_with fail
  refine HT.out.mono ?_
  rintro e w1 ⟨rfl,rfl⟩
  rw [HTT.out]
  go_wp2_with fail
  refine HC.out.mono ?_
  rintro e w2 ⟨rfl,rfl⟩
  go_wp2_with fail
  go_ret
  refine ⟨_,rfl,?_,(Below.refl _ _).alloc (Nat.le_refl _) _⟩
  rw [splitB_vs,HL.out]
  have hlen:=splitB_len t
  rw [← hlen]
  have hcl:=Lib.countB_le ⟨#[10]⟩ (by decide) t.size t (Nat.le_refl _)
  have ho:=own_lit w1 w1.heap.size 9 1 (Lib.countB t ⟨#[10]⟩ + 1) (vs (Lib.splitK [10] 0 (Lib.count t.data.toList [10]) t.data.toList)).toArray (Nat.le_refl _) (by simp [vs_length,hlen]) (by unfold maxLen; omega)
  simpa using ho
theorem decode_multi (s:ByteArray) (pos:Nat) (h:pos < s.size) (ha:128 ≤ (s[pos]'h).toNat):pos + (Utf8.decode s pos).2 ≤ s.size ∧ ∀ j,pos ≤ j → j < pos + (Utf8.decode s pos).2 → ∀ hj:j < s.size,128 ≤ (s[j]'hj).toNat:=by
 have hn:¬ (s[pos]'h).toNat < 128:=by omega
 have one:∀ j,pos ≤ j → j < pos + 1 → ∀ hj:j < s.size,128 ≤ (s[j]'hj).toNat:=fun j h1 h2 hj => by
  have:j = pos:=by omega
  subst this; exact ha
 have ct:∀ k,(decide (pos + k < s.size) && (s.get! (pos + k)).toNat / 64 == 2) = true → ∃ hk:pos + k < s.size,128 ≤ (s[pos + k]'hk).toNat:=fun k hk => by
  simp only [Bool.and_eq_true,decide_eq_true_eq,beq_iff_eq] at hk
  refine ⟨hk.1,?_⟩
  have e:=get_at s (pos + k) hk.1
  rw [Nat.add_zero] at e
  rw [← e]
  omega
 have all:∀ k,(∀ q,q < k → 1 ≤ q → ∃ hk:pos + q < s.size,128 ≤ (s[pos + q]'hk).toNat) → ∀ j,pos ≤ j → j < pos + k → ∀ hj:j < s.size,128 ≤ (s[j]'hj).toNat:=fun k hk j h1 h2 hj => by
  by_cases e:j = pos
  ·subst e; exact ha
  ·obtain ⟨q,rfl⟩:∃ q,j = pos + q:=⟨j - pos,by omega⟩
   exact (hk q (by omega) (by omega)).2
 simp only [Utf8.decode,get_at s pos h,hn,if_false]
 split
 ·rename_i h1
  simp only [Bool.and_eq_true] at h1
  obtain ⟨h11,h12⟩:=ct 1 (by simpa using h1.2)
  split
  ·exact ⟨by omega,all 2 (fun q hq1 hq2 => by have:q = 1:=(by omega); subst this; exact ⟨h11,h12⟩)⟩
  ·exact ⟨by omega,one⟩
 ·split
  ·rename_i h1
   simp only [Bool.and_eq_true] at h1
   obtain ⟨h11,h12⟩:=ct 1 (by simpa using h1.1.2)
   obtain ⟨h21,h22⟩:=ct 2 (by simpa using h1.2)
   split
   ·exact ⟨by omega,all 3 (fun q hq1 hq2 => by
     have:q = 1 ∨ q = 2:=(by omega)
     rcases this with rfl | rfl
     ·exact ⟨h11,h12⟩
     ·exact ⟨h21,h22⟩)⟩
   ·exact ⟨by omega,one⟩
  ·split
   ·rename_i h1
    simp only [Bool.and_eq_true] at h1
    obtain ⟨h11,h12⟩:=ct 1 (by simpa using h1.1.1.2)
    obtain ⟨h21,h22⟩:=ct 2 (by simpa using h1.1.2)
    obtain ⟨h31,h32⟩:=ct 3 (by simpa using h1.2)
    split
    ·exact ⟨by omega,all 4 (fun q hq1 hq2 => by
      have:q = 1 ∨ q = 2 ∨ q = 3:=(by omega)
      rcases this with rfl | rfl | rfl
      ·exact ⟨h11,h12⟩
      ·exact ⟨h21,h22⟩
      ·exact ⟨h31,h32⟩)⟩
    ·exact ⟨by omega,one⟩
   ·exact ⟨by omega,one⟩
theorem fold_other {t:Bytes} {pos:Nat} {o:List Bytes} {cur:Bytes} (h0:(t.take pos).foldl stW ([],[]) = (o,cur)):∀ k,pos + k ≤ t.length → (∀ j (hj:j < t.length),pos ≤ j → j < pos + k → blankC t[j] = false) →
  (t.take (pos + k)).foldl stW ([],[]) = (o,cur ++ (t.take (pos + k)).drop pos)
 | 0,_,_ => by rw [Nat.add_zero,h0,drop_all,List.append_nil]
 | k + 1,hk,hb => by
  have ih:=fold_other h0 k (by omega) (fun j hj h1 h2 => hb j hj h1 (by omega))
  have hlt:pos + k < t.length:=by omega
  rw [← Nat.add_assoc,fold_next hlt,ih,stW_other (hb _ hlt (by omega) (by omega)),drop_take_next (by omega) hlt,List.append_assoc]
theorem own_base {w:World} {base base':Nat} {e:TypeId} {size n:Nat} {v:Value} {xs:List Value} (h:w.ownsRow base e size v n xs) (hb:base' ≤ base):w.ownsRow base' e size v n xs:=by
 refine ⟨h.1,?_⟩
 rcases h.2 with hx | ⟨g,cap,cur,rfl,hb',rest⟩
 ·exact .inl hx
 ·exact .inr ⟨g,cap,cur,rfl,by omega,rest⟩
set_option maxRecDepth 100000 in
theorem blank_yes (c:UInt8) (hb:blankC c = true) (w:World):Calls Tryz.prog 105 #[.int .i32 c.toNat] w fun e w' => e = .returned (.bool true) ∧ w = w':=by
 rcases blank_cases c with ⟨rfl,h⟩ | ⟨_,rfl,h⟩ | ⟨_,_,rfl,h⟩ | ⟨_,_,_,h⟩
 ·have q1:(((32:UInt8).toNat:Int) == 32) = true:=rfl
  go_enter Tryz.func105,Tryz.ntmps105
  go_wp2
  go_ret
  exact ⟨rfl,rfl⟩
 ·have q1:(((9:UInt8).toNat:Int) == 32) = false:=rfl
  have q2:(((9:UInt8).toNat:Int) == 9) = true:=rfl
  go_enter Tryz.func105,Tryz.ntmps105
  go_wp2
  go_ret
  exact ⟨rfl,rfl⟩
 ·have q1:(((13:UInt8).toNat:Int) == 32) = false:=rfl
  have q2:(((13:UInt8).toNat:Int) == 9) = false:=rfl
  have q3:(((13:UInt8).toNat:Int) == 13) = true:=rfl
  go_enter Tryz.func105,Tryz.ntmps105
  go_wp2
  go_ret
  exact ⟨rfl,rfl⟩
 ·rw [h] at hb; cases hb
set_option maxRecDepth 100000 in
theorem blank_no (k:Nat) (h1:k ≠ 32) (h2:k ≠ 9) (h3:k ≠ 13) (w:World):Calls Tryz.prog 105 #[.int .i32 k] w fun e w' => e = .returned (.bool false) ∧ w = w':=by
 have q1:((k:Int) == 32) = false:=by rw [beq_eq_false_iff_ne]; omega
 have q2:((k:Int) == 9) = false:=by rw [beq_eq_false_iff_ne]; omega
 have q3:((k:Int) == 13) = false:=by rw [beq_eq_false_iff_ne]; omega
 clear h1 h2 h3
 go_enter Tryz.func105,Tryz.ntmps105
 go_wp2
 go_ret
 exact ⟨rfl,rfl⟩
theorem high_blank {c:UInt8} (h:128 ≤ c.toNat):blankC c = false:=by
 rcases blank_cases c with ⟨rfl,_⟩ | ⟨_,rfl,_⟩ | ⟨_,_,rfl,_⟩ | ⟨_,_,_,h'⟩
 ·exact absurd h (by decide)
 ·exact absurd h (by decide)
 ·exact absurd h (by decide)
 ·exact h'
theorem blank_nat {c:UInt8} (h:blankC c = false):c.toNat ≠ 32 ∧ c.toNat ≠ 9 ∧ c.toNat ≠ 13:=by
 rcases blank_cases c with ⟨_,h'⟩ | ⟨_,_,h'⟩ | ⟨_,_,_,h'⟩ | ⟨h1,h2,h3,_⟩
 ·rw [h] at h'; cases h'
 ·rw [h] at h'; cases h'
 ·rw [h] at h'; cases h'
 ·exact ⟨fun e => h1 (UInt8.toNat_inj.1 e),fun e => h2 (UInt8.toNat_inj.1 e),fun e => h3 (UInt8.toNat_inj.1 e)⟩

theorem drop_join {t:Bytes} {b pos q:Nat} (h1:b ≤ pos) (h2:pos ≤ q) (h3:pos ≤ t.length):(t.take pos).drop b ++ (t.take q).drop pos = (t.take q).drop b:=by
 have e:t.take q = t.take pos ++ (t.take q).drop pos:=by
  have:=(List.take_append_drop pos (t.take q)).symm
  rw [List.take_take,Nat.min_eq_left h2] at this
  exact this
 conv => rhs; rw [e]
 rw [List.drop_append_of_le_length (by simp; omega)]
theorem decode_key (t0:ByteArray) (t:Bytes) (htl:t0.data.toList = t) (pos:Nat) (h:pos < t0.size) (ht:pos < t.length) :
  (blankC (t[pos]'ht) = true ∧ (Utf8.decode t0 pos).1 = (t[pos]'ht).toNat ∧ (Utf8.decode t0 pos).2 = 1) ∨
  ((Utf8.decode t0 pos).1 ≠ 32 ∧ (Utf8.decode t0 pos).1 ≠ 9 ∧ (Utf8.decode t0 pos).1 ≠ 13 ∧ 1 ≤ (Utf8.decode t0 pos).2 ∧ pos + (Utf8.decode t0 pos).2 ≤ t0.size ∧ ∀ j (hj:j < t.length),pos ≤ j → j < pos + (Utf8.decode t0 pos).2 → blankC (t[j]'hj) = false):=by
 subst htl
 have hc:∀ j (h1:j < t0.size) (h2:j < t0.data.toList.length),t0[j]'h1 = t0.data.toList[j]'h2:=fun j h1 h2 => rfl
 by_cases ha:(t0[pos]'h).toNat < 128
 ·rw [decode_ascii t0 pos h ha]
  cases hb:blankC (t0.data.toList[pos]'ht) with
  | true => exact .inl ⟨rfl,by rw [hc pos h ht],rfl⟩
  | false =>
   obtain ⟨h1,h2,h3⟩:=blank_nat hb
   refine .inr ⟨by rw [hc pos h ht]; exact h1,by rw [hc pos h ht]; exact h2,by rw [hc pos h ht]; exact h3,Nat.le_refl _,by omega,fun j hj q1 q2 => ?_⟩
   have:j = pos:=by omega
   subst this
   exact hb
 ·have hh:=decode_high t0 pos h (by omega)
  obtain ⟨hm1,hm2⟩:=decode_multi t0 pos h (by omega)
  exact .inr ⟨by omega,by omega,by omega,hh.2,hm1,fun j hj q1 q2 => high_blank (hm2 j q1 q2 (by rw [size_list]; exact hj))⟩
/-- Where the walk over the text's signs stands. -/
def WdR (w:World) (g:Nat) (t0:ByteArray) (t:Bytes) (m:Nat) (ov bv:Value) (wr:World):Prop:=
 ∃ (o:List Bytes) (cur:Bytes) (k pos:Nat),wr.heap[g]? = some (.stringIter t0 pos) ∧ wr.ownsRow (g + 1) 9 1 ov k (vs o) ∧ Below w.heap.size w wr ∧ pos ≤ m ∧ k ≤ pos ∧ g < wr.heap.size ∧ Hid (o.length = k) ∧ Hid ((t.take pos).foldl stW ([],[]) = (o,cur)) ∧
  ((bv = .int .i64 (-1) ∧ Hid (cur = [])) ∨ ∃ b:Nat,bv = .int .i64 b ∧ b < pos ∧ Hid (cur = (t.take pos).drop b))
theorem iterPos_at {wr:World} {g:Nat} {s:ByteArray} {pos:Nat} (h:wr.heap[g]? = some (.stringIter s pos)):wr.iterPos g = pos:=by unfold World.iterPos; rw [h]
set_option maxHeartbeats 4000000 in
set_option maxRecDepth 100000 in
theorem words_any (s0:ByteArray) (s:Bytes) (hs0:s0.data.toList = s) (w:World) (hmx:MaxAt w) (hs:s.length ≤ 100000) :
  Calls Tryz.prog 63 #[.string s0] w fun e w' => ∃ v,e = .returned v ∧ w'.ownsRow w.heap.size 9 1 v (wordsL s).length (vs (wordsL s)) ∧ Below w.heap.size w w':=by
 obtain ⟨i0,hi0,hz0,hz1,hz2⟩:=info_parts infoS
 obtain ⟨t,ht⟩:∃ t,hashL s = t:=⟨_,rfl⟩
 have hcut:(Lib.cut s0.data.toList [35]).1 = t:=by rw [hs0,cut_hash,ht]
 obtain ⟨t0,ht0⟩:∃ t0:ByteArray,(⟨(Lib.cut s0.data.toList [35]).1.toArray⟩:ByteArray) = t0:=⟨_,rfl⟩
 have htl:t0.data.toList = t:=by rw [← ht0,← hcut]
 obtain ⟨m,hm⟩:∃ m,t0.size = m:=⟨_,rfl⟩
 have hml:t.length = m:=by rw [← htl,← hm,size_list]
 have hm1:m ≤ 100000:=by rw [← hml,← ht]; exact Nat.le_trans (hash_le s) hs
 have HC:=Lib.hid (cut_any s0 ⟨#[35]⟩ w hmx (by rw [size_list,hs0]; omega))
 have HT0:=Lib.hid ht0
 have HTL:=Lib.hid htl
 have HML:=Lib.hid hml
 have hwd:wordsL s = finS (t.foldl stW ([],[])):=by unfold wordsL; rw [ht]
 have HWD:=Lib.hid hwd
 clear hs0 ht hcut ht0 htl hmx hs hml hwd
 go_enter Tryz.func63,Tryz.ntmps63
 go_wp2_with fail
 refine HC.out.mono ?_
 rintro e w1 ⟨rfl,nd,rfl⟩
 rw [HT0.out]
 have hB1:Below w.heap.size w (w.drewN nd):=(Below.refl _ _).trans ⟨rfl,rfl,rfl,Nat.le_refl _,fun _ _ => rfl⟩
 clear HC
 generalize (Lib.cut s0.data.toList [35]).2.1.toArray = x1
 generalize (Lib.cut s0.data.toList [35]).2.2 = x2
 generalize w.drewN nd = w1 at *
 have hs1:=hB1.size
 obtain ⟨g,hg⟩:∃ g,w1.heap.size = g:=⟨_,rfl⟩
 go_wp2
 try rw [hg]
 go_loopw [3,4] (fun ov bv wr => WdR w g t0 t m ov bv wr) (fun _ _ wr => m - wr.iterPos g)
 case atStart => exact ⟨[],[],0,0,by rw [← hg]; exact World.iter_heap w1 t0 0,World.ownsRow_nil _ _ _ _,hB1.trans (((Below.refl _ _).alloc (Nat.le_refl _) _).mono (by omega)),by omega,by omega,by rw [← hg]; simp [World.iter],rfl,rfl,.inl ⟨rfl,rfl⟩⟩
 case round =>
  have hwg:w.heap.size ≤ g:=by omega
  clear hB1 hg hs1
  obtain ⟨o,cur,k,pos,hit,hown,hB,hpm,hkp,hgw,HO,HF,hbv⟩:=hrel
  have hs:=hB.size
  have hps:=iterPos_at hit
  by_cases hp:pos < m
  ·have hp0:pos < t0.size:=by omega
   have hpt:pos < t.length:=by rw [HML.out]; exact hp
   have hkey:=decode_key t0 t HTL.out pos hp0 hpt
   obtain ⟨c,hc⟩:∃ c,t[pos]'hpt = c:=⟨_,rfl⟩
   have hfold:=fold_next (f:=stW) (a:=(([]:List Bytes),([]:Bytes))) hpt
   rw [hc,HF.out] at hfold
   rw [hc] at hkey
   have hnx:∀ ty,(Instr.next (.pointer (some ⟨g,0,none⟩)) true ty).run Tryz.prog wr = _:=fun ty => Lib.run_next_any_at wr g t0 pos ty hit hp0
   obtain ⟨r,hr⟩:∃ r,(Utf8.decode t0 pos).1 = r:=⟨_,rfl⟩
   obtain ⟨wd,hwd⟩:∃ wd,(Utf8.decode t0 pos).2 = wd:=⟨_,rfl⟩
   simp only [hr,hwd] at hnx
   rw [hr,hwd] at hkey
   have hit2:=Lib.iterAt_heap wr g t0 pos (pos + wd) hit
   have hB2:=Lib.below_iterAt hB (k:=g) hwg t0 (pos + wd)
   have hown2:=ownsRow_iterAt hown (k:=g) (by omega) t0 (pos + wd)
   have hgw2:g < (wr.iterAt g t0 (pos + wd)).heap.size:=lt_of_block hit2
   obtain ⟨W1,hW1⟩:∃ W1,W1 = wr.iterAt g t0 (pos + wd):=⟨_,rfl⟩
   rw [← hW1] at hnx hit2 hB2 hown2 hgw2
   clear hW1 hit hown hB hc hr hwd hgw
   rcases hkey with ⟨hbl,hrc,hw1⟩ | ⟨n1,n2,n3,hw1,hpw,hall⟩
   ·subst hrc hw1
    rw [stW_blank hbl] at hfold
    have HBL:=Lib.hid hbl
    clear hbl
    rcases hbv with ⟨rfl,hcur⟩ | ⟨b,rfl,hbp,hcur⟩
    ·rw [if_pos hcur.out] at hfold
     have HFN:=Lib.hid hfold
     clear hfold hcur HF
     go_wp2_with fail
     refine (blank_yes c HBL.out _).mono ?_
     rintro e w2 ⟨rfl,rfl⟩
     go_wp2_with fail
     go_roundw
     case rel => exact ⟨o,[],k,pos + 1,hit2,hown2,hB2,by omega,by omega,hgw2,HO,HFN,.inl ⟨rfl,rfl⟩⟩
     case measure => rw [iterPos_at hit2,hps]; omega
    ·have hne:cur ≠ []:=by
      intro e
      have:=congrArg List.length (hcur.out.symm.trans e)
      rw [List.length_drop,List.length_take,HML.out] at this
      simp at this
      omega
     rw [if_neg hne] at hfold
     have hx:vs [cur] = [.string (t0.extract b pos)]:=by rw [ext_bs,HTL.out,← hcur.out]; rfl
     have HX:=Lib.hid hx
     have HFN:=Lib.hid hfold
     clear hfold hcur HF hne hx
     go_wp2_with fail
     refine (blank_yes c HBL.out _).mono ?_
     rintro e w2 ⟨rfl,rfl⟩
     have hsW:=hB2.size
     have hslc:∀ w0:World,(Instr.slice 9 (.string t0) (some (.int .i64 (b:Int))) (some (.int .i64 (pos:Int))) none).run Tryz.prog w0 = .ok (.string (t0.extract b pos)) w0:=fun w0 => by
      have h:=run_slice_string (P:=Tryz.prog) w0 9 t0 .i64 .i64 (b:Int) (pos:Int) Tryz.underlying9 (by omega) (by omega) (by omega)
      rw [Int.toNat_natCast,Int.toNat_natCast] at h
      exact h
     go_wp2_with (first | (at_builtin; refine wpList_append_own _ rfl _ _ 92 rfl (g + 1) 9 i0 (.string ByteArray.empty) 1 16 Tryz.underlying92 hi0 hz0 hz1 hz2 rfl (by decide) _ _ _ rfl (hown2.alloc _) ⟨W1.heap.size,0,none⟩ 1 1 [.string (t0.extract b pos)] rfl rfl (cell_one_new _ _ _) (fun x hx => by simp at hx; subst hx; rfl) (by unfold maxLen; omega) (by omega) (by simp; omega) ?_; intro v' w3 hown' hgrow3 hnil3))
     have hownN:w3.ownsRow (g + 1) 9 1 v' (k + 1) (vs (o ++ [cur])):=by rw [vs_append,HX.out]; exact hown'
     have hBN:Below w.heap.size w w3:=(hB2.alloc hsW _).grown hgrow3 (by simp; omega) (fun q hq => by have:=(hown2.lt q hq).1; omega)
     have hitN:w3.heap[g]? = some (.stringIter t0 (pos + 1)):=by
      rw [hgrow3.block g (by simp; omega) (fun h => by have:=(hown2.lt _ h.symm).1; omega),Below.heap_alloc _ _ _ hgw2]; exact hit2
     clear hown' hgrow3 hnil3
     go_wp2
     go_roundw
     case rel => exact ⟨o ++ [cur],[],k + 1,pos + 1,hitN,hownN,hBN,by omega,by omega,lt_of_block hitN,by simp [Hid,HO.out],HFN,.inl ⟨rfl,rfl⟩⟩
     case measure => rw [iterPos_at hitN,hps]; omega
   ·have hfo:=fold_other HF.out wd (by rw [HML.out]; omega) hall
    clear hfold hall HF
    rcases hbv with ⟨rfl,hcur⟩ | ⟨b,rfl,hbp,hcur⟩
    ·rw [hcur.out,List.nil_append] at hfo
     have HFN:=Lib.hid hfo
     clear hfo hcur
     go_wp2_with fail
     refine (blank_no r n1 n2 n3 _).mono ?_
     rintro e w2 ⟨rfl,rfl⟩
     go_wp2_with fail
     go_roundw
     case rel => exact ⟨o,_,k,pos + wd,hit2,hown2,hB2,by omega,by omega,hgw2,HO,HFN,.inr ⟨pos,by go_num,by omega,rfl⟩⟩
     case measure => rw [iterPos_at hit2,hps]; omega
    ·rw [hcur.out,drop_join (by omega) (by omega) (by rw [HML.out]; omega)] at hfo
     have HFN:=Lib.hid hfo
     clear hfo hcur
     go_wp2_with fail
     refine (blank_no r n1 n2 n3 _).mono ?_
     rintro e w2 ⟨rfl,rfl⟩
     go_wp2_with fail
     go_roundw
     case rel => exact ⟨o,_,k,pos + wd,hit2,hown2,hB2,by omega,by omega,hgw2,HO,HFN,.inr ⟨b,rfl,by omega,rfl⟩⟩
     case measure => rw [iterPos_at hit2,hps]; omega
  ·have hpe:pos = m:=by omega
   subst hpe
   have hnx:∀ ty,(Instr.next (.pointer (some ⟨g,0,none⟩)) true ty).run Tryz.prog wr = _:=fun ty => Lib.run_next_end_at wr g t0 pos ty hit (by omega)
   have htk:t.take pos = t:=List.take_of_length_le (by rw [HML.out]; omega)
   have hf:=HF.out
   rw [htk] at hf
   have hw:=HWD.out
   rw [hf] at hw
   have hown2:=hown
   obtain ⟨W1,hW1⟩:∃ W1,W1 = wr:=⟨_,rfl⟩
   rw [← hW1] at hnx hown2 hB hgw
   subst hW1
   rcases hbv with ⟨rfl,hcur⟩ | ⟨b,rfl,hbp,hcur⟩
   ·have hw2:wordsL s = o:=by rw [hw]; simp [finS,hcur.out]
    have HW:=Lib.hid hw2
    clear hw hw2 hf htk hcur HF HWD
    go_wp2_with fail
    go_ret
    exact ⟨_,rfl,by rw [HW.out,HO.out]; exact own_base hown (by omega),hB⟩
   ·have hcl:cur.length = pos - b:=by rw [hcur.out,htk,List.length_drop,HML.out]
    have hne:cur ≠ []:=by intro e; rw [e] at hcl; simp at hcl; omega
    have hw2:wordsL s = o ++ [cur]:=by rw [hw]; simp [finS,hne]
    have HW:=Lib.hid hw2
    have hx:vs [cur] = [.string (t0.extract b pos)]:=by rw [ext_bs,HTL.out,← hcur.out]; rfl
    have HX:=Lib.hid hx
    clear hw hw2 hf htk hcur HF HWD hne hcl hx
    go_wp2_with (first | (at_builtin; refine wpList_append_own _ rfl _ _ 92 rfl (g + 1) 9 i0 (.string ByteArray.empty) 1 16 Tryz.underlying92 hi0 hz0 hz1 hz2 rfl (by decide) _ _ _ rfl (hown2.alloc _) ⟨W1.heap.size,0,none⟩ 1 1 [.string (t0.extract b pos)] rfl rfl (cell_one_new _ _ _) (fun x hx => by simp at hx; subst hx; rfl) (by unfold maxLen; omega) (by omega) (by simp; omega) ?_; intro v' w3 hown' hgrow3 hnil3))
    have hownN:w3.ownsRow (g + 1) 9 1 v' (wordsL s).length (vs (wordsL s)):=by
     rw [HW.out,vs_append,HX.out,List.length_append,HO.out]; exact hown'
    have hBN:Below w.heap.size w w3:=(hB.alloc hs _).grown hgrow3 (by simp; omega) (fun q hq => by have:=(hown2.lt q hq).1; omega)
    clear hown' hgrow3 hnil3
    go_wp2
    go_ret
    exact ⟨_,rfl,own_base hownN (by omega),hBN⟩
end Go.Proofs.YtjldgcebadojiaaGreatDoor
