/- Several texts of mine in one: Lib, Mem, App, Open, Appl, Check, Step. No condition. -/
import Derived.WalkKit
import Derived.ProofKit
import Derived.OpenShut
import Derived.ChangeOld
import Derived.BigQuiet
import Derived.Deep.QuietTactic
import Derived.Lib.QuietBelow
import Derived.Lib.Hide
import Derived.Deep.DeepCutAuto
import Derived.Maps.AppendAt
import Derived.Deep.RegionLaw
import Derived.Deep.Slices
import Derived.Deep.Fields
import Derived.Test.YtjldgcebadojiaaGreatDoorChecked
namespace Go.Proofs.YtjldgcebadojiaaGreatDoor
open Go.ChangeShapes Go.WideShapes Go.ChangeAt Go.RowKit Go.Sort
set_option linter.unusedSimpArgs false
set_option linter.unusedVariables false

theorem bcell {W w1:World} (hb:Below W.heap.size W w1):(∀ b o,b < W.heap.size → w1.cell? ⟨b,o,none⟩ = W.cell? ⟨b,o,none⟩) ∧ (∀ b o,b < W.heap.size → w1.frozen? ⟨b,o,none⟩ = W.frozen? ⟨b,o,none⟩):=
 ⟨fun b o h => hb.cell (p:=⟨b,o,none⟩) h,fun b o h => hb.frozen (p:=⟨b,o,none⟩) h⟩

theorem _root_.Go.Calls.regrown_same {P:Program} {f:FuncId} {args:Array Value} {w:World} {d:Nat} {os:Array Obj} {v:Value}
  (h:Calls P f args (grow (redrawn w d) os) fun e w' => e = .returned v ∧ grow (redrawn w d) os = w'):Calls P f args (grow (redrawn w d) os) fun e w'' => e = .returned v ∧ ∃ p:Regrown,w'' = grow (redrawn w p.d) p.os:=
 h.mono fun _ _ ⟨he,hw⟩ => ⟨he,⟨d,os⟩,hw.symm⟩

theorem wpOps_of_quiet {P:Program} {C:World → Prop} {Q:Exit → Act → World → Prop} (L:List Oper):∀ (l:List Oper) (k:Nat) (a:Act) (w:World),(∀ j,l[j]? = L[k + j]?) → C w →
  wpQuiet P L.toArray C (fun a' => ∀ w',C w' → Q .normal a' w') l a → wpOps P L.toArray Q (List.range' k l.length) a w
 | [],k,a,w,_,hC,h => h w hC
 | o :: l,k,a,w,hl,hC,h => by
  have h0:L.toArray[k]? = some o:=by simpa using (hl 0).symm
  have hn:∀ j,l[j]? = L[k + 1 + j]?:=fun j => by have:=hl (j + 1); simpa [Nat.add_assoc,Nat.add_comm 1 j] using this
  simp only [List.length_cons,List.range'_succ,wpOps,h0]
  simp only [wpQuiet] at h
  split
  ·rename_i hw
   rw [if_pos hw] at h
   exact .inl (Oper.wp_of_quiet hC (fun a' w' hC' hK => wpOps_of_quiet L l (k + 1) a' w' hn hC' hK) h)
  ·rename_i hw
   rw [if_neg hw] at h
   exact wpOps_of_quiet L l (k + 1) _ w hn hC h
theorem wp_region_text_below {P:Program} {id:Nat} {Q:Exit → Act → World → Prop} {a:Act} {w:World} {l:List Oper}
  (h:wpQuiet P l.toArray (fun w' => ∃ p:Regrown,w' = grow (redrawn w p.d) p.os) (fun a' => ∀ w',(∃ p:Regrown,w' = grow (redrawn w p.d) p.os) → Q .normal a' w') l a):(Code.region id l.toArray false).wp P Q a w:=by
 refine wp_region ?_
 have:=wpOps_of_quiet (C:=fun w' => ∃ p:Regrown,w' = grow (redrawn w p.d) p.os) (Q:=Q) l l 0 a w (by simp) ⟨⟨w.drawn,#[]⟩,by rw [grow_empty]; rfl⟩ h
 simpa [List.range_eq_range'] using this
theorem cell_of_block {w:World} {b:Nat} {cs:Array Value} {t:TypeId} {fr:Nat × Nat} (h:w.heap[b]? = some (.cells cs t fr)) (o:Nat):w.cell? ⟨b,o,none⟩ = cs[o]?:=by
 simp [World.cell?,h]
section
variable {H:Type} {enc:TypeId × Value → H} {P:Program}

def flatB (P:Program):Nat → TypeId → Bool
 | 0,_ => false
 | n + 1,t =>
  match P.underlying t with
  | some (.int .i64) => true
  | some (.struct fs) => fs.toList.all (fun f => flatB P n f.type) && (List.range (P.cellsOf t)).all fun i => fs.toList.any fun f => decide (f.offset ≤ i) && decide (i < f.offset + P.cellsOf f.type)
  | some (.array k e) => flatB P n e && decide (P.cellsOf t = k * P.cellsOf e)
  | _ => false

theorem flat_cell {w:World} {base:Nat} {spare:Nat → Bool} {held:Bool}:∀ (n:Nat) {fuel:Nat} {t:TypeId} {cs:List Value} {x:DataW H × List MemPlace},flatB P n t = true →
  DataW.trod enc P w base spare held fuel t cs = some x → ∀ c ∈ cs,∃ m,c = .int .i64 m ∧ (Lit.int .i64 m).wf = true
 | 0,_,_,_,_,h,_ => by simp [flatB] at h
 | n + 1,fuel,t,cs,x,h,ht => by
  unfold flatB at h
  split at h
  ·rename_i hu
   obtain ⟨m,rfl,_,hw⟩:=DataW.trod_int hu ht
   intro c hc
   simp at hc
   exact ⟨m,hc,hw⟩
  ·rename_i fs hu
   simp only [Bool.and_eq_true,List.all_eq_true,List.any_eq_true,decide_eq_true_eq,List.mem_range] at h
   obtain ⟨h1,h2⟩:=h
   obtain ⟨xs,m,_,_,hlen,hxl,hf⟩:=DataW.trod_struct hu ht
   intro c hc
   obtain ⟨i,hi,rfl⟩:=List.getElem_of_mem hc
   obtain ⟨f,hfm,hlo,hhi⟩:=h2 i (by omega)
   obtain ⟨j,hj,hjf⟩:=List.getElem_of_mem hfm
   have hj':fs[j]? = some f:=by
    rw [← Array.getElem?_toList,List.getElem?_eq_getElem hj,hjf]
   have h3:=hf j f hj'
   have hjx:xs[j]? = some (xs[j]'(by rw [hxl]; simpa using hj)):=List.getElem?_eq_getElem _
   rw [hjx] at h3
   refine flat_cell n (h1 f hfm) h3 _ ?_
   rw [List.mem_take_iff_getElem]
   exact ⟨i - f.offset,by simp; omega,by simp; congr 1; omega⟩
  ·rename_i k e hu
   simp only [Bool.and_eq_true,decide_eq_true_eq] at h
   obtain ⟨h1,h2⟩:=h
   obtain ⟨xs,m,_,_,hlen,hxl,hf⟩:=DataW.trod_array hu ht
   intro c hc
   obtain ⟨i,hi,rfl⟩:=List.getElem_of_mem hc
   have hpos:0 < P.cellsOf e:=by
    rcases Nat.eq_zero_or_pos (P.cellsOf e) with h0 | h0
    ·rw [h0] at h2; omega
    ·exact h0
   have hd:i / P.cellsOf e < k:=by rw [Nat.div_lt_iff_lt_mul hpos]; omega
   have h3:=hf (i / P.cellsOf e) hd
   have hjx:xs[i / P.cellsOf e]? = some (xs[i / P.cellsOf e]'(by omega)):=List.getElem?_eq_getElem _
   rw [hjx] at h3
   refine flat_cell n h1 h3 _ ?_
   rw [List.mem_take_iff_getElem]
   have hm:=Nat.mod_lt i hpos
   have hdm:=Nat.div_add_mod i (P.cellsOf e)
   have hmul:P.cellsOf e * (i / P.cellsOf e) = i / P.cellsOf e * P.cellsOf e:=Nat.mul_comm _ _
   exact ⟨i % P.cellsOf e,by simp; omega,by simp; congr 1; omega⟩
  ·cases h

theorem ints_of_cells {cs:List Value} (h:∀ c ∈ cs,∃ m,c = .int .i64 m ∧ (Lit.int .i64 m).wf = true):∃ ns:List Int,cs = ns.map (Value.int .i64) ∧ ∀ m ∈ ns,(Lit.int .i64 m).wf = true:=by
 induction cs with
 | nil => exact ⟨[],rfl,by simp⟩
 | cons c cs ih =>
  obtain ⟨m,rfl,hm⟩:=h c (by simp)
  obtain ⟨ns,rfl,hn⟩:=ih (fun c hc => h c (by simp [hc]))
  exact ⟨m :: ns,rfl,by simpa [hm] using hn⟩

theorem trodAll_below (hl:laidOutB P = true) {W W':World} (hb:Below W.heap.size W W'):∀ (ts:List TypeId) (vs:List Value) (ds:List (DataW H)) (p:List MemPlace),
  (∀ t ∈ ts,P.readableRec t = true ∧ t < P.types.size) → DataW.TrodAll enc P W 0 (fun _ => true) true ts vs ds p → (∀ x ∈ p,x.block < W.heap.size) →
  DataW.TrodAll enc P W' 0 (fun b => decide (b < W.heap.size)) true ts vs ds p
 | [],vs,ds,p,_,h,_ => by
  obtain ⟨rfl,rfl,rfl⟩:=trodAll_nil h
  rfl
 | t :: ts,vs,ds,p,hts,h,hp => by
  obtain ⟨v,vs',d,ds',p',q',rfl,rfl,rfl,h1,h2⟩:=trodAll_cons h
  obtain ⟨hr,hrow⟩:=hts t (by simp)
  exact trodAll_cons_mk (Below.trod hl hr hrow h1 hb (fun x hx => hp x (by simp [hx]))) (trodAll_below hl hb ts vs' ds' q' (fun t ht => hts t (by simp [ht])) h2 (fun x hx => hp x (by simp [hx])))

theorem law_post {f:Func} {s:ChangeSpec} {W W':World} {args:Array Value} {ds gs:List (DataW H)} {before:List MemPlace} {tb:TypeId} (hl:laidOutB P = true)
  (hts:(f.params.toList.all fun t => P.readableRec t && decide (t < P.types.size)) = true) (hr:f.resultTypes = #[tb]) (hb:P.underlying tb = some .bool) (hv:s.vars = [])
  (hs:s.fn H (ds ++ gs) = { results:=[.lit (.bool true)],args:=ds }) (hW:DataW.Whole enc P f.params.toList s.vars false W args.toList ds gs before) (bel:Below W.heap.size W W') :
  s.post enc P f false true false false W args (.bool true) W':=by
 have hlt:∀ p ∈ before,p.block < W.heap.size:=fun p hp => hW.lt p hp
 have hW':=hW
 obtain ⟨p,q,hA,hV,rfl,hfz,hnd⟩:=hW
 refine ⟨ds,gs,_,[],p,[],hW',?_,?_,?_,bel.frame _,fun h => by cases h⟩
 ·rw [hr,hs]
  exact trodAll_mk1 (shut_bool hb _)
 ·rw [hs]
  refine trodAll_below hl bel _ _ _ _ (fun t ht => ?_) hA (fun x hx => hlt x (by simp [hx]))
  have:=List.all_eq_true.1 hts t ht
  simpa using this
 ·rw [hv,hs]
  rfl
end
end Go.Proofs.YtjldgcebadojiaaGreatDoor
namespace Go.Proofs.YtjldgcebadojiaaGreatDoor
open Go.ChangeShapes Go.WideShapes Go.ChangeAt Go.RowKit Go.Sort
set_option linter.unusedSimpArgs false
set_option linter.unusedVariables false

def Blok (w:World) (g:Nat) (t:TypeId) (cs:Array Value):Prop:=w.heap[g]? = some (.cells cs t (0,0))
section
variable {w w':World} {g:Nat} {t:TypeId} {cs:Array Value}
theorem Blok.lt (h:Blok w g t cs):g < w.heap.size:=lt_of_block h
theorem Blok.cell (h:Blok w g t cs) (i:Nat):w.cell? ⟨g,i,none⟩ = cs[i]?:=cell_of_row w g i cs t (0,0) h
theorem Blok.free (h:Blok w g t cs) (i:Nat):w.frozen? ⟨g,i,none⟩ = false:=by
 unfold Blok at h; simp [World.frozen?,h]
theorem Blok.grown {row:Option Nat} (h:Blok w g t cs) (hb:w.grownBy w' row) (hg:some g ≠ row):Blok w' g t cs:=(hb.block g h.lt hg).trans h
theorem Blok.below {B:Nat} (h:Blok w g t cs) (hb:Below B w w') (hg:g < B):Blok w' g t cs:=(hb.block g hg).trans h
theorem Blok.over {W:World} {row:Option Nat} (h:Blok w g t cs) (hg:W.grownBy w' row) (hr:row ≠ some g) (hb:Below w.heap.size w W):Blok w' g t cs:=(h.below hb h.lt).grown hg (fun e => hr e.symm)
theorem grown_of_below {row:Option Nat} (hb:Below w.heap.size w w'):w.grownBy w' row:=⟨hb.os,hb.tape,hb.output,hb.size,fun k hk _ => hb.block k hk⟩
theorem grown_refl (w:World) (row:Option Nat):w.grownBy w row:=⟨rfl,rfl,rfl,Nat.le_refl _,fun _ _ _ => rfl⟩
theorem grown_trans {w'':World} {row:Option Nat} (h:w.grownBy w' row) (k:w'.grownBy w'' row):w.grownBy w'' row:=
 ⟨k.os.trans h.os,k.tape.trans h.tape,k.output.trans h.output,Nat.le_trans h.size k.size,fun i hi hr => (k.block i (Nat.lt_of_lt_of_le hi h.size) hr).trans (h.block i hi hr)⟩
theorem grown_set {g:Nat} (w:World) (i:Nat) (u:Value):w.grownBy (w.setCell ⟨g,i,none⟩ u) (some g):=
 ⟨rfl,rfl,rfl,by simp,fun k _ hne => Below.heap_setCell w ⟨g,i,none⟩ u k (fun e => hne (by simp at e; rw [e]))⟩
end
theorem slice_of_own {w:World} {base:Nat} {e:TypeId} {size n:Nat} {v:Value} {xs:List Value} (h:w.ownsRow base e size v n xs):∃ A c,v = .slice A n c:=by
 rcases h.2 with ⟨rfl,rfl⟩ | ⟨g',cap,cur,rfl,_,_,_⟩
 ·exact ⟨_,_,rfl⟩
 ·exact ⟨_,_,rfl⟩
theorem lit_cells (w:World) (cs:Array Value) (t:TypeId) (g:Nat) (hg:g = w.heap.size):∀ j u,cs.toList[j]? = some u → (w.alloc (.cells cs t)).cell? ((⟨g,0,none⟩:Addr).add j) = some u:=by
 intro j u hj
 subst hg
 have e:((⟨w.heap.size,0,none⟩:Addr).add j) = ⟨w.heap.size,j,none⟩:=by
  unfold Addr.add; split <;> simp_all
 rw [e]
 rw [cell_of_block (cs:=cs) (t:=t) (fr:=(0,0)) (by show (w.heap.push _)[w.heap.size]? = _; simp)]
 simpa using hj
end Go.Proofs.YtjldgcebadojiaaGreatDoor
namespace Go.Proofs.YtjldgcebadojiaaGreatDoor
open Go.ChangeShapes Go.WideShapes Go.ChangeAt Go.RowKit Go.Sort
set_option linter.unusedSimpArgs false
set_option linter.unusedVariables false

structure Kept (S:Nat → Prop) (w w':World):Prop where
 os:w'.os = w.os
 tape:w'.tape = w.tape
 output:w'.output = w.output
 size:w.heap.size ≤ w'.heap.size
 block:∀ k,k < w.heap.size → ¬ S k → w'.heap[k]? = w.heap[k]?
section
variable {S:Nat → Prop} {w w' w'':World}
theorem Kept.refl (S:Nat → Prop) (w:World):Kept S w w:=⟨rfl,rfl,rfl,Nat.le_refl _,fun _ _ _ => rfl⟩
theorem Kept.below (h:Kept (fun _ => False) w w'):Below w.heap.size w w':=⟨h.os,h.tape,h.output,h.size,fun k hk => h.block k hk (fun x => x)⟩
theorem Kept.trans {S':Nat → Prop} (h:Kept S w w') (k:Kept S' w' w'') (hS:∀ i,i < w.heap.size → S' i → S i):Kept S w w'':=
 ⟨k.os.trans h.os,k.tape.trans h.tape,k.output.trans h.output,Nat.le_trans h.size k.size,fun i hi hn => (k.block i (Nat.lt_of_lt_of_le hi h.size) (fun x => hn (hS i hi x))).trans (h.block i hi hn)⟩
theorem Kept.drew (h:Kept S w w'):Kept S w w'.drew:=⟨h.os,h.tape,h.output,h.size,h.block⟩
theorem Kept.set {g:Nat} (h:Kept S w w') (hg:g < w.heap.size → S g) (i:Nat) (u:Value):Kept S w (w'.setCell ⟨g,i,none⟩ u):=
 ⟨h.os,h.tape,h.output,by simpa using h.size,fun k hk hn => (Below.heap_setCell w' ⟨g,i,none⟩ u k (fun e => hn (by simp at e; subst e; exact hg hk))).trans (h.block k hk hn)⟩
theorem Kept.alloc (h:Kept S w w') (o:Obj):Kept S w (w'.alloc o):=
 ⟨h.os,h.tape,h.output,by have:=h.size; simp; omega,fun k hk hn => (Below.heap_alloc w' o k (by have:=h.size; omega)).trans (h.block k hk hn)⟩
theorem Kept.blok {g:Nat} {t:TypeId} {cs:Array Value} (k:Kept S w w') (h:Blok w g t cs) (hn:¬ S g):Blok w' g t cs:=(k.block g h.lt hn).trans h
end
end Go.Proofs.YtjldgcebadojiaaGreatDoor
namespace Go.Proofs.YtjldgcebadojiaaGreatDoor
open Go.ChangeShapes Go.WideShapes Go.ChangeAt Go.RowKit Go.Sort
set_option linter.unusedSimpArgs false
set_option linter.unusedVariables false

theorem add_block (a:Addr) (n:Nat):(a.add n).block = a.block:=by unfold Addr.add; split <;> rfl
theorem add_zero_ (a:Addr):a.add 0 = a:=by unfold Addr.add; simp
theorem add_plus (a:Addr) (i j:Nat):(a.add i).add j = a.add (i + j):=by
 unfold Addr.add
 by_cases hi:i = 0 <;> by_cases hj:j = 0 <;> simp [hi,hj,Nat.add_assoc]

structure Lst (w:World) (B k:Nat) (A:Option Addr) (n:Nat) (xs:List Value):Prop where
 len:xs.length = n * k
 at_:0 < n → ∃ ad,A = some ad ∧ ad.block < B ∧ ∀ j u,xs[j]? = some u → w.cell? (ad.add j) = some u
section
variable {w w':World} {B k n:Nat} {A:Option Addr} {xs:List Value}
theorem Lst.kept {S:Nat → Prop} (h:Lst w B k A n xs) (hk:∀ i,i < B → w'.heap[i]? = w.heap[i]?):Lst w' B k A n xs:=
 ⟨h.len,fun hn => by
  obtain ⟨ad,e,hb,hc⟩:=h.at_ hn
  exact ⟨ad,e,hb,fun j u hu => (World.cell?_of_block (by rw [add_block]; exact hk _ hb)).trans (hc j u hu)⟩⟩
theorem Lst.below (h:Lst w B k A n xs) (hb:Below B w w'):Lst w' B k A n xs:=h.kept (S:=fun _ => False) fun i hi => hb.block i hi
theorem Lst.more {B':Nat} (h:Lst w B k A n xs) (hB:B ≤ B'):Lst w B' k A n xs:=
 ⟨h.len,fun hn => by
  obtain ⟨ad,e,hb,hc⟩:=h.at_ hn
  exact ⟨ad,e,by omega,hc⟩⟩
theorem Lst.of_own {base:Nat} {e:TypeId} {c:Nat} (h:w.ownsRow base e k (.slice A n c) n xs):Lst w w.heap.size k A n xs:=by
 refine ⟨h.1,fun hn => ?_⟩
 rcases h.2 with ⟨_,h0⟩ | ⟨g,cap,cur,he,hb,hg,_⟩
 ·omega
 ·have hA:A = some ⟨g,0,none⟩:=by injection he
  subst hA
  refine ⟨⟨g,0,none⟩,rfl,(h.lt g rfl).2,fun j u hu => h.cells (g:=g) rfl j u hu⟩
end

section
variable {H:Type} {enc:TypeId × Value → H} {P:Program}
end
end Go.Proofs.YtjldgcebadojiaaGreatDoor
namespace Go.Proofs.YtjldgcebadojiaaGreatDoor
open Go.ChangeShapes Go.WideShapes Go.ChangeAt Go.RowKit Go.Sort
set_option linter.unusedSimpArgs false
set_option linter.unusedVariables false
section
variable {P:Program} (w:World)
theorem run_append_lst (base:Nat) (t ty e:TypeId) (i:TypeInfo) (z:Value) (size bytes:Nat) (ht:P.underlying t = some (.slice e)) (hi:P.info? e = some i) (hz:i.zero = some z)
  (hsize:i.size = size) (hby:i.bytes = bytes) (hzs:z.cells.size = size) (hsz:0 < size)
  (v:Value) (n:Nat) (xs:List Value) (hown:w.ownsRow base e size v n xs)
  (B:Nat) (A:Option Addr) (m c:Nat) (news:List Value) (hr:Lst w B size A m news) (h1:∀ u ∈ news,u.oneCell' = true)
  (h63:n + m ≤ maxLen) (hbytes:(n + m) * bytes ≤ 140737488355328) (hbase:base ≤ w.heap.size) :
  ∃ v' w',(Builtin.append_ #[t,t] ty #[v,.slice A m c]).run P w = .ok v' w' ∧ w'.ownsRow base e size v' (n + m) (xs ++ news) ∧ w.grownBy w' v.ownBlock ∧ (v'.ownBlock = v.ownBlock ∨ v'.ownBlock = some w.heap.size):=by
 have hcase:(m = 0 ∧ news = []) ∨ 0 < m:=by
  rcases Nat.eq_zero_or_pos m with h | h
  ·subst h; exact .inl ⟨rfl,List.eq_nil_of_length_eq_zero (by simpa using hr.len)⟩
  ·exact .inr h
 rcases hcase with ⟨rfl,rfl⟩ | hm
 ·cases A with
  | none =>
   refine ⟨v,w,?_,by simpa using hown,grown_refl w _,.inl rfl⟩
   rcases hown.2 with ⟨rfl,rfl⟩ | ⟨g,cap,cur,rfl,_,_,hnc,_⟩
   ·simp [Builtin.append_,run_underlying ht,sizeOf,typeInfo,hi,Builtin.lenOf,Builtin.firstCells]
   ·simp [Builtin.append_,run_underlying ht,sizeOf,typeInfo,hi,Builtin.lenOf,Builtin.firstCells,hnc,storeCells]
  | some ad =>
   obtain ⟨v',w',hrun,h2,h3,_,h5⟩:=run_append_own_at (P:=P) w base t ty e i z size bytes ht hi hz hsize hby hzs hsz v n xs hown ad 0 c [] (by simp) (by simp) (by simp) h63 hbytes hbase
   exact ⟨v',w',hrun,h2,h3,h5⟩
 ·obtain ⟨ad,rfl,_,hc⟩:=hr.at_ hm
  obtain ⟨v',w',hrun,h2,h3,_,h5⟩:=run_append_own_at (P:=P) w base t ty e i z size bytes ht hi hz hsize hby hzs hsz v n xs hown ad m c news hr.len hc h1 h63 hbytes hbase
  exact ⟨v',w',hrun,h2,h3,h5⟩

theorem wp_append_lst {o:Oper} {a:Act} {K:Act → World → Prop} {Q:Exit → Act → World → Prop} (s x:Operand) (t:TypeId)
  (ho:o.op = .call { callee:=.builtin .append,args:=#[s,x],argTypes:=#[t,t] })
  (base:Nat) (e:TypeId) (i:TypeInfo) (z:Value) (size bytes:Nat) (ht:P.underlying t = some (.slice e)) (hi:P.info? e = some i) (hz:i.zero = some z)
  (hsize:i.size = size) (hby:i.bytes = bytes) (hzs:z.cells.size = size) (hsz:0 < size)
  (v:Value) (n:Nat) (xs:List Value) (hs:a.eval s = v) (hown:w.ownsRow base e size v n xs)
  (B:Nat) (A:Option Addr) (m c:Nat) (news:List Value) (hx:a.eval x = .slice A m c) (hr:Lst w B size A m news) (h1:∀ u ∈ news,u.oneCell' = true)
  (h63:n + m ≤ maxLen) (hbytes:(n + m) * bytes ≤ 140737488355328) (hbase:base ≤ w.heap.size)
  (h:∀ v' w',w'.ownsRow base e size v' (n + m) (xs ++ news) → w.grownBy w' v.ownBlock → (v'.ownBlock = v.ownBlock ∨ v'.ownBlock = some w.heap.size) → K (a.put o.dst v') w'):o.wp P a w K Q:=by
 obtain ⟨v',w',hr,h2,h3,h4⟩:=run_append_lst (P:=P) w base t o.type e i z size bytes ht hi hz hsize hby hzs hsz v n xs hown B A m c news hr h1 h63 hbytes hbase
 unfold Oper.wp execOp
 simp only [ho,resolve,invoke,builtin,Sem.run_bind,Sem.run_pure,Result.andThen_ok,List.map_toArray,List.map_cons,List.map_nil,hs,hx,hr]
 exact h v' w' h2 h3 h4

theorem wpList_append_lst {ops:Array Oper} {rest:List Oper} {o:Oper} {a:Act} {Q:Exit → Act → World → Prop} (hgd:o.guard = none) (s x:Operand) (t:TypeId)
  (ho:o.op = .call { callee:=.builtin .append,args:=#[s,x],argTypes:=#[t,t] })
  (base:Nat) (e:TypeId) (i:TypeInfo) (z:Value) (size bytes:Nat) (ht:P.underlying t = some (.slice e)) (hi:P.info? e = some i) (hz:i.zero = some z)
  (hsize:i.size = size) (hby:i.bytes = bytes) (hzs:z.cells.size = size) (hsz:0 < size)
  (v:Value) (n:Nat) (xs:List Value) (hs:a.eval s = v) (hown:w.ownsRow base e size v n xs)
  (B:Nat) (A:Option Addr) (m c:Nat) (news:List Value) (hx:a.eval x = .slice A m c) (hr:Lst w B size A m news) (h1:∀ u ∈ news,u.oneCell' = true)
  (h63:n + m ≤ maxLen) (hbytes:(n + m) * bytes ≤ 140737488355328) (hbase:base ≤ w.heap.size)
  (h:∀ v' w',w'.ownsRow base e size v' (n + m) (xs ++ news) → w.grownBy w' v.ownBlock → (v'.ownBlock = v.ownBlock ∨ v'.ownBlock = some w.heap.size) → wpList P ops Q rest (a.put o.dst v') w'):wpList P ops Q (o :: rest) a w:=
 wpList_plain hgd fun _ hK => wp_append_lst w s x t ho base e i z size bytes ht hi hz hsize hby hzs hsz v n xs hs hown B A m c news hx hr h1 h63 hbytes hbase fun v' w' h2 h3 h4 => hK _ _ (h v' w' h2 h3 h4)

end
section
variable {w w':World} {B size n:Nat} {A:Option Addr} {xs:List Value}
theorem Lst.from_ (h:Lst w B size A n xs) {k cap:Nat} (hk:k ≤ n) (hc:n ≤ cap):Lst w B size (if cap = k then A else A.map (·.add (k * size))) (n - k) (xs.drop (k * size)):=by
 refine ⟨by rw [List.length_drop,h.len,Nat.sub_mul],fun hn => ?_⟩
 obtain ⟨ad,rfl,hb,hcell⟩:=h.at_ (by omega)
 rw [if_neg (by omega)]
 refine ⟨ad.add (k * size),rfl,by rw [add_block]; exact hb,fun j u hu => ?_⟩
 rw [add_plus]
 exact hcell _ u (by rw [← hu,List.getElem?_drop])
theorem Lst.upto (h:Lst w B size A n xs) {k:Nat} (hk:k ≤ n):Lst w B size A k (xs.take (k * size)):=by
 have hle:k * size ≤ n * size:=Nat.mul_le_mul_right _ hk
 refine ⟨by rw [List.length_take,h.len]; omega,fun hn => ?_⟩
 obtain ⟨ad,rfl,hb,hcell⟩:=h.at_ (by omega)
 refine ⟨ad,rfl,hb,fun j u hu => hcell j u ?_⟩
 rw [List.getElem?_take] at hu
 split at hu
 ·exact hu
 ·cases hu
theorem Lst.grown {row:Option Nat} (h:Lst w B size A n xs) (hg:w.grownBy w' row) (hB:B ≤ w.heap.size) (hr:∀ g,row = some g → B ≤ g):Lst w' B size A n xs:=
 h.kept (S:=fun _ => False) fun i hi => hg.block i (by omega) (fun e => by have:=hr i e.symm; omega)
end
end Go.Proofs.YtjldgcebadojiaaGreatDoor
namespace Go.Proofs.YtjldgcebadojiaaGreatDoor
open Go.ChangeShapes Go.WideShapes Go.ChangeAt Go.RowKit Go.Sort
set_option linter.unusedSimpArgs false
set_option linter.unusedVariables false

def inB (n lo hi:Int):Bool:=decide (lo ≤ n ∧ n ≤ hi)
def nodeB (n:Int):Bool:=inB n 1 255
def wayB (a b:Int):Bool:=nodeB a && nodeB b && a != b
def spanB (s e:Int):Bool:=decide (0 ≤ s) && decide (s < e) && decide (e ≤ 2147483647)
def contactB (id fr tn st en ra:Int):Bool:=inB id 1 1048576 && wayB fr tn && spanB st en && inB ra 1 2147483647
def rangeB (fr tn st en ow:Int):Bool:=wayB fr tn && spanB st en && inB ow 0 2147483647
def volumeF (id fr tn st en ra:Int):Int:=if contactB id fr tn st en ra = true then ra * (en - st) else 0

theorem in_any (n lo hi:Int) (w:World) :
  Calls Tryz.prog 76 #[.int .i64 n,.int .i64 lo,.int .i64 hi] w fun e w' => e = .returned (.bool (inB n lo hi)) ∧ w = w':=by
 by_cases h1:lo ≤ n <;> by_cases h2:n ≤ hi <;>
 ·go_enter Tryz.func76,Tryz.ntmps76
  go_wp2
  go_ret
  exact ⟨by simp [inB,h1,h2],rfl⟩

theorem node_any (n:Int) (w:World) :
  Calls Tryz.prog 184 #[.int .i64 n] w fun e w' => e = .returned (.bool (nodeB n)) ∧ w = w':=by
 go_enter Tryz.func184,Tryz.ntmps184
 go_wp2_with (go_at_call 76; refine (in_any _ _ _ _).mono ?_; rintro e w' ⟨rfl,rfl⟩)
 go_ret
 exact ⟨rfl,rfl⟩
theorem way_any (a b:Int) (w:World) :
  Calls Tryz.prog 120 #[.int .i64 a,.int .i64 b] w fun e w' => e = .returned (.bool (wayB a b)) ∧ w = w':=by
 go_enter Tryz.func120,Tryz.ntmps120
 go_wp2_with (go_at_call 184; refine (node_any _ _).mono ?_; rintro e w' ⟨rfl,rfl⟩)
 all_goals go_ret
 all_goals exact ⟨by simp [wayB, *],rfl⟩
theorem span_any (a b:Int) (w:World) :
  Calls Tryz.prog 121 #[.int .i64 a,.int .i64 b] w fun e w' => e = .returned (.bool (spanB a b)) ∧ w = w':=by
 by_cases h1:0 ≤ a <;> by_cases h2:a < b <;> by_cases h3:b ≤ 2147483647 <;>
 ·go_enter Tryz.func121,Tryz.ntmps121
  go_wp2
  go_ret
  exact ⟨by simp [spanB,h1,h2,h3],rfl⟩
theorem contact_any (id fr tn st en ra:Int) (w:World) :
  Calls Tryz.prog 69 #[.agg #[.int .i64 id,.int .i64 fr,.int .i64 tn,.int .i64 st,.int .i64 en,.int .i64 ra]] w fun e w' => e = .returned (.bool (contactB id fr tn st en ra)) ∧ Below w.heap.size w w':=by
 go_enter Tryz.func69,Tryz.ntmps69
 go_wp2_with (first | (go_at_call 76; refine (in_any _ _ _ _).mono ?_; rintro e w' ⟨rfl,rfl⟩) | (go_at_call 120; refine (way_any _ _ _).mono ?_; rintro e w' ⟨rfl,rfl⟩) | (go_at_call 121; refine (span_any _ _ _).mono ?_; rintro e w' ⟨rfl,rfl⟩))
 all_goals go_ret
 all_goals exact ⟨by simp [contactB, *],(Below.refl _ _).alloc (Nat.le_refl _) _⟩
theorem range_any (fr tn st en ow:Int) (w:World) :
  Calls Tryz.prog 127 #[.agg #[.int .i64 fr,.int .i64 tn,.int .i64 st,.int .i64 en,.int .i64 ow]] w fun e w' => e = .returned (.bool (rangeB fr tn st en ow)) ∧ Below w.heap.size w w':=by
 go_enter Tryz.func127,Tryz.ntmps127
 go_wp2_with (first | (go_at_call 76; refine (in_any _ _ _ _).mono ?_; rintro e w' ⟨rfl,rfl⟩) | (go_at_call 120; refine (way_any _ _ _).mono ?_; rintro e w' ⟨rfl,rfl⟩) | (go_at_call 121; refine (span_any _ _ _).mono ?_; rintro e w' ⟨rfl,rfl⟩))
 all_goals go_ret
 all_goals exact ⟨by simp [rangeB, *],(Below.refl _ _).alloc (Nat.le_refl _) _⟩
theorem inB_spec {n lo hi:Int}:inB n lo hi = true ↔ lo ≤ n ∧ n ≤ hi:=by
 simp [inB]
theorem contactB_spec {id fr tn st en ra:Int}:contactB id fr tn st en ra = true ↔ (1 ≤ id ∧ id ≤ 1048576) ∧ (1 ≤ fr ∧ fr ≤ 255) ∧ (1 ≤ tn ∧ tn ≤ 255) ∧ fr ≠ tn ∧ 0 ≤ st ∧ st < en ∧ en ≤ 2147483647 ∧ 1 ≤ ra ∧ ra ≤ 2147483647:=by
 simp [contactB,wayB,nodeB,spanB,inB,and_assoc]
theorem volume_bounds {id fr tn st en ra:Int} (h:contactB id fr tn st en ra = true):1 ≤ ra * (en - st) ∧ ra * (en - st) ≤ 4611686014132420609:=by
 obtain ⟨_,_,_,_,h1,h2,h3,h4,h5⟩:=contactB_spec.1 h
 constructor
 ·exact Int.le_trans (by omega:(1:Int) ≤ 1 * 1) (Int.mul_le_mul h4 (by omega) (by omega) (by omega))
 ·exact Int.le_trans (Int.mul_le_mul h5 (by omega:en - st ≤ 2147483647) (by omega) (by omega)) (by omega)
theorem volume_any (id fr tn st en ra:Int) (w:World) :
  Calls Tryz.prog 29 #[.agg #[.int .i64 id,.int .i64 fr,.int .i64 tn,.int .i64 st,.int .i64 en,.int .i64 ra]] w fun e w' => e = .returned (.int .i64 (volumeF id fr tn st en ra)) ∧ Below w.heap.size w w':=by
 by_cases h:contactB id fr tn st en ra = true
 ·have hv:=volume_bounds h
  have hs:=contactB_spec.1 h
  go_enter Tryz.func29,Tryz.ntmps29
  go_wp2_with (go_at_call 69; refine (contact_any _ _ _ _ _ _ _).mono ?_; rintro e w' ⟨rfl,hb⟩; obtain ⟨hc,hf⟩:=bcell hb)
  go_ret
  exact ⟨by simp [volumeF,h],((Below.refl _ _).alloc (Nat.le_refl _) _).trans (hb.mono (by simp))⟩
 ·go_enter Tryz.func29,Tryz.ntmps29
  go_wp2_with (go_at_call 69; refine (contact_any _ _ _ _ _ _ _).mono ?_; rintro e w' ⟨rfl,hb⟩)
  go_ret
  exact ⟨by simp [volumeF,h],((Below.refl _ _).alloc (Nat.le_refl _) _).trans (hb.mono (by simp))⟩
/-! The same with the result named, for a walk that wants it written out. -/
theorem in_is {n lo hi:Int} (b:Bool) (h:inB n lo hi = b) (w:World) :
  Calls Tryz.prog 76 #[.int .i64 n,.int .i64 lo,.int .i64 hi] w fun e w' => e = .returned (.bool b) ∧ w = w':=h ▸ in_any n lo hi w
theorem contact_is {id fr tn st en ra:Int} (b:Bool) (h:contactB id fr tn st en ra = b) (w:World) :
  Calls Tryz.prog 69 #[.agg #[.int .i64 id,.int .i64 fr,.int .i64 tn,.int .i64 st,.int .i64 en,.int .i64 ra]] w fun e w' => e = .returned (.bool b) ∧ Below w.heap.size w w':=h ▸ contact_any id fr tn st en ra w
theorem range_is {fr tn st en ow:Int} (b:Bool) (h:rangeB fr tn st en ow = b) (w:World) :
  Calls Tryz.prog 127 #[.agg #[.int .i64 fr,.int .i64 tn,.int .i64 st,.int .i64 en,.int .i64 ow]] w fun e w' => e = .returned (.bool b) ∧ Below w.heap.size w w':=h ▸ range_any fr tn st en ow w
theorem volume_is {id fr tn st en ra:Int} (v:Int) (h:volumeF id fr tn st en ra = v) (w:World) :
  Calls Tryz.prog 29 #[.agg #[.int .i64 id,.int .i64 fr,.int .i64 tn,.int .i64 st,.int .i64 en,.int .i64 ra]] w fun e w' => e = .returned (.int .i64 v) ∧ Below w.heap.size w w':=h ▸ volume_any id fr tn st en ra w
theorem step_call {P:Program} {ops:Array Oper} {o:Oper} {a:Act} {w:World} {K:Act → World → Prop} {Q:Exit → Act → World → Prop} {E:Prop} (hgd:o.guard = none) (f:FuncId) (xs:Array Operand) (ats:Array TypeId)
  (ho : o.op = .call { callee := .value (.func f), args := xs, argTypes := ats }) (vals : Array Value) (hv : #[] ++ xs.map a.eval ++ #[] = vals) {fn : Func} (hf : P.funcs[f]? = some fn) (hb : fn.body.isNone = false) (hnm : (fn.name == "runtime.NumGoroutine") = false)
  (h:Calls P f vals w fun e w' => ∃ v,e = .returned v ∧ K (a.put o.dst v) w') :
  if Region.wanted o (yielded ops a.tmps) = true then Oper.wp P o a w K Q else E:=by
 rw [if_pos (by simp [Region.wanted,hgd])]
 obtain ⟨dst,op,ty,pos,after,guard⟩:=o
 simp only at ho
 subst ho
 unfold Oper.wp
 rw [execOp_call_go,hv]
 have e:(callFunc f vals).run P w = .ok (.enter f vals) w:=by
  have h1 : fn.name ≠ "runtime.NumGoroutine" := by simpa using hnm
  have h2:fn.body ≠ none:=by intro e; rw [e] at hb; cases hb
  simp [callFunc,run_program,hf]
  rw [if_neg h1,if_neg h2]
 rw [e]
 refine h.mono ?_
 rintro e w' ⟨v,rfl,hK⟩
 exact hK
end Go.Proofs.YtjldgcebadojiaaGreatDoor
