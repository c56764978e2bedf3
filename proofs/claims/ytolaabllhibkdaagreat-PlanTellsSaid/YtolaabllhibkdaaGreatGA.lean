/- Several texts of mine in one: Lib, Mem, App, Open, Appl, Mem2, SlLib, Cmp, Step, OpenS. No condition. -/
import Derived.WalkKit
import Derived.ProofKit
import Derived.OpenShut
import Derived.ChangeOld
import Derived.BigQuiet
import Derived.Deep.QuietTactic
import Derived.Lib.QuietBelow
import Derived.Lib.Hide
import Derived.Deep.DeepCutAuto
import Derived.Maps.AppendAt
import Derived.Deep.RegionLaw
import Derived.Deep.Slices
import Derived.Deep.Fields
import Derived.Lib.LazyBuf
import Derived.Test.YtolaabllhibkdaaGreatChecked

/- General words of mine, over any program: arguments whose cells are all ints opened, a law's end shut whatever its parameters are, facts on 'Below'. No condition. -/
namespace Go.Proofs.YtolaabllhibkdaaGreat
open Go.ChangeShapes Go.WideShapes Go.ChangeAt Go.RowKit Go.Sort
set_option linter.unusedSimpArgs false
set_option linter.unusedVariables false

theorem bcell {W w1:World} (hb:Below W.heap.size W w1):(∀ b o,b < W.heap.size → w1.cell? ⟨b,o,none⟩ = W.cell? ⟨b,o,none⟩) ∧ (∀ b o,b < W.heap.size → w1.frozen? ⟨b,o,none⟩ = W.frozen? ⟨b,o,none⟩):=
 ⟨fun b o h => hb.cell (p:=⟨b,o,none⟩) h,fun b o h => hb.frozen (p:=⟨b,o,none⟩) h⟩

/-- A region whose order is the text's, walked quietly: what stands behind it is asked in every world of the class. -/
theorem wpOps_of_quiet {P:Program} {C:World → Prop} {Q:Exit → Act → World → Prop} (L:List Oper):∀ (l:List Oper) (k:Nat) (a:Act) (w:World),(∀ j,l[j]? = L[k + j]?) → C w →
  wpQuiet P L.toArray C (fun a' => ∀ w',C w' → Q .normal a' w') l a → wpOps P L.toArray Q (List.range' k l.length) a w
 | [],k,a,w,_,hC,h => h w hC
 | o :: l,k,a,w,hl,hC,h => by
  have h0:L.toArray[k]? = some o:=by simpa using (hl 0).symm
  have hn:∀ j,l[j]? = L[k + 1 + j]?:=fun j => by have:=hl (j + 1); simpa [Nat.add_assoc,Nat.add_comm 1 j] using this
  simp only [List.length_cons,List.range'_succ,wpOps,h0]
  simp only [wpQuiet] at h
  split
  ·rename_i hw
   rw [if_pos hw] at h
   exact .inl (Oper.wp_of_quiet hC (fun a' w' hC' hK => wpOps_of_quiet L l (k + 1) a' w' hn hC' hK) h)
  ·rename_i hw
   rw [if_neg hw] at h
   exact wpOps_of_quiet L l (k + 1) _ w hn hC h
theorem wp_region_text_below {P:Program} {id:Nat} {Q:Exit → Act → World → Prop} {a:Act} {w:World} {l:List Oper}
  (h:wpQuiet P l.toArray (fun w' => ∃ p:Regrown,w' = grow (redrawn w p.d) p.os) (fun a' => ∀ w',(∃ p:Regrown,w' = grow (redrawn w p.d) p.os) → Q .normal a' w') l a):(Code.region id l.toArray false).wp P Q a w:=by
 refine wp_region ?_
 have:=wpOps_of_quiet (C:=fun w' => ∃ p:Regrown,w' = grow (redrawn w p.d) p.os) (Q:=Q) l l 0 a w (by simp) ⟨⟨w.drawn,#[]⟩,by rw [grow_empty]; rfl⟩ h
 simpa [List.range_eq_range'] using this
theorem cell_of_block {w:World} {b:Nat} {cs:Array Value} {t:TypeId} {fr:Nat × Nat} (h:w.heap[b]? = some (.cells cs t fr)) (o:Nat):w.cell? ⟨b,o,none⟩ = cs[o]?:=by
 simp [World.cell?,h]
section
variable {H:Type} {enc:TypeId × Value → H} {P:Program}

/-- A type all of whose cells are ints. -/
def flatB (P:Program):Nat → TypeId → Bool
 | 0,_ => false
 | n + 1,t =>
  match P.underlying t with
  | some (.int .i64) => true
  | some (.struct fs) => fs.toList.all (fun f => flatB P n f.type) && (List.range (P.cellsOf t)).all fun i => fs.toList.any fun f => decide (f.offset ≤ i) && decide (i < f.offset + P.cellsOf f.type)
  | some (.array k e) => flatB P n e && decide (P.cellsOf t = k * P.cellsOf e)
  | _ => false

theorem flat_cell {w:World} {base:Nat} {spare:Nat → Bool} {held:Bool}:∀ (n:Nat) {fuel:Nat} {t:TypeId} {cs:List Value} {x:DataW H × List MemPlace},flatB P n t = true →
  DataW.trod enc P w base spare held fuel t cs = some x → ∀ c ∈ cs,∃ m,c = .int .i64 m ∧ (Lit.int .i64 m).wf = true
 | 0,_,_,_,_,h,_ => by simp [flatB] at h
 | n + 1,fuel,t,cs,x,h,ht => by
  unfold flatB at h
  split at h
  ·rename_i hu
   obtain ⟨m,rfl,_,hw⟩:=DataW.trod_int hu ht
   intro c hc
   simp at hc
   exact ⟨m,hc,hw⟩
  ·rename_i fs hu
   simp only [Bool.and_eq_true,List.all_eq_true,List.any_eq_true,decide_eq_true_eq,List.mem_range] at h
   obtain ⟨h1,h2⟩:=h
   obtain ⟨xs,m,_,_,hlen,hxl,hf⟩:=DataW.trod_struct hu ht
   intro c hc
   obtain ⟨i,hi,rfl⟩:=List.getElem_of_mem hc
   obtain ⟨f,hfm,hlo,hhi⟩:=h2 i (by omega)
   obtain ⟨j,hj,hjf⟩:=List.getElem_of_mem hfm
   have hj':fs[j]? = some f:=by
    rw [← Array.getElem?_toList,List.getElem?_eq_getElem hj,hjf]
   have h3:=hf j f hj'
   have hjx:xs[j]? = some (xs[j]'(by rw [hxl]; simpa using hj)):=List.getElem?_eq_getElem _
   rw [hjx] at h3
   refine flat_cell n (h1 f hfm) h3 _ ?_
   rw [List.mem_take_iff_getElem]
   exact ⟨i - f.offset,by simp; omega,by simp; congr 1; omega⟩
  ·rename_i k e hu
   simp only [Bool.and_eq_true,decide_eq_true_eq] at h
   obtain ⟨h1,h2⟩:=h
   obtain ⟨xs,m,_,_,hlen,hxl,hf⟩:=DataW.trod_array hu ht
   intro c hc
   obtain ⟨i,hi,rfl⟩:=List.getElem_of_mem hc
   have hpos:0 < P.cellsOf e:=by
    rcases Nat.eq_zero_or_pos (P.cellsOf e) with h0 | h0
    ·rw [h0] at h2; omega
    ·exact h0
   have hd:i / P.cellsOf e < k:=by rw [Nat.div_lt_iff_lt_mul hpos]; omega
   have h3:=hf (i / P.cellsOf e) hd
   have hjx:xs[i / P.cellsOf e]? = some (xs[i / P.cellsOf e]'(by omega)):=List.getElem?_eq_getElem _
   rw [hjx] at h3
   refine flat_cell n h1 h3 _ ?_
   rw [List.mem_take_iff_getElem]
   have hm:=Nat.mod_lt i hpos
   have hdm:=Nat.div_add_mod i (P.cellsOf e)
   have hmul:P.cellsOf e * (i / P.cellsOf e) = i / P.cellsOf e * P.cellsOf e:=Nat.mul_comm _ _
   exact ⟨i % P.cellsOf e,by simp; omega,by simp; congr 1; omega⟩
  ·cases h

theorem ints_of_cells {cs:List Value} (h:∀ c ∈ cs,∃ m,c = .int .i64 m ∧ (Lit.int .i64 m).wf = true):∃ ns:List Int,cs = ns.map (Value.int .i64) ∧ ∀ m ∈ ns,(Lit.int .i64 m).wf = true:=by
 induction cs with
 | nil => exact ⟨[],rfl,by simp⟩
 | cons c cs ih =>
  obtain ⟨m,rfl,hm⟩:=h c (by simp)
  obtain ⟨ns,rfl,hn⟩:=ih (fun c hc => h c (by simp [hc]))
  exact ⟨m :: ns,rfl,by simpa [hm] using hn⟩

theorem trodAll_below (hl:laidOutB P = true) {W W':World} (hb:Below W.heap.size W W'):∀ (ts:List TypeId) (vs:List Value) (ds:List (DataW H)) (p:List MemPlace),
  (∀ t ∈ ts,P.readableRec t = true ∧ t < P.types.size) → DataW.TrodAll enc P W 0 (fun _ => true) true ts vs ds p → (∀ x ∈ p,x.block < W.heap.size) →
  DataW.TrodAll enc P W' 0 (fun b => decide (b < W.heap.size)) true ts vs ds p
 | [],vs,ds,p,_,h,_ => by
  obtain ⟨rfl,rfl,rfl⟩:=trodAll_nil h
  rfl
 | t :: ts,vs,ds,p,hts,h,hp => by
  obtain ⟨v,vs',d,ds',p',q',rfl,rfl,rfl,h1,h2⟩:=trodAll_cons h
  obtain ⟨hr,hrow⟩:=hts t (by simp)
  exact trodAll_cons_mk (Below.trod hl hr hrow h1 hb (fun x hx => hp x (by simp [hx]))) (trodAll_below hl hb ts vs' ds' q' (fun t ht => hts t (by simp [ht])) h2 (fun x hx => hp x (by simp [hx])))

/-- A LAW's END: true, and nothing that was there has turned: all that the row asks. -/
theorem law_post {f:Func} {s:ChangeSpec} {W W':World} {args:Array Value} {ds gs:List (DataW H)} {before:List MemPlace} {tb:TypeId} (hl:laidOutB P = true)
  (hts:(f.params.toList.all fun t => P.readableRec t && decide (t < P.types.size)) = true) (hr:f.resultTypes = #[tb]) (hb:P.underlying tb = some .bool) (hv:s.vars = [])
  (hs:s.fn H (ds ++ gs) = { results:=[.lit (.bool true)],args:=ds }) (hW:DataW.Whole enc P f.params.toList s.vars false W args.toList ds gs before) (bel:Below W.heap.size W W') :
  s.post enc P f false true false false W args (.bool true) W':=by
 have hlt:∀ p ∈ before,p.block < W.heap.size:=fun p hp => hW.lt p hp
 have hW':=hW
 obtain ⟨p,q,hA,hV,rfl,hfz,hnd⟩:=hW
 refine ⟨ds,gs,_,[],p,[],hW',?_,?_,?_,bel.frame _,fun h => by cases h⟩
 ·rw [hr,hs]
  exact trodAll_mk1 (shut_bool hb _)
 ·rw [hs]
  refine trodAll_below hl bel _ _ _ _ (fun t ht => ?_) hA (fun x hx => hlt x (by simp [hx]))
  have:=List.all_eq_true.1 hts t ht
  simpa using this
 ·rw [hv,hs]
  rfl
end
end Go.Proofs.YtolaabllhibkdaaGreat

/- Blocks and rows of memory: a block known whole, a row of pairs of ints that the call owns. No condition. -/
namespace Go.Proofs.YtolaabllhibkdaaGreat
open Go.ChangeShapes Go.WideShapes Go.ChangeAt Go.RowKit Go.Sort
set_option linter.unusedSimpArgs false
set_option linter.unusedVariables false

/-- Block g holds just these cells. -/
def Blok (w:World) (g:Nat) (t:TypeId) (cs:Array Value):Prop:=w.heap[g]? = some (.cells cs t (0,0))
section
variable {w w':World} {g:Nat} {t:TypeId} {cs:Array Value}
theorem Blok.lt (h:Blok w g t cs):g < w.heap.size:=lt_of_block h
theorem Blok.cell (h:Blok w g t cs) (i:Nat):w.cell? ⟨g,i,none⟩ = cs[i]?:=cell_of_row w g i cs t (0,0) h
theorem Blok.free (h:Blok w g t cs) (i:Nat):w.frozen? ⟨g,i,none⟩ = false:=by
 unfold Blok at h; simp [World.frozen?,h]
theorem Blok.grown {row:Option Nat} (h:Blok w g t cs) (hb:w.grownBy w' row) (hg:some g ≠ row):Blok w' g t cs:=(hb.block g h.lt hg).trans h
theorem Blok.below {B:Nat} (h:Blok w g t cs) (hb:Below B w w') (hg:g < B):Blok w' g t cs:=(hb.block g hg).trans h
theorem Blok.ne_own {base:Nat} {e:TypeId} {size n:Nat} {v:Value} {xs:List Value} (h:w.ownsRow base e size v n xs) (hg:Blok w g t cs) (hne:e ≠ t):v.ownBlock ≠ some g:=by
 rcases h.2 with ⟨rfl,_⟩ | ⟨g',cap,cur,rfl,_,hh,_⟩
 ·simp [Value.ownBlock]
 ·intro he
  have:g' = g:=by simpa [Value.ownBlock] using he
  subst this
  unfold Blok at hg
  rw [hg] at hh
  injection hh with hh
  injection hh with _ ht
  exact hne ht.symm
theorem Blok.over {W:World} {row:Option Nat} (h:Blok w g t cs) (hg:W.grownBy w' row) (hr:row ≠ some g) (hb:Below w.heap.size w W):Blok w' g t cs:=(h.below hb h.lt).grown hg (fun e => hr e.symm)
theorem grown_of_below {row:Option Nat} (hb:Below w.heap.size w w'):w.grownBy w' row:=⟨hb.os,hb.tape,hb.output,hb.size,fun k hk _ => hb.block k hk⟩
theorem grown_refl (w:World) (row:Option Nat):w.grownBy w row:=⟨rfl,rfl,rfl,Nat.le_refl _,fun _ _ _ => rfl⟩
theorem grown_trans {w'':World} {row:Option Nat} (h:w.grownBy w' row) (k:w'.grownBy w'' row):w.grownBy w'' row:=
 ⟨k.os.trans h.os,k.tape.trans h.tape,k.output.trans h.output,Nat.le_trans h.size k.size,fun i hi hr => (k.block i (Nat.lt_of_lt_of_le hi h.size) hr).trans (h.block i hi hr)⟩
theorem grown_drew {row:Option Nat} (h:w.grownBy w' row):w.grownBy w'.drew row:=⟨h.os,h.tape,h.output,h.size,h.block⟩
theorem grown_set {g:Nat} (w:World) (i:Nat) (u:Value):w.grownBy (w.setCell ⟨g,i,none⟩ u) (some g):=
 ⟨rfl,rfl,rfl,by simp,fun k _ hne => Below.heap_setCell w ⟨g,i,none⟩ u k (fun e => hne (by simp at e; rw [e]))⟩
end
theorem slice_of_own {w:World} {base:Nat} {e:TypeId} {size n:Nat} {v:Value} {xs:List Value} (h:w.ownsRow base e size v n xs):∃ A c,v = .slice A n c:=by
 rcases h.2 with ⟨rfl,rfl⟩ | ⟨g',cap,cur,rfl,_,_,_⟩
 ·exact ⟨_,_,rfl⟩
 ·exact ⟨_,_,rfl⟩
theorem lit_cells (w:World) (cs:Array Value) (t:TypeId) (g:Nat) (hg:g = w.heap.size):∀ j u,cs.toList[j]? = some u → (w.alloc (.cells cs t)).cell? ((⟨g,0,none⟩:Addr).add j) = some u:=by
 intro j u hj
 subst hg
 have e:((⟨w.heap.size,0,none⟩:Addr).add j) = ⟨w.heap.size,j,none⟩:=by
  unfold Addr.add; split <;> simp_all
 rw [e]
 rw [cell_of_block (cs:=cs) (t:=t) (fr:=(0,0)) (by show (w.heap.push _)[w.heap.size]? = _; simp)]
 simpa using hj
end Go.Proofs.YtolaabllhibkdaaGreat

/- append onto a row of the call's own, as one step of a region that draws its order; what is kept but for some blocks. No condition. -/
namespace Go.Proofs.YtolaabllhibkdaaGreat
open Go.ChangeShapes Go.WideShapes Go.ChangeAt Go.RowKit Go.Sort
set_option linter.unusedSimpArgs false
set_option linter.unusedVariables false

/-- Nothing that was there has turned, but for these blocks. -/
structure Kept (S:Nat → Prop) (w w':World):Prop where
 os:w'.os = w.os
 tape:w'.tape = w.tape
 output:w'.output = w.output
 size:w.heap.size ≤ w'.heap.size
 block:∀ k,k < w.heap.size → ¬ S k → w'.heap[k]? = w.heap[k]?
section
variable {S:Nat → Prop} {w w' w'':World}
theorem Kept.refl (S:Nat → Prop) (w:World):Kept S w w:=⟨rfl,rfl,rfl,Nat.le_refl _,fun _ _ _ => rfl⟩
theorem Kept.of_below (h:Below w.heap.size w w'):Kept S w w':=⟨h.os,h.tape,h.output,h.size,fun k hk _ => h.block k hk⟩
theorem Kept.below (h:Kept (fun _ => False) w w'):Below w.heap.size w w':=⟨h.os,h.tape,h.output,h.size,fun k hk => h.block k hk (fun x => x)⟩
theorem Kept.trans {S':Nat → Prop} (h:Kept S w w') (k:Kept S' w' w'') (hS:∀ i,i < w.heap.size → S' i → S i):Kept S w w'':=
 ⟨k.os.trans h.os,k.tape.trans h.tape,k.output.trans h.output,Nat.le_trans h.size k.size,fun i hi hn => (k.block i (Nat.lt_of_lt_of_le hi h.size) (fun x => hn (hS i hi x))).trans (h.block i hi hn)⟩
theorem Kept.drew (h:Kept S w w'):Kept S w w'.drew:=⟨h.os,h.tape,h.output,h.size,h.block⟩
theorem Kept.set {g:Nat} (h:Kept S w w') (hg:g < w.heap.size → S g) (i:Nat) (u:Value):Kept S w (w'.setCell ⟨g,i,none⟩ u):=
 ⟨h.os,h.tape,h.output,by simpa using h.size,fun k hk hn => (Below.heap_setCell w' ⟨g,i,none⟩ u k (fun e => hn (by simp at e; subst e; exact hg hk))).trans (h.block k hk hn)⟩
theorem Kept.alloc (h:Kept S w w') (o:Obj):Kept S w (w'.alloc o):=
 ⟨h.os,h.tape,h.output,by have:=h.size; simp; omega,fun k hk hn => (Below.heap_alloc w' o k (by have:=h.size; omega)).trans (h.block k hk hn)⟩
theorem Kept.blok {g:Nat} {t:TypeId} {cs:Array Value} (k:Kept S w w') (h:Blok w g t cs) (hn:¬ S g):Blok w' g t cs:=(k.block g h.lt hn).trans h
end
end Go.Proofs.YtolaabllhibkdaaGreat

/- An argument that is a slice of structs all of whose cells are ints, opened: its cells as one list of ints. No condition. -/
namespace Go.Proofs.YtolaabllhibkdaaGreat
open Go.ChangeShapes Go.WideShapes Go.ChangeAt Go.RowKit Go.Sort
set_option linter.unusedSimpArgs false
set_option linter.unusedVariables false

theorem add_block (a:Addr) (n:Nat):(a.add n).block = a.block:=by unfold Addr.add; split <;> rfl
theorem add_zero_ (a:Addr):a.add 0 = a:=by unfold Addr.add; simp
theorem add_plus (a:Addr) (i j:Nat):(a.add i).add j = a.add (i + j):=by
 unfold Addr.add
 by_cases hi:i = 0 <;> by_cases hj:j = 0 <;> simp [hi,hj,Nat.add_assoc]

/-- The slice at A of n elements of k cells each reads as these cells; it lies below block B. -/
structure Lst (w:World) (B k:Nat) (A:Option Addr) (n:Nat) (xs:List Value):Prop where
 len:xs.length = n * k
 at_:0 < n → ∃ ad,A = some ad ∧ ad.block < B ∧ ∀ j u,xs[j]? = some u → w.cell? (ad.add j) = some u
section
variable {w w':World} {B k n:Nat} {A:Option Addr} {xs:List Value}
theorem Lst.kept {S:Nat → Prop} (h:Lst w B k A n xs) (hk:∀ i,i < B → w'.heap[i]? = w.heap[i]?):Lst w' B k A n xs:=
 ⟨h.len,fun hn => by
  obtain ⟨ad,e,hb,hc⟩:=h.at_ hn
  exact ⟨ad,e,hb,fun j u hu => (World.cell?_of_block (by rw [add_block]; exact hk _ hb)).trans (hc j u hu)⟩⟩
theorem Lst.below (h:Lst w B k A n xs) (hb:Below B w w'):Lst w' B k A n xs:=h.kept (S:=fun _ => False) fun i hi => hb.block i hi
theorem Lst.more {B':Nat} (h:Lst w B k A n xs) (hB:B ≤ B'):Lst w B' k A n xs:=
 ⟨h.len,fun hn => by
  obtain ⟨ad,e,hb,hc⟩:=h.at_ hn
  exact ⟨ad,e,by omega,hc⟩⟩
theorem Lst.of_own {base:Nat} {e:TypeId} {c:Nat} (h:w.ownsRow base e k (.slice A n c) n xs):Lst w w.heap.size k A n xs:=by
 refine ⟨h.1,fun hn => ?_⟩
 rcases h.2 with ⟨_,h0⟩ | ⟨g,cap,cur,he,hb,hg,_⟩
 ·omega
 ·have hA:A = some ⟨g,0,none⟩:=by injection he
  subst hA
  refine ⟨⟨g,0,none⟩,rfl,(h.lt g rfl).2,fun j u hu => h.cells (g:=g) rfl j u hu⟩
end

section
variable {H:Type} {enc:TypeId × Value → H} {P:Program}
theorem open_rows {w:World} {base b0:Nat} {r:Reach} {spare:Nat → Bool} {held:Bool} {t e:TypeId} {v:Value} {d:DataW H} {p:List MemPlace} (q:Nat) {K:Nat} (ht:P.underlying t = some (.slice e)) (hf:flatB P q e = true) (hK:P.cellsOf e = K) (hpos:0 < K)
  (hv:Value.okWide P w r b0 t v) (h:DataW.Trod enc P w base spare held t v d p) :
  ∃ (A:Option Addr) (n c:Nat) (ns:List Int),v = .slice A n c ∧ n ≤ c ∧ c ≤ maxLen ∧ Lst w w.heap.size K A n (ns.map (Value.int .i64)) ∧ ns.length = n * K ∧ ∀ m ∈ ns,(Lit.int .i64 m).wf = true:=by
 obtain ⟨A,n,c,rfl⟩:=okWide_slice ht hv
 obtain ⟨fuel,hx⟩:=h
 subst hK
 rcases Go.Deep.open_slice ht hx with ⟨h0,_⟩ | ⟨a,len,cap,m,q',D,Pl,hcs,hb,hl,hm,hmm,_,hi⟩
 ·have h0':Value.slice A n c = .slice none 0 0:=by simpa [Value.cells] using h0
  injection h0' with h1 h2 h3
  subst h1 h2 h3
  exact ⟨none,0,0,[],rfl,Nat.le_refl _,by simp,⟨by simp,fun h => by omega⟩,by simp,by simp⟩
 ·have h0':Value.slice A n c = .slice (some a) len cap:=by simpa [Value.cells] using hcs
  injection h0' with h1 h2 h3
  subst h1 h2 h3
  have hnm:n ≤ m:=by rw [hmm]; split <;> omega
  have key:∀ i,i ≤ n → ∃ ns:List Int,ns.length = i * P.cellsOf e ∧ (∀ j u,(ns.map (Value.int .i64))[j]? = some u → w.cell? (a.add j) = some u) ∧ ∀ m ∈ ns,(Lit.int .i64 m).wf = true:=by
   intro i
   induction i with
   | zero => exact fun _ => ⟨[],by simp,by simp,by simp⟩
   | succ i ih =>
    intro hin
    obtain ⟨ns,n1,n2,n3⟩:=ih (by omega)
    obtain ⟨cs',hc,htr⟩:=hi i (by omega)
    obtain ⟨_,hcl,hat⟩:=World.cells?_some hc
    obtain ⟨ms,e1,e2⟩:=ints_of_cells (flat_cell q hf htr)
    refine ⟨ns ++ ms,?_,fun j u hu => ?_,fun x hx => ?_⟩
    ·have hml:ms.length = P.cellsOf e:=by rw [← hcl,e1]; simp
     rw [List.length_append,n1,hml,Nat.add_mul,Nat.one_mul]
    ·rw [List.map_append] at hu
     by_cases hj:j < ns.length
     ·rw [List.getElem?_append_left (by simpa using hj)] at hu
      exact n2 j u hu
     ·rw [List.getElem?_append_right (by simpa using hj)] at hu
      have hjl:j - ns.length < P.cellsOf e:=by
       have:=(List.getElem?_eq_some_iff.1 hu).1
       rw [List.length_map] at this
       rw [← e1,hcl] at this
       simpa using this
      have:=hat (j - ns.length) hjl
      rw [add_plus,n1] at this
      rw [show i * P.cellsOf e + (j - i * P.cellsOf e) = j from by omega] at this
      rw [this,e1,← n1]
      simpa using hu
    ·rcases List.mem_append.1 hx with hx | hx
     ·exact n3 x hx
     ·exact e2 x hx
  obtain ⟨ns,n1,n2,n3⟩:=key n (Nat.le_refl _)
  refine ⟨some a,n,c,ns,rfl,hl,hm,⟨by simpa using n1,fun hn => ⟨a,rfl,?_,n2⟩⟩,n1,n3⟩
  have h0:0 < ns.length:=by rw [n1]; exact Nat.mul_pos hn hpos
  have:=n2 0 (.int .i64 ns[0]) (by simp)
  rw [add_zero_] at this
  exact block_lt_of_cell this
end
end Go.Proofs.YtolaabllhibkdaaGreat

/- append of a slice that reads as a list (nil let in) onto a row of the call's own. No condition. -/
namespace Go.Proofs.YtolaabllhibkdaaGreat
open Go.ChangeShapes Go.WideShapes Go.ChangeAt Go.RowKit Go.Sort
set_option linter.unusedSimpArgs false
set_option linter.unusedVariables false
section
variable {P:Program} (w:World)
theorem run_append_lst (base:Nat) (t ty e:TypeId) (i:TypeInfo) (z:Value) (size bytes:Nat) (ht:P.underlying t = some (.slice e)) (hi:P.info? e = some i) (hz:i.zero = some z)
  (hsize:i.size = size) (hby:i.bytes = bytes) (hzs:z.cells.size = size) (hsz:0 < size)
  (v:Value) (n:Nat) (xs:List Value) (hown:w.ownsRow base e size v n xs)
  (B:Nat) (A:Option Addr) (m c:Nat) (news:List Value) (hr:Lst w B size A m news) (h1:∀ u ∈ news,u.oneCell' = true)
  (h63:n + m ≤ maxLen) (hbytes:(n + m) * bytes ≤ 140737488355328) (hbase:base ≤ w.heap.size) :
  ∃ v' w',(Builtin.append_ #[t,t] ty #[v,.slice A m c]).run P w = .ok v' w' ∧ w'.ownsRow base e size v' (n + m) (xs ++ news) ∧ w.grownBy w' v.ownBlock ∧ (v'.ownBlock = v.ownBlock ∨ v'.ownBlock = some w.heap.size):=by
 have hcase:(m = 0 ∧ news = []) ∨ 0 < m:=by
  rcases Nat.eq_zero_or_pos m with h | h
  ·subst h; exact .inl ⟨rfl,List.eq_nil_of_length_eq_zero (by simpa using hr.len)⟩
  ·exact .inr h
 rcases hcase with ⟨rfl,rfl⟩ | hm
 ·cases A with
  | none =>
   refine ⟨v,w,?_,by simpa using hown,grown_refl w _,.inl rfl⟩
   rcases hown.2 with ⟨rfl,rfl⟩ | ⟨g,cap,cur,rfl,_,_,hnc,_⟩
   ·simp [Builtin.append_,run_underlying ht,sizeOf,typeInfo,hi,Builtin.lenOf,Builtin.firstCells]
   ·simp [Builtin.append_,run_underlying ht,sizeOf,typeInfo,hi,Builtin.lenOf,Builtin.firstCells,hnc,storeCells]
  | some ad =>
   obtain ⟨v',w',hrun,h2,h3,_,h5⟩:=run_append_own_at (P:=P) w base t ty e i z size bytes ht hi hz hsize hby hzs hsz v n xs hown ad 0 c [] (by simp) (by simp) (by simp) h63 hbytes hbase
   exact ⟨v',w',hrun,h2,h3,h5⟩
 ·obtain ⟨ad,rfl,_,hc⟩:=hr.at_ hm
  obtain ⟨v',w',hrun,h2,h3,_,h5⟩:=run_append_own_at (P:=P) w base t ty e i z size bytes ht hi hz hsize hby hzs hsz v n xs hown ad m c news hr.len hc h1 h63 hbytes hbase
  exact ⟨v',w',hrun,h2,h3,h5⟩

theorem wp_append_lst {o:Oper} {a:Act} {K:Act → World → Prop} {Q:Exit → Act → World → Prop} (s x:Operand) (t:TypeId)
  (ho:o.op = .call { callee:=.builtin .append,args:=#[s,x],argTypes:=#[t,t] })
  (base:Nat) (e:TypeId) (i:TypeInfo) (z:Value) (size bytes:Nat) (ht:P.underlying t = some (.slice e)) (hi:P.info? e = some i) (hz:i.zero = some z)
  (hsize:i.size = size) (hby:i.bytes = bytes) (hzs:z.cells.size = size) (hsz:0 < size)
  (v:Value) (n:Nat) (xs:List Value) (hs:a.eval s = v) (hown:w.ownsRow base e size v n xs)
  (B:Nat) (A:Option Addr) (m c:Nat) (news:List Value) (hx:a.eval x = .slice A m c) (hr:Lst w B size A m news) (h1:∀ u ∈ news,u.oneCell' = true)
  (h63:n + m ≤ maxLen) (hbytes:(n + m) * bytes ≤ 140737488355328) (hbase:base ≤ w.heap.size)
  (h:∀ v' w',w'.ownsRow base e size v' (n + m) (xs ++ news) → w.grownBy w' v.ownBlock → (v'.ownBlock = v.ownBlock ∨ v'.ownBlock = some w.heap.size) → K (a.put o.dst v') w'):o.wp P a w K Q:=by
 obtain ⟨v',w',hr,h2,h3,h4⟩:=run_append_lst (P:=P) w base t o.type e i z size bytes ht hi hz hsize hby hzs hsz v n xs hown B A m c news hr h1 h63 hbytes hbase
 unfold Oper.wp execOp
 simp only [ho,resolve,invoke,builtin,Sem.run_bind,Sem.run_pure,Result.andThen_ok,List.map_toArray,List.map_cons,List.map_nil,hs,hx,hr]
 exact h v' w' h2 h3 h4

theorem wpList_append_lst {ops:Array Oper} {rest:List Oper} {o:Oper} {a:Act} {Q:Exit → Act → World → Prop} (hgd:o.guard = none) (s x:Operand) (t:TypeId)
  (ho:o.op = .call { callee:=.builtin .append,args:=#[s,x],argTypes:=#[t,t] })
  (base:Nat) (e:TypeId) (i:TypeInfo) (z:Value) (size bytes:Nat) (ht:P.underlying t = some (.slice e)) (hi:P.info? e = some i) (hz:i.zero = some z)
  (hsize:i.size = size) (hby:i.bytes = bytes) (hzs:z.cells.size = size) (hsz:0 < size)
  (v:Value) (n:Nat) (xs:List Value) (hs:a.eval s = v) (hown:w.ownsRow base e size v n xs)
  (B:Nat) (A:Option Addr) (m c:Nat) (news:List Value) (hx:a.eval x = .slice A m c) (hr:Lst w B size A m news) (h1:∀ u ∈ news,u.oneCell' = true)
  (h63:n + m ≤ maxLen) (hbytes:(n + m) * bytes ≤ 140737488355328) (hbase:base ≤ w.heap.size)
  (h:∀ v' w',w'.ownsRow base e size v' (n + m) (xs ++ news) → w.grownBy w' v.ownBlock → (v'.ownBlock = v.ownBlock ∨ v'.ownBlock = some w.heap.size) → wpList P ops Q rest (a.put o.dst v') w'):wpList P ops Q (o :: rest) a w:=
 wpList_plain hgd fun _ hK => wp_append_lst w s x t ho base e i z size bytes ht hi hz hsize hby hzs hsz v n xs hs hown B A m c news hx hr h1 h63 hbytes hbase fun v' w' h2 h3 h4 => hK _ _ (h v' w' h2 h3 h4)

theorem step_append_lst {ops:Array Oper} {o:Oper} {a:Act} {K:Act → World → Prop} {Q:Exit → Act → World → Prop} {E:Prop} (hgd:o.guard = none) (s x:Operand) (t:TypeId)
  (ho:o.op = .call { callee:=.builtin .append,args:=#[s,x],argTypes:=#[t,t] })
  (base:Nat) (e:TypeId) (i:TypeInfo) (z:Value) (size bytes:Nat) (ht:P.underlying t = some (.slice e)) (hi:P.info? e = some i) (hz:i.zero = some z)
  (hsize:i.size = size) (hby:i.bytes = bytes) (hzs:z.cells.size = size) (hsz:0 < size)
  (v:Value) (n:Nat) (xs:List Value) (hs:a.eval s = v) (hown:w.ownsRow base e size v n xs)
  (B:Nat) (A:Option Addr) (m c:Nat) (news:List Value) (hx:a.eval x = .slice A m c) (hr:Lst w B size A m news) (h1:∀ u ∈ news,u.oneCell' = true)
  (h63:n + m ≤ maxLen) (hbytes:(n + m) * bytes ≤ 140737488355328) (hbase:base ≤ w.heap.size)
  (h:∀ v' w',w'.ownsRow base e size v' (n + m) (xs ++ news) → w.grownBy w' v.ownBlock → (v'.ownBlock = v.ownBlock ∨ v'.ownBlock = some w.heap.size) → K (a.put o.dst v') w') :
  if Region.wanted o (yielded ops a.tmps) = true then Oper.wp P o a w K Q else E:=by
 rw [if_pos (by simp [Region.wanted,hgd])]
 exact wp_append_lst w s x t ho base e i z size bytes ht hi hz hsize hby hzs hsz v n xs hs hown B A m c news hx hr h1 h63 hbytes hbase h
end
section
variable {w w':World} {B size n:Nat} {A:Option Addr} {xs:List Value}
/-- s[k:] as the model has it. -/
theorem Lst.from_ (h:Lst w B size A n xs) {k cap:Nat} (hk:k ≤ n) (hc:n ≤ cap):Lst w B size (if cap = k then A else A.map (·.add (k * size))) (n - k) (xs.drop (k * size)):=by
 refine ⟨by rw [List.length_drop,h.len,Nat.sub_mul],fun hn => ?_⟩
 obtain ⟨ad,rfl,hb,hcell⟩:=h.at_ (by omega)
 rw [if_neg (by omega)]
 refine ⟨ad.add (k * size),rfl,by rw [add_block]; exact hb,fun j u hu => ?_⟩
 rw [add_plus]
 exact hcell _ u (by rw [← hu,List.getElem?_drop])
/-- s[:k] -/
theorem Lst.upto (h:Lst w B size A n xs) {k:Nat} (hk:k ≤ n):Lst w B size A k (xs.take (k * size)):=by
 have hle:k * size ≤ n * size:=Nat.mul_le_mul_right _ hk
 refine ⟨by rw [List.length_take,h.len]; omega,fun hn => ?_⟩
 obtain ⟨ad,rfl,hb,hcell⟩:=h.at_ (by omega)
 refine ⟨ad,rfl,hb,fun j u hu => hcell j u ?_⟩
 rw [List.getElem?_take] at hu
 split at hu
 ·exact hu
 ·cases hu
theorem Lst.grown {row:Option Nat} (h:Lst w B size A n xs) (hg:w.grownBy w' row) (hB:B ≤ w.heap.size) (hr:∀ g,row = some g → B ≤ g):Lst w' B size A n xs:=
 h.kept (S:=fun _ => False) fun i hi => hg.block i (by omega) (fun e => by have:=hr i e.symm; omega)
end
end Go.Proofs.YtolaabllhibkdaaGreat

/- New blocks, read behind what a callee made. No condition. -/
namespace Go.Proofs.YtolaabllhibkdaaGreat
open Go.ChangeShapes Go.WideShapes Go.ChangeAt Go.RowKit Go.Sort
set_option linter.unusedSimpArgs false
set_option linter.unusedVariables false
theorem Blok.new (w:World) (t:TypeId) (cs:Array Value):Blok (w.alloc (.cells cs t)) w.heap.size t cs:=heap_alloc_new w _
theorem Blok.set_ {w:World} {g:Nat} {t:TypeId} {cs:Array Value} (h:Blok w g t cs) (i:Nat) (u:Value):Blok (w.setCell ⟨g,i,none⟩ u) g t (cs.setIfInBounds i u):=by
 unfold Blok at h ⊢
 simp [World.setCell,Array.getElem?_modify,h]
theorem Blok.far {w:World} {g:Nat} {t:TypeId} {cs:Array Value} (h:Blok w g t cs) {p:Addr} (hp:g ≠ p.block) (u:Value):Blok (w.setCell p u) g t cs:=(Below.heap_setCell w p u g hp).trans h
theorem Blok.alloc {w:World} {g:Nat} {t:TypeId} {cs:Array Value} (h:Blok w g t cs) (o:Obj):Blok (w.alloc o) g t cs:=(Below.heap_alloc w o g h.lt).trans h
theorem Blok.kept {S:Nat → Prop} {w w':World} {g:Nat} {t:TypeId} {cs:Array Value} (h:Blok w g t cs) (k:Kept S w w') (hn:¬ S g):Blok w' g t cs:=k.blok h hn
theorem blok4 {w:World} {g:Nat} {t:TypeId} {a0 a1 a2 a3:Value} (h:Blok w g t #[a0,a1,a2,a3]):w.cell? ⟨g,0,none⟩ = some a0 ∧ w.cell? ⟨g,1,none⟩ = some a1 ∧ w.cell? ⟨g,2,none⟩ = some a2 ∧ w.cell? ⟨g,3,none⟩ = some a3 ∧ g < w.heap.size:=⟨h.cell 0,h.cell 1,h.cell 2,h.cell 3,h.lt⟩
theorem free4 {w:World} {g:Nat} {t:TypeId} {cs:Array Value} (h:Blok w g t cs):w.frozen? ⟨g,0,none⟩ = false ∧ w.frozen? ⟨g,1,none⟩ = false ∧ w.frozen? ⟨g,2,none⟩ = false ∧ w.frozen? ⟨g,3,none⟩ = false:=⟨h.free 0,h.free 1,h.free 2,h.free 3⟩
theorem blok13 {w:World} {g:Nat} {t:TypeId} {a0 a1 a2 a3 a4 a5 a6 a7 a8 a9 a10 a11 a12:Value} (h:Blok w g t #[a0,a1,a2,a3,a4,a5,a6,a7,a8,a9,a10,a11,a12]):w.cell? ⟨g,0,none⟩ = some a0 ∧ w.cell? ⟨g,1,none⟩ = some a1 ∧ w.cell? ⟨g,2,none⟩ = some a2 ∧ w.cell? ⟨g,3,none⟩ = some a3 ∧ w.cell? ⟨g,4,none⟩ = some a4 ∧ w.cell? ⟨g,5,none⟩ = some a5 ∧ w.cell? ⟨g,6,none⟩ = some a6 ∧ w.cell? ⟨g,7,none⟩ = some a7 ∧ w.cell? ⟨g,8,none⟩ = some a8 ∧ w.cell? ⟨g,9,none⟩ = some a9 ∧ w.cell? ⟨g,10,none⟩ = some a10 ∧ w.cell? ⟨g,11,none⟩ = some a11 ∧ w.cell? ⟨g,12,none⟩ = some a12 ∧ g < w.heap.size:=⟨h.cell 0,h.cell 1,h.cell 2,h.cell 3,h.cell 4,h.cell 5,h.cell 6,h.cell 7,h.cell 8,h.cell 9,h.cell 10,h.cell 11,h.cell 12,h.lt⟩
theorem ret4 {w W:World} {b:Nat} {T:TypeId} {z0 z1 z2 z3:Value} (h:Blok W b T #[z0,z1,z2,z3]) (hB:Below w.heap.size w W) (hle:w.heap.size ≤ b) (v0 v1 v2 v3:Value):Blok ((((W.setCell ⟨b,0,none⟩ v0).setCell ⟨b,1,none⟩ v1).setCell ⟨b,2,none⟩ v2).setCell ⟨b,3,none⟩ v3) b T #[v0,v1,v2,v3] ∧ Below w.heap.size w ((((W.setCell ⟨b,0,none⟩ v0).setCell ⟨b,1,none⟩ v1).setCell ⟨b,2,none⟩ v2).setCell ⟨b,3,none⟩ v3) ∧ W.grownBy ((((W.setCell ⟨b,0,none⟩ v0).setCell ⟨b,1,none⟩ v1).setCell ⟨b,2,none⟩ v2).setCell ⟨b,3,none⟩ v3) (some b):=by
 refine ⟨?_,(((hB.setCell (p:=⟨b,0,none⟩) hle v0).setCell (p:=⟨b,1,none⟩) hle v1).setCell (p:=⟨b,2,none⟩) hle v2).setCell (p:=⟨b,3,none⟩) hle v3,grown_trans (grown_trans (grown_trans (grown_set _ _ _) (grown_set _ _ _)) (grown_set _ _ _)) (grown_set _ _ _)⟩
 have h2:=(((h.set_ 0 v0).set_ 1 v1).set_ 2 v2).set_ 3 v3
 simpa using h2
end Go.Proofs.YtolaabllhibkdaaGreat

/- Slices as lists of cells: what a slice reads as; clear of a row of the call's own; make behind append; a predicate handed over. No condition. -/
namespace Go.Proofs.YtolaabllhibkdaaGreat
open Go.ChangeShapes Go.WideShapes Go.ChangeAt Go.RowKit Go.Sort
set_option linter.unusedSimpArgs false
set_option linter.unusedVariables false

/-- The slice value at A, n elements long, reads as these cells; it is nil, or has an address. -/
structure Sl (w:World) (B k:Nat) (A:Option Addr) (n c:Nat) (xs:List Value):Prop where
 lst:Lst w B k A n xs
 cap:n ≤ c
 max:c ≤ maxLen
 nil:A = none → c = 0
section
variable {w w':World} {B B' k n c:Nat} {A:Option Addr} {xs:List Value}
theorem Sl.below (h:Sl w B k A n c xs) (hb:Below B w w'):Sl w' B k A n c xs:=⟨h.lst.below hb,h.cap,h.max,h.nil⟩
theorem Sl.more (h:Sl w B k A n c xs) (hB:B ≤ B'):Sl w B' k A n c xs:=⟨h.lst.more hB,h.cap,h.max,h.nil⟩
theorem Sl.up (h:Sl w w.heap.size k A n c xs) (hb:Below w.heap.size w w'):Sl w' w'.heap.size k A n c xs:=(h.below hb).more hb.size
theorem Sl.nil0 (w:World) (B k:Nat):Sl w B k none 0 0 []:=⟨⟨by simp,fun h => by omega⟩,by omega,by simp [maxLen],fun _ => rfl⟩
theorem Sl.of_own {base:Nat} {e:TypeId} (h:w.ownsRow base e k (.slice A n c) n xs):Sl w w.heap.size k A n c xs:=by
 refine ⟨Lst.of_own h,?_,?_,?_⟩
 all_goals
  rcases h.2 with ⟨he,h0⟩ | ⟨g,cap,cur,he,hb,hg,hc,hm,_⟩
  ·injection he with e1 e2 e3
   subst e1 e2 e3
   simp [maxLen]
  ·injection he with e1 e2 e3
   subst e1 e3
   first | exact hc | exact hm | (intro e; cases e)
theorem Sl.upto (h:Sl w B k A n c xs) {m:Nat} (hm:m ≤ n):Sl w B k A m c (xs.take (m * k)):=⟨h.lst.upto hm,Nat.le_trans hm h.cap,h.max,h.nil⟩
theorem Sl.from_ (h:Sl w B k A n c xs) {m:Nat} (hm:m ≤ n):Sl w B k (if c = m then A else A.map (·.add (m * k))) (n - m) (c - m) (xs.drop (m * k)):=by
 refine ⟨h.lst.from_ hm h.cap,by have:=h.cap; omega,by have:=h.max; omega,fun e => ?_⟩
 split at e
 ·omega
 ·have:A = none:=by cases A with | none => rfl | some a => simp at e
  have:=h.nil this
  omega
end
theorem addr_next (ad:Addr) (j m:Nat) (hm:0 < m):(⟨(ad.add j).block,(ad.add j).off + m,none⟩:Addr) = ad.add (j + m):=by
 unfold Addr.add
 by_cases hj:j = 0
 ·subst hj; simp; omega
 ·simp [hj]; omega
/-- A literal of these cells. -/
theorem own_lit (w:World) (base:Nat) (t:TypeId) (size n:Nat) (cs:Array Value) (hb:base ≤ w.heap.size) (hs:cs.size = n * size) (hm:n ≤ maxLen):(w.alloc (.cells cs t)).ownsRow base t size (.slice (some ⟨w.heap.size,0,none⟩) n n) n cs.toList:=
 ⟨by simpa using hs,.inr ⟨w.heap.size,n,cs,rfl,hb,heap_alloc_new w _,Nat.le_refl _,hm,hs,by rw [List.take_of_length_le (by simp; omega)]⟩⟩

section
variable {P:Program}
theorem run_append_made (w:World) (t ty e k:TypeId) (i:TypeInfo) (z:Value) (ht:P.underlying t = some (.slice e)) (hk:P.underlying k = some (.int .i64)) (hi:P.info? e = some i) (hz:i.zero = some z)
  (n:Nat) (h0:0 < n) (hsz:0 < i.size) (h63:(n:Int) ≤ 9223372036854775807) (h48:n * i.bytes ≤ 281474976710656) :
  ∃ c cur,(Builtin.append_ #[t,k] ty #[.slice none 0 0,.int .i64 n]).run P w = .ok (.slice (some ⟨w.heap.size,0,none⟩) n c) (w.drew.alloc (.cells cur e)) ∧ cur.size = c * z.cells.size ∧ n ≤ c ∧ c ≤ maxLen:=by
 refine ⟨grownCap w n 0 e,Builtin.zeroCells z.cells n ++ Builtin.zeroCells z.cells (grownCap w n 0 e - n),?_,?_,grownCap_ge w n 0 e,grownCap_le_maxLen w n 0 e (by unfold maxLen; omega)⟩
 ·have hn:n ≠ 0:=by omega
  have hw:IntKind.i64.wrap (n:Int) = n:=IntWalk.i64_in _ (by omega)
  have h63':¬ (9223372036854775807 < (n:Int)):=by omega
  have h48':¬ (281474976710656 < Builtin.nextslicecap n 0 * i.bytes):=by rw [nextslicecap_zero h0]; omega
  have h48i:¬ (281474976710656 < (n:Int) * (i.bytes:Int)):=by
   have h:=Int.ofNat_le.2 h48
   rw [Int.natCast_mul] at h
   omega
  have hs:i.size ≠ 0:=by omega
  simp [Builtin.append_,run_underlying ht,run_underlying hk,sizeOf,typeInfo,zeroValue,asInt,asIntOf,hi,hz,hn,hs,hw,h63',h48',h48i,Question.forced,run_firstCells_none,newRow,grownCap]
  have hns:¬ (n * i.size = 0):=by
   have:=Nat.mul_pos h0 hsz
   omega
  rw [if_neg (by omega:¬ ((n:Int) < 0)),if_neg hns]
 ·have:=grownCap_ge w n 0 e
  simp only [Array.size_append,size_zeroCells,← Nat.add_mul]
  congr 1
  omega
theorem wpList_append_made {ops:Array Oper} {rest:List Oper} {o:Oper} {a:Act} {w:World} {Q:Exit → Act → World → Prop} (hgd:o.guard = none) (s x:Operand) (t k:TypeId)
  (ho:o.op = .call { callee:=.builtin .append,args:=#[s,x],argTypes:=#[t,k] })
  (e:TypeId) (i:TypeInfo) (z:Value) (size:Nat) (ht:P.underlying t = some (.slice e)) (hk:P.underlying k = some (.int .i64)) (hi:P.info? e = some i) (hz:i.zero = some z) (hsize:i.size = size) (hzs:z.cells.size = size)
  (n:Nat) (hs:a.eval s = .slice none 0 0) (hx:a.eval x = .int .i64 n) (h0:0 < n) (hsz:0 < size) (h63:(n:Int) ≤ 9223372036854775807) (h48:n * i.bytes ≤ 281474976710656)
  (h:∀ c w',w'.ownsRow w.heap.size e size (.slice (some ⟨w.heap.size,0,none⟩) 0 c) 0 [] → Below w.heap.size w w' → n ≤ c → wpList P ops Q rest (a.put o.dst (.slice (some ⟨w.heap.size,0,none⟩) n c)) w'):wpList P ops Q (o :: rest) a w:=by
 refine wpList_plain hgd fun _ hK => ?_
 obtain ⟨c,cur,hr,h1,h2,h3⟩:=run_append_made (P:=P) w t o.type e k i z ht hk hi hz n h0 (by omega) h63 h48
 unfold Oper.wp execOp
 simp only [ho,resolve,invoke,builtin,Sem.run_bind,Sem.run_pure,Result.andThen_ok,List.map_toArray,List.map_cons,List.map_nil,hs,hx,hr]
 refine hK _ _ (h c _ ?_ ?_ h2)
 ·exact World.ownsRow_made w.drew cur c (Nat.le_refl _) h3 (by rw [h1,hzs])
 ·exact (Below.drew (Below.refl _ _)).alloc (Nat.le_refl _) _

theorem run_clear_own (w:World) (base:Nat) (t e ty:TypeId) (i:TypeInfo) (z:Value) (size:Nat) (ht:P.underlying t = some (.slice e)) (hi:P.info? e = some i) (hz:i.zero = some z) (hzs:z.cells.size = size) (hz1:∀ u ∈ z.cells.toList,u.oneCell' = true)
  (g n c m:Nat) (xs:List Value) (hown:w.ownsRow base e size (.slice (some ⟨g,0,none⟩) n c) n xs) (hm:m ≤ n) (A:Option Addr) (hA:A = some ((⟨g,0,none⟩:Addr).add (m * size)) ∨ n - m = 0) (c':Nat) :
  ∃ w' ys,(Builtin.clear_ #[t] ty #[.slice A (n - m) c']).run P w = .ok (.tuple #[]) w' ∧ w'.ownsRow base e size (.slice (some ⟨g,0,none⟩) n c) n ys ∧ ys.take (m * size) = xs.take (m * size) ∧ w.grownBy w' (some g):=by
 by_cases h0:n - m = 0
 ·refine ⟨w,xs,?_,hown,rfl,grown_refl _ _⟩
  rw [h0]
  cases A <;> simp [Builtin.clear_,run_underlying ht]
 ·obtain rfl:A = some ((⟨g,0,none⟩:Addr).add (m * size)):=hA.resolve_right h0
  rcases hown.2 with ⟨h',_⟩ | ⟨g',cap,cur,h',hb,hg,hc,hcm,hs,ht'⟩
  ·simp at h'
  ·simp only [Value.slice.injEq,Option.some.injEq,Addr.mk.injEq,and_true,true_and] at h'
   obtain ⟨rfl,rfl⟩:=h'
   have hadd:((⟨g,0,none⟩:Addr).add (m * size)) = ⟨g,m * size,none⟩:=by unfold Addr.add; split <;> simp_all
   rw [hadd]
   have hzl:(Builtin.zeroCells z.cells (n - m)).toList.length = (n - m) * size:=by rw [Array.length_toList,size_zeroCells,hzs]
   have hle:m * size + (n - m) * size ≤ cur.size:=by
    rw [← Nat.add_mul,hs]; exact Nat.mul_le_mul_right _ (by omega)
   have hz1':∀ u ∈ (Builtin.zeroCells z.cells (n - m)).toList,u.oneCell' = true:=by
    intro u hu
    have hpos:0 < z.cells.size:=by
     rcases Nat.eq_zero_or_pos z.cells.size with h | h
     ·exfalso
      have:(Builtin.zeroCells z.cells (n - m)).size = 0:=by rw [size_zeroCells,h]; simp
      rw [Array.eq_empty_of_size_eq_zero this] at hu
      simp at hu
     ·exact h
    unfold Builtin.zeroCells at hu
    simp only [Array.toList_map,List.mem_map] at hu
    obtain ⟨j,_,rfl⟩:=hu
    have hj:=Nat.mod_lt j hpos
    have e:z.cells[j % z.cells.size]! = z.cells[j % z.cells.size]:=getElem!_pos z.cells _ hj
    rw [e]
    exact hz1 _ (Array.getElem_mem_toList hj)
   have hst:=run_storeCells_at P g (m * size) e _ 0 cur w hg (by rw [hzl]; omega) hz1'
   simp only [Nat.add_zero] at hst
   refine ⟨w.setRow g (cur.toList.take (m * size) ++ (Builtin.zeroCells z.cells (n - m)).toList ++ cur.toList.drop (m * size + (Builtin.zeroCells z.cells (n - m)).toList.length)).toArray,List.take (n * size) (cur.toList.take (m * size) ++ (Builtin.zeroCells z.cells (n - m)).toList ++ cur.toList.drop (m * size + (Builtin.zeroCells z.cells (n - m)).toList.length)),?_,⟨?_,.inr ⟨g,c,_,rfl,hb,setRow_heap w g cur _ e _ hg,hc,hcm,?_,?_⟩⟩,?_,⟨rfl,rfl,rfl,by simp,fun k _ hk => setRow_other w g k _ (fun e => hk (by simp [e]))⟩⟩
   ·have h0':∃ q,n - m = q + 1:=⟨n - m - 1,by omega⟩
    obtain ⟨q,hq⟩:=h0'
    have hzv:∀ w,(zeroValue e).run P w = .ok z w:=fun w => by simp [zeroValue,typeInfo,hi,hz]
    rw [hq] at hst ⊢
    simp [Builtin.clear_,run_underlying ht,hzv,hst]
   ·simp only [List.length_take,List.length_append,List.length_drop,hzl,Array.length_toList]
    have h3:n * size ≤ cur.size:=by rw [hs]; exact Nat.mul_le_mul_right _ hc
    have h4:m * size + (n - m) * size = n * size:=by rw [← Nat.add_mul]; congr 1; omega
    omega
   ·simp only [List.size_toArray,List.length_append,List.length_take,List.length_drop,hzl,Array.length_toList]
    omega
   ·rfl
   ·rw [← ht',List.take_take,List.take_take]
    have h5:m * size ≤ n * size:=Nat.mul_le_mul_right _ hm
    rw [Nat.min_eq_left h5,List.append_assoc,List.take_append_of_le_length (by rw [List.length_take,Array.length_toList]; omega),List.take_take,Nat.min_self]
theorem wpList_clear_own {ops:Array Oper} {rest:List Oper} {o:Oper} {a:Act} {w:World} {Q:Exit → Act → World → Prop} (hgd:o.guard = none) (x:Operand) (t:TypeId)
  (ho:o.op = .call { callee:=.builtin .clear,args:=#[x],argTypes:=#[t] })
  (base:Nat) (e:TypeId) (i:TypeInfo) (z:Value) (size:Nat) (ht:P.underlying t = some (.slice e)) (hi:P.info? e = some i) (hz:i.zero = some z) (hzs:z.cells.size = size) (hz1:∀ u ∈ z.cells.toList,u.oneCell' = true)
  (g n c m:Nat) (xs:List Value) (hown:w.ownsRow base e size (.slice (some ⟨g,0,none⟩) n c) n xs) (hm:m ≤ n) (A:Option Addr) (c':Nat) (hx:a.eval x = .slice A (n - m) c') (hA:A = some ((⟨g,0,none⟩:Addr).add (m * size)) ∨ n - m = 0)
  (h:∀ w' ys,w'.ownsRow base e size (.slice (some ⟨g,0,none⟩) n c) n ys → ys.take (m * size) = xs.take (m * size) → w.grownBy w' (some g) → wpList P ops Q rest (a.put o.dst (.tuple #[])) w'):wpList P ops Q (o :: rest) a w:=by
 refine wpList_plain hgd fun _ hK => ?_
 obtain ⟨w',ys,hr,h1,h2,h3⟩:=run_clear_own (P:=P) w base t e o.type i z size ht hi hz hzs hz1 g n c m xs hown hm A hA c'
 unfold Oper.wp execOp
 simp only [ho,resolve,invoke,builtin,Sem.run_bind,Sem.run_pure,Result.andThen_ok,List.map_toArray,List.map_cons,List.map_nil,hx,hr]
 exact hK _ _ (h w' ys h1 h2 h3)
end
theorem enter_run {P : Program} {f : FuncId} {fn : Func} (hf : P.funcs[f]? = some fn) (hb : fn.body.isNone = false) (hnm : (fn.name == "runtime.NumGoroutine") = false) : ∀ vals w, (callFunc f vals).run P w = .ok (.enter f vals) w := by
 intro vals w
 have h1 : fn.name ≠ "runtime.NumGoroutine" := by simpa using hnm
 have h2:fn.body ≠ none:=by intro e; rw [e] at hb; cases hb
 simp [callFunc,run_program,hf]
 rw [if_neg h1,if_neg h2]
/-- The place q, or -1. -/
def idxOf (q n:Nat):Int:=if q < n then (q:Int) else -1
theorem idxOf_yes {q n:Nat} (h:q < n):idxOf q n = q:=if_pos h
theorem idxOf_no {q n:Nat} (h:¬ q < n):idxOf q n = -1:=if_neg h
theorem own_cut {w:World} {base:Nat} {e:TypeId} {size n m g c:Nat} {xs:List Value} (h:w.ownsRow base e size (.slice (some ⟨g,0,none⟩) n c) n xs) (hm:m ≤ n):w.ownsRow base e size (.slice (some ⟨g,0,none⟩) m c) m (xs.take (m * size)):=by
 have hle:m * size ≤ n * size:=Nat.mul_le_mul_right _ hm
 refine ⟨by rw [List.length_take,h.1]; omega,?_⟩
 rcases h.2 with ⟨h',_⟩ | ⟨g',cap,cur,h',hb,hg,hc,hcm,hs,ht⟩
 ·simp at h'
 ·simp only [Value.slice.injEq,Option.some.injEq,Addr.mk.injEq,and_true,true_and] at h'
  obtain ⟨rfl,rfl⟩:=h'
  refine .inr ⟨g,c,cur,rfl,hb,hg,by omega,hcm,hs,?_⟩
  rw [← ht,List.take_take]
  congr 1
  omega
theorem own_at {w:World} {base:Nat} {e:TypeId} {size n:Nat} {v:Value} {xs:List Value} (h:w.ownsRow base e size v n xs) (hn:0 < n):∃ g c,v = .slice (some ⟨g,0,none⟩) n c ∧ n ≤ c ∧ c ≤ maxLen ∧ base ≤ g ∧ g < w.heap.size:=by
 rcases h.2 with ⟨rfl,rfl⟩ | ⟨g',cap,cur,rfl,hb,hg,hc,hm,_⟩
 ·omega
 ·exact ⟨_,_,rfl,hc,hm,hb,lt_of_block hg⟩
theorem own_down {w:World} {base base':Nat} {e:TypeId} {size n:Nat} {v:Value} {xs:List Value} (h:w.ownsRow base e size v n xs) (hb:base' ≤ base):w.ownsRow base' e size v n xs:=by
 refine ⟨h.1,?_⟩
 rcases h.2 with hx | ⟨g,cap,cur,h1,h2,rest⟩
 ·exact .inl hx
 ·exact .inr ⟨g,cap,cur,h1,by omega,rest⟩
end Go.Proofs.YtolaabllhibkdaaGreat

/- cmp.Compare and cmp.Or at int. No condition. -/
namespace Go.Proofs.YtolaabllhibkdaaGreat
open Go.ChangeShapes Go.WideShapes Go.ChangeAt Go.RowKit Go.Sort
set_option linter.unusedSimpArgs false
set_option linter.unusedVariables false
def cmpI (a b:Int):Int:=if a < b then -1 else if b < a then 1 else 0
theorem cmpI_lt {a b:Int} (h:a < b):cmpI a b = -1:=if_pos h
theorem cmpI_gt {a b:Int} (h:b < a):cmpI a b = 1:=by unfold cmpI; rw [if_neg (by omega),if_pos h]
theorem cmpI_zero {a b:Int}:cmpI a b = 0 ↔ a = b:=by
 unfold cmpI; constructor
 ·intro h; split at h
  ·omega
  ·split at h <;> omega
 ·rintro rfl; rw [if_neg (by omega),if_neg (by omega)]
def orF:List Int → Int
 | [] => 0
 | x :: l => if x = 0 then orF l else x
theorem nan_any (a:Int) (w:World):Calls Tryz.prog 111 #[.int .i64 a] w fun e w' => e = .returned (.bool false) ∧ w = w':=by
 have hz:(a != a) = false:=by simp
 go_enter Tryz.func111,Tryz.ntmps111
 go_wp2
 go_ret
 exact ⟨rfl,rfl⟩
theorem cmp_any (a b:Int) (w:World):Calls Tryz.prog 97 #[.int .i64 a,.int .i64 b] w fun e w' => e = .returned (.int .i64 (cmpI a b)) ∧ w = w':=by
 by_cases h1:a < b
 ·rw [cmpI_lt h1]
  go_enter Tryz.func97,Tryz.ntmps97
  go_wp2_with (go_at_call 111; refine (nan_any _ _).mono ?_; rintro e w' ⟨rfl,rfl⟩)
  go_ret
  exact ⟨rfl,rfl⟩
 ·by_cases h2:b < a
  ·rw [cmpI_gt h2]
   go_enter Tryz.func97,Tryz.ntmps97
   go_wp2_with (go_at_call 111; refine (nan_any _ _).mono ?_; rintro e w' ⟨rfl,rfl⟩)
   go_ret
   exact ⟨rfl,rfl⟩
  ·have h0:cmpI a b = 0:=cmpI_zero.2 (by omega)
   rw [h0]
   go_enter Tryz.func97,Tryz.ntmps97
   go_wp2_with (go_at_call 111; refine (nan_any _ _).mono ?_; rintro e w' ⟨rfl,rfl⟩)
   go_ret
   exact ⟨rfl,rfl⟩
theorem orF_next:∀ (l:List Int) (k:Nat),k < l.length → (∀ j,j < k → l.getD j 0 = 0) → l.getD k 0 ≠ 0 → orF l = l.getD k 0
 | x :: l,0,_,_,h => by simp [orF] at *; intro e; exact absurd e h
 | x :: l,k + 1,hk,hz,h => by
  have h0:x = 0:=by simpa using hz 0 (by omega)
  rw [orF,if_pos h0]
  simpa using orF_next l k (by simpa using hk) (fun j hj => by simpa using hz (j + 1) (by omega)) (by simpa using h)
theorem orF_zero:∀ (l:List Int),(∀ j,j < l.length → l.getD j 0 = 0) → orF l = 0
 | [],_ => rfl
 | x :: l,h => by
  have h0:x = 0:=by simpa using h 0 (by simp)
  rw [orF,if_pos h0]
  exact orF_zero l (fun j hj => by simpa using h (j + 1) (by simpa using hj))
theorem or_any (g m c:Nat) (l:List Int) (w:World) (hm:l.length = m) (hm2:m ≤ 1000) (hc:∀ k,k < m → w.cell? ⟨g,k,none⟩ = some (.int .i64 (l.getD k 0))) :
  Calls Tryz.prog 96 #[.slice (some ⟨g,0,none⟩) m c] w fun e w' => e = .returned (.int .i64 (orF l)) ∧ w = w':=by
 have HC:=Lib.hid hc
 have HM:=Lib.hid hm
 clear hc hm
 go_enter Tryz.func96,Tryz.ntmps96
 go_wp2
 go_loop [8] (fun i => ∃ k:Nat,k ≤ m ∧ i = .int .i64 k ∧ Hid (∀ j,j < k → l.getD j 0 = 0)) (fun i => m - (intOf i).toNat)
 case atStart => exact ⟨0,by omega,rfl,fun j hj => by omega⟩
 case round =>
  obtain ⟨k,hk,rfl,HZ⟩:=hrel
  by_cases hkm:k < m
  ·have hck:=HC.out k hkm
   obtain ⟨y,hy⟩:∃ y,l.getD k 0 = y:=⟨_,rfl⟩
   rw [hy] at hck
   have HY:=Lib.hid hy
   clear hy
   by_cases h0:y = 0
   ·have hb:(y != 0) = false:=by simp [h0]
    have H0:=Lib.hid h0
    clear h0
    go_wp2
    go_round
    case rel => exact ⟨k + 1,by omega,by go_num,fun j hj => by
     by_cases e:j = k
     ·rw [e,HY.out]; exact H0.out
     ·exact HZ.out j (by omega)⟩
    case measure => simp [intOf]; omega
   ·have hb:(y != 0) = true:=by simpa using h0
    have hfin:orF l = y:=by rw [← HY.out]; exact orF_next l k (by have:=HM.out; omega) HZ.out (by rw [HY.out]; exact h0)
    have HF:=Lib.hid hfin
    clear hfin h0
    go_wp2
    go_ret
    exact ⟨by rw [HF.out]; rfl,rfl⟩
  ·have hfin:orF l = 0:=orF_zero l (fun j hj => HZ.out j (by have:=HM.out; omega))
   have HF:=Lib.hid hfin
   clear hfin
   go_wp2
   go_ret
   exact ⟨by rw [HF.out]; rfl,rfl⟩
end Go.Proofs.YtolaabllhibkdaaGreat

/- A call of a Go function, as one step of a region that draws its order. No condition. -/
namespace Go.Proofs.YtolaabllhibkdaaGreat
open Go.ChangeShapes Go.WideShapes Go.ChangeAt Go.RowKit Go.Sort
set_option linter.unusedSimpArgs false
set_option linter.unusedVariables false
theorem step_call {P:Program} {ops:Array Oper} {o:Oper} {a:Act} {w:World} {K:Act → World → Prop} {Q:Exit → Act → World → Prop} {E:Prop} (hgd:o.guard = none) (f:FuncId) (xs:Array Operand) (ats:Array TypeId)
  (ho : o.op = .call { callee := .value (.func f), args := xs, argTypes := ats }) (vals : Array Value) (hv : #[] ++ xs.map a.eval ++ #[] = vals) {fn : Func} (hf : P.funcs[f]? = some fn) (hb : fn.body.isNone = false) (hnm : (fn.name == "runtime.NumGoroutine") = false)
  (h:Calls P f vals w fun e w' => ∃ v,e = .returned v ∧ K (a.put o.dst v) w') :
  if Region.wanted o (yielded ops a.tmps) = true then Oper.wp P o a w K Q else E:=by
 rw [if_pos (by simp [Region.wanted,hgd])]
 obtain ⟨dst,op,ty,pos,after,guard⟩:=o
 simp only at ho
 subst ho
 unfold Oper.wp
 rw [execOp_call_go,hv]
 have e:(callFunc f vals).run P w = .ok (.enter f vals) w:=by
  have h1 : fn.name ≠ "runtime.NumGoroutine" := by simpa using hnm
  have h2:fn.body ≠ none:=by intro e; rw [e] at hb; cases hb
  simp [callFunc,run_program,hf]
  rw [if_neg h1,if_neg h2]
 rw [e]
 refine h.mono ?_
 rintro e w' ⟨v,rfl,hK⟩
 exact hK
end Go.Proofs.YtolaabllhibkdaaGreat

/- An argument that is a slice of flat structs, opened as a slice with its nil. No condition. -/
namespace Go.Proofs.YtolaabllhibkdaaGreat
open Go.ChangeShapes Go.WideShapes Go.ChangeAt Go.RowKit Go.Sort
set_option linter.unusedSimpArgs false
set_option linter.unusedVariables false
variable {H:Type} {enc:TypeId × Value → H} {P:Program}
theorem open_rowsS {w:World} {base b0:Nat} {r:Reach} {spare:Nat → Bool} {held:Bool} {t e:TypeId} {v:Value} {d:DataW H} {p:List MemPlace} (q:Nat) {K:Nat} (ht:P.underlying t = some (.slice e)) (hf:flatB P q e = true) (hK:P.cellsOf e = K) (hpos:0 < K)
  (hv:Value.okWide P w r b0 t v) (h:DataW.Trod enc P w base spare held t v d p) :
  ∃ (A:Option Addr) (n c:Nat) (ns:List Int),v = .slice A n c ∧ Sl w w.heap.size K A n c (ns.map (Value.int .i64)) ∧ ns.length = n * K ∧ ∀ m ∈ ns,(Lit.int .i64 m).wf = true:=by
 obtain ⟨A,n,c,ns,rfl,h1,h2,h3,h4,h5⟩:=open_rows q ht hf hK hpos hv h
 refine ⟨A,n,c,ns,rfl,⟨h3,h1,h2,fun hA => ?_⟩,h4,h5⟩
 subst hA
 obtain ⟨fuel,hx⟩:=h
 rcases Go.Deep.open_slice ht hx with ⟨h0,_⟩ | ⟨a,len,cap,m,q',D,Pl,hcs,_⟩
 ·have h0':Value.slice none n c = .slice none 0 0:=by simpa [Value.cells] using h0
  injection h0'
 ·simp [Value.cells] at hcs
end Go.Proofs.YtolaabllhibkdaaGreat
