/- Several texts of mine in one: Lib, Check, Math, Ceil, Hop, Goto. No condition. -/
import Derived.WalkKit
import Derived.ProofKit
import Derived.OpenShut
import Derived.ChangeOld
import Derived.BigQuiet
import Derived.Deep.QuietTactic
import Derived.Lib.QuietBelow
import Derived.Lib.Hide
import Derived.Deep.DeepCutAuto
import Derived.Test.YtodcoockhkghdaaGreatChecked
import Derived.WalkLawsBesides
namespace Go.Proofs.YtodcoockhkghdaaGreat
open Go.ChangeShapes Go.WideShapes Go.ChangeAt Go.RowKit Go.Sort
set_option linter.unusedSimpArgs false
set_option linter.unusedVariables false

theorem bcell {W w1:World} (hb:Below W.heap.size W w1):(∀ b o,b < W.heap.size → w1.cell? ⟨b,o,none⟩ = W.cell? ⟨b,o,none⟩) ∧ (∀ b o,b < W.heap.size → w1.frozen? ⟨b,o,none⟩ = W.frozen? ⟨b,o,none⟩):=
 ⟨fun b o h => hb.cell (p:=⟨b,o,none⟩) h,fun b o h => hb.frozen (p:=⟨b,o,none⟩) h⟩

theorem _root_.Go.Calls.regrown_same {P:Program} {f:FuncId} {args:Array Value} {w:World} {d:Nat} {os:Array Obj} {v:Value}
  (h:Calls P f args (grow (redrawn w d) os) fun e w' => e = .returned v ∧ grow (redrawn w d) os = w'):Calls P f args (grow (redrawn w d) os) fun e w'' => e = .returned v ∧ ∃ p:Regrown,w'' = grow (redrawn w p.d) p.os:=
 h.mono fun _ _ ⟨he,hw⟩ => ⟨he,⟨d,os⟩,hw.symm⟩

theorem name_wp {P:Program} {c:Code} {Q:Exit → Act → World → Prop} {a:Act} {w0:World} (h:∀ W,W = w0 → c.wp P Q a W):c.wp P Q a w0:=h _ rfl
theorem wpOps_of_quiet {P:Program} {C:World → Prop} {Q:Exit → Act → World → Prop} (L:List Oper):∀ (l:List Oper) (k:Nat) (a:Act) (w:World),(∀ j,l[j]? = L[k + j]?) → C w →
  wpQuiet P L.toArray C (fun a' => ∀ w',C w' → Q .normal a' w') l a → wpOps P L.toArray Q (List.range' k l.length) a w
 | [],k,a,w,_,hC,h => h w hC
 | o :: l,k,a,w,hl,hC,h => by
  have h0:L.toArray[k]? = some o:=by simpa using (hl 0).symm
  have hn:∀ j,l[j]? = L[k + 1 + j]?:=fun j => by have:=hl (j + 1); simpa [Nat.add_assoc,Nat.add_comm 1 j] using this
  simp only [List.length_cons,List.range'_succ,wpOps,h0]
  simp only [wpQuiet] at h
  split
  ·rename_i hw
   rw [if_pos hw] at h
   exact .inl (Oper.wp_of_quiet hC (fun a' w' hC' hK => wpOps_of_quiet L l (k + 1) a' w' hn hC' hK) h)
  ·rename_i hw
   rw [if_neg hw] at h
   exact wpOps_of_quiet L l (k + 1) _ w hn hC h
theorem wp_region_text_below {P:Program} {id:Nat} {Q:Exit → Act → World → Prop} {a:Act} {w:World} {l:List Oper}
  (h:wpQuiet P l.toArray (fun w' => ∃ p:Regrown,w' = grow (redrawn w p.d) p.os) (fun a' => ∀ w',(∃ p:Regrown,w' = grow (redrawn w p.d) p.os) → Q .normal a' w') l a):(Code.region id l.toArray false).wp P Q a w:=by
 refine wp_region ?_
 have:=wpOps_of_quiet (C:=fun w' => ∃ p:Regrown,w' = grow (redrawn w p.d) p.os) (Q:=Q) l l 0 a w (by simp) ⟨⟨w.drawn,#[]⟩,by rw [grow_empty]; rfl⟩ h
 simpa [List.range_eq_range'] using this
theorem heap_alloc_at (w:World) (o:Obj) (k:Nat):(w.alloc o).heap[k]? = if k = w.heap.size then some o else w.heap[k]?:=by
 show (w.heap.push o)[k]? = _
 rw [Array.getElem?_push]
theorem cell_alloc_if (w:World) (c:Array Value) (t:TypeId) (n i:Nat):(w.alloc (.cells c t)).cell? ⟨n,i,none⟩ = if n = w.heap.size then c[i]? else w.cell? ⟨n,i,none⟩:=by
 unfold World.cell?
 simp only [heap_alloc_at]
 by_cases h:n = w.heap.size
 ·simp [h]
 ·simp [h]
theorem cell_of_block {w:World} {b:Nat} {cs:Array Value} {t:TypeId} {fr:Nat × Nat} (h:w.heap[b]? = some (.cells cs t fr)) (o:Nat):w.cell? ⟨b,o,none⟩ = cs[o]?:=by
 simp [World.cell?,h]
theorem grown_cells (W:World):∀ d os b o,b < W.heap.size → (grow (redrawn W d) os).cell? ⟨b,o,none⟩ = W.cell? ⟨b,o,none⟩:=
 fun d os b o h => (below_regrown W d os).cell (p:=⟨b,o,none⟩) h

section
variable {H:Type} {enc:TypeId × Value → H} {P:Program}

def flatB (P:Program):Nat → TypeId → Bool
 | 0,_ => false
 | n + 1,t =>
  match P.underlying t with
  | some (.int .i64) => true
  | some (.struct fs) => fs.toList.all (fun f => flatB P n f.type) && (List.range (P.cellsOf t)).all fun i => fs.toList.any fun f => decide (f.offset ≤ i) && decide (i < f.offset + P.cellsOf f.type)
  | some (.array k e) => flatB P n e && decide (P.cellsOf t = k * P.cellsOf e)
  | _ => false

theorem flat_cell {w:World} {base:Nat} {spare:Nat → Bool} {held:Bool}:∀ (n:Nat) {fuel:Nat} {t:TypeId} {cs:List Value} {x:DataW H × List MemPlace},flatB P n t = true →
  DataW.trod enc P w base spare held fuel t cs = some x → ∀ c ∈ cs,∃ m,c = .int .i64 m ∧ (Lit.int .i64 m).wf = true
 | 0,_,_,_,_,h,_ => by simp [flatB] at h
 | n + 1,fuel,t,cs,x,h,ht => by
  unfold flatB at h
  split at h
  ·rename_i hu
   obtain ⟨m,rfl,_,hw⟩:=DataW.trod_int hu ht
   intro c hc
   simp at hc
   exact ⟨m,hc,hw⟩
  ·rename_i fs hu
   simp only [Bool.and_eq_true,List.all_eq_true,List.any_eq_true,decide_eq_true_eq,List.mem_range] at h
   obtain ⟨h1,h2⟩:=h
   obtain ⟨xs,m,_,_,hlen,hxl,hf⟩:=DataW.trod_struct hu ht
   intro c hc
   obtain ⟨i,hi,rfl⟩:=List.getElem_of_mem hc
   obtain ⟨f,hfm,hlo,hhi⟩:=h2 i (by omega)
   obtain ⟨j,hj,hjf⟩:=List.getElem_of_mem hfm
   have hj':fs[j]? = some f:=by
    rw [← Array.getElem?_toList,List.getElem?_eq_getElem hj,hjf]
   have h3:=hf j f hj'
   have hjx:xs[j]? = some (xs[j]'(by rw [hxl]; simpa using hj)):=List.getElem?_eq_getElem _
   rw [hjx] at h3
   refine flat_cell n (h1 f hfm) h3 _ ?_
   rw [List.mem_take_iff_getElem]
   exact ⟨i - f.offset,by simp; omega,by simp; congr 1; omega⟩
  ·rename_i k e hu
   simp only [Bool.and_eq_true,decide_eq_true_eq] at h
   obtain ⟨h1,h2⟩:=h
   obtain ⟨xs,m,_,_,hlen,hxl,hf⟩:=DataW.trod_array hu ht
   intro c hc
   obtain ⟨i,hi,rfl⟩:=List.getElem_of_mem hc
   have hpos:0 < P.cellsOf e:=by
    rcases Nat.eq_zero_or_pos (P.cellsOf e) with h0 | h0
    ·rw [h0] at h2; omega
    ·exact h0
   have hd:i / P.cellsOf e < k:=by rw [Nat.div_lt_iff_lt_mul hpos]; omega
   have h3:=hf (i / P.cellsOf e) hd
   have hjx:xs[i / P.cellsOf e]? = some (xs[i / P.cellsOf e]'(by omega)):=List.getElem?_eq_getElem _
   rw [hjx] at h3
   refine flat_cell n h1 h3 _ ?_
   rw [List.mem_take_iff_getElem]
   have hm:=Nat.mod_lt i hpos
   have hdm:=Nat.div_add_mod i (P.cellsOf e)
   have hmul:P.cellsOf e * (i / P.cellsOf e) = i / P.cellsOf e * P.cellsOf e:=Nat.mul_comm _ _
   exact ⟨i % P.cellsOf e,by simp; omega,by simp; congr 1; omega⟩
  ·cases h

theorem ints_of_cells {cs:List Value} (h:∀ c ∈ cs,∃ m,c = .int .i64 m ∧ (Lit.int .i64 m).wf = true):∃ ns:List Int,cs = ns.map (Value.int .i64) ∧ ∀ m ∈ ns,(Lit.int .i64 m).wf = true:=by
 induction cs with
 | nil => exact ⟨[],rfl,by simp⟩
 | cons c cs ih =>
  obtain ⟨m,rfl,hm⟩:=h c (by simp)
  obtain ⟨ns,rfl,hn⟩:=ih (fun c hc => h c (by simp [hc]))
  exact ⟨m :: ns,rfl,by simpa [hm] using hn⟩

theorem open_flat {w:World} {base b0:Nat} {r:Reach} {spare:Nat → Bool} {held:Bool} {t:TypeId} {fs:Array Field} {v:Value} {d:DataW H} {p:List MemPlace} (n:Nat) (hs:P.underlying t = some (.struct fs)) (hf:flatB P n t = true)
  (hv:Value.okWide P w r b0 t v) (h:DataW.Trod enc P w base spare held t v d p) :
  ∃ ns:List Int,v = .agg (ns.map (Value.int .i64)).toArray ∧ ns.length = P.cellsOf t ∧ ∀ m ∈ ns,(Lit.int .i64 m).wf = true:=by
 obtain ⟨cs,rfl,hsz⟩:=okWide_struct hs hv
 obtain ⟨fuel,hx⟩:=h
 obtain ⟨ns,h1,h2⟩:=ints_of_cells (flat_cell n hf hx)
 have e:cs = (ns.map (Value.int .i64)).toArray:=by
  rw [← h1]; rfl
 refine ⟨ns,by rw [e],?_,h2⟩
 rw [← hsz,e]
 simp

theorem trodAll_below (hl:laidOutB P = true) {W W':World} (hb:Below W.heap.size W W'):∀ (ts:List TypeId) (vs:List Value) (ds:List (DataW H)) (p:List MemPlace),
  (∀ t ∈ ts,P.readableRec t = true ∧ t < P.types.size) → DataW.TrodAll enc P W 0 (fun _ => true) true ts vs ds p → (∀ x ∈ p,x.block < W.heap.size) →
  DataW.TrodAll enc P W' 0 (fun b => decide (b < W.heap.size)) true ts vs ds p
 | [],vs,ds,p,_,h,_ => by
  obtain ⟨rfl,rfl,rfl⟩:=trodAll_nil h
  rfl
 | t :: ts,vs,ds,p,hts,h,hp => by
  obtain ⟨v,vs',d,ds',p',q',rfl,rfl,rfl,h1,h2⟩:=trodAll_cons h
  obtain ⟨hr,hrow⟩:=hts t (by simp)
  exact trodAll_cons_mk (Below.trod hl hr hrow h1 hb (fun x hx => hp x (by simp [hx]))) (trodAll_below hl hb ts vs' ds' q' (fun t ht => hts t (by simp [ht])) h2 (fun x hx => hp x (by simp [hx])))

theorem law_post {f:Func} {s:ChangeSpec} {W W':World} {args:Array Value} {ds gs:List (DataW H)} {before:List MemPlace} {tb:TypeId} (hl:laidOutB P = true)
  (hts:(f.params.toList.all fun t => P.readableRec t && decide (t < P.types.size)) = true) (hr:f.resultTypes = #[tb]) (hb:P.underlying tb = some .bool) (hv:s.vars = [])
  (hs:s.fn H (ds ++ gs) = { results:=[.lit (.bool true)],args:=ds }) (hW:DataW.Whole enc P f.params.toList s.vars false W args.toList ds gs before) (bel:Below W.heap.size W W') :
  s.post enc P f false true false false W args (.bool true) W':=by
 have hlt:∀ p ∈ before,p.block < W.heap.size:=fun p hp => hW.lt p hp
 have hW':=hW
 obtain ⟨p,q,hA,hV,rfl,hfz,hnd⟩:=hW
 refine ⟨ds,gs,_,[],p,[],hW',?_,?_,?_,bel.frame _,fun h => by cases h⟩
 ·rw [hr,hs]
  exact trodAll_mk1 (shut_bool hb _)
 ·rw [hs]
  refine trodAll_below hl bel _ _ _ _ (fun t ht => ?_) hA (fun x hx => hlt x (by simp [hx]))
  have:=List.all_eq_true.1 hts t ht
  simpa using this
 ·rw [hv,hs]
  rfl
end
end Go.Proofs.YtodcoockhkghdaaGreat
namespace Go.Proofs.YtodcoockhkghdaaGreat
open Go.ChangeShapes Go.WideShapes Go.ChangeAt Go.RowKit Go.Sort
set_option linter.unusedSimpArgs false
set_option linter.unusedVariables false

def inB (n lo hi:Int):Bool:=decide (lo ≤ n ∧ n ≤ hi)
def nodeB (n:Int):Bool:=inB n 1 255
def wayB (a b:Int):Bool:=nodeB a && nodeB b && a != b
def spanB (s e:Int):Bool:=decide (0 ≤ s) && decide (s < e) && decide (e ≤ 2147483647)
def contactB (id fr tn st en ra:Int):Bool:=inB id 1 1048576 && wayB fr tn && spanB st en && inB ra 1 2147483647
def rangeB (fr tn st en ow:Int):Bool:=wayB fr tn && spanB st en && inB ow 0 2147483647
def bundleB (fr tn si cl de:Int):Bool:=nodeB fr && nodeB tn && inB si 0 1099511627775 && inB cl 0 2 && inB de 0 1099511627776
def volumeF (id fr tn st en ra:Int):Int:=if contactB id fr tn st en ra = true then ra * (en - st) else 0

theorem in_any (n lo hi:Int) (w:World) :
  Calls Tryz.prog 38 #[.int .i64 n,.int .i64 lo,.int .i64 hi] w fun e w' => e = .returned (.bool (inB n lo hi)) ∧ w = w':=by
 by_cases h1:lo ≤ n <;> by_cases h2:n ≤ hi <;>
 ·go_enter Tryz.func38,Tryz.ntmps38
  go_wp2
  go_ret
  exact ⟨by simp [inB,h1,h2],rfl⟩

theorem node_any (n:Int) (w:World) :
  Calls Tryz.prog 37 #[.int .i64 n] w fun e w' => e = .returned (.bool (nodeB n)) ∧ w = w':=by
 go_enter Tryz.func37,Tryz.ntmps37
 go_wp2_with (go_at_call 38; refine (in_any _ _ _ _).mono ?_; rintro e w' ⟨rfl,rfl⟩)
 go_ret
 exact ⟨rfl,rfl⟩
theorem way_any (a b:Int) (w:World) :
  Calls Tryz.prog 93 #[.int .i64 a,.int .i64 b] w fun e w' => e = .returned (.bool (wayB a b)) ∧ w = w':=by
 go_enter Tryz.func93,Tryz.ntmps93
 go_wp2_with (go_at_call 37; refine (node_any _ _).mono ?_; rintro e w' ⟨rfl,rfl⟩)
 all_goals go_ret
 all_goals exact ⟨by simp [wayB, *],rfl⟩
theorem span_any (a b:Int) (w:World) :
  Calls Tryz.prog 94 #[.int .i64 a,.int .i64 b] w fun e w' => e = .returned (.bool (spanB a b)) ∧ w = w':=by
 by_cases h1:0 ≤ a <;> by_cases h2:a < b <;> by_cases h3:b ≤ 2147483647 <;>
 ·go_enter Tryz.func94,Tryz.ntmps94
  go_wp2
  go_ret
  exact ⟨by simp [spanB,h1,h2,h3],rfl⟩
theorem contact_any (id fr tn st en ra:Int) (w:World) :
  Calls Tryz.prog 58 #[.agg #[.int .i64 id,.int .i64 fr,.int .i64 tn,.int .i64 st,.int .i64 en,.int .i64 ra]] w fun e w' => e = .returned (.bool (contactB id fr tn st en ra)) ∧ Below w.heap.size w w':=by
 go_enter Tryz.func58,Tryz.ntmps58
 go_wp2_with (first | (go_at_call 38; refine (in_any _ _ _ _).mono ?_; rintro e w' ⟨rfl,rfl⟩) | (go_at_call 93; refine (way_any _ _ _).mono ?_; rintro e w' ⟨rfl,rfl⟩) | (go_at_call 94; refine (span_any _ _ _).mono ?_; rintro e w' ⟨rfl,rfl⟩))
 all_goals go_ret
 all_goals exact ⟨by simp [contactB, *],(Below.refl _ _).alloc (Nat.le_refl _) _⟩
theorem bundle_any (fr tn si cl de:Int) (w:World) :
  Calls Tryz.prog 22 #[.agg #[.int .i64 fr,.int .i64 tn,.int .i64 si,.int .i64 cl,.int .i64 de]] w fun e w' => e = .returned (.bool (bundleB fr tn si cl de)) ∧ Below w.heap.size w w':=by
 go_enter Tryz.func22,Tryz.ntmps22
 go_wp2_with (first | (go_at_call 38; refine (in_any _ _ _ _).mono ?_; rintro e w' ⟨rfl,rfl⟩) | (go_at_call 37; refine (node_any _ _).mono ?_; rintro e w' ⟨rfl,rfl⟩))
 all_goals go_ret
 all_goals exact ⟨by simp [bundleB, *],(Below.refl _ _).alloc (Nat.le_refl _) _⟩
theorem nodeB_spec {n:Int}:nodeB n = true ↔ 1 ≤ n ∧ n ≤ 255:=by
 simp [nodeB,inB]
theorem inB_spec {n lo hi:Int}:inB n lo hi = true ↔ lo ≤ n ∧ n ≤ hi:=by
 simp [inB]
theorem contactB_spec {id fr tn st en ra:Int}:contactB id fr tn st en ra = true ↔ (1 ≤ id ∧ id ≤ 1048576) ∧ (1 ≤ fr ∧ fr ≤ 255) ∧ (1 ≤ tn ∧ tn ≤ 255) ∧ fr ≠ tn ∧ 0 ≤ st ∧ st < en ∧ en ≤ 2147483647 ∧ 1 ≤ ra ∧ ra ≤ 2147483647:=by
 simp [contactB,wayB,nodeB,spanB,inB,and_assoc]
theorem rangeB_spec {fr tn st en ow:Int}:rangeB fr tn st en ow = true ↔ (1 ≤ fr ∧ fr ≤ 255) ∧ (1 ≤ tn ∧ tn ≤ 255) ∧ fr ≠ tn ∧ 0 ≤ st ∧ st < en ∧ en ≤ 2147483647 ∧ 0 ≤ ow ∧ ow ≤ 2147483647:=by
 simp [rangeB,wayB,nodeB,spanB,inB,and_assoc]
theorem bundleB_spec {fr tn si cl de:Int}:bundleB fr tn si cl de = true ↔ (1 ≤ fr ∧ fr ≤ 255) ∧ (1 ≤ tn ∧ tn ≤ 255) ∧ (0 ≤ si ∧ si ≤ 1099511627775) ∧ (0 ≤ cl ∧ cl ≤ 2) ∧ 0 ≤ de ∧ de ≤ 1099511627776:=by
 simp [bundleB,nodeB,inB,and_assoc]
theorem volume_bounds {id fr tn st en ra:Int} (h:contactB id fr tn st en ra = true):1 ≤ ra * (en - st) ∧ ra * (en - st) ≤ 4611686014132420609:=by
 obtain ⟨_,_,_,_,h1,h2,h3,h4,h5⟩:=contactB_spec.1 h
 constructor
 ·exact Int.le_trans (by omega:(1:Int) ≤ 1 * 1) (Int.mul_le_mul h4 (by omega) (by omega) (by omega))
 ·exact Int.le_trans (Int.mul_le_mul h5 (by omega:en - st ≤ 2147483647) (by omega) (by omega)) (by omega)
theorem volume_any (id fr tn st en ra:Int) (w:World) :
  Calls Tryz.prog 95 #[.agg #[.int .i64 id,.int .i64 fr,.int .i64 tn,.int .i64 st,.int .i64 en,.int .i64 ra]] w fun e w' => e = .returned (.int .i64 (volumeF id fr tn st en ra)) ∧ Below w.heap.size w w':=by
 by_cases h:contactB id fr tn st en ra = true
 ·have hv:=volume_bounds h
  have hs:=contactB_spec.1 h
  go_enter Tryz.func95,Tryz.ntmps95
  go_wp2_with (go_at_call 58; refine (contact_any _ _ _ _ _ _ _).mono ?_; rintro e w' ⟨rfl,hb⟩; obtain ⟨hc,hf⟩:=bcell hb)
  go_ret
  exact ⟨by simp [volumeF,h],((Below.refl _ _).alloc (Nat.le_refl _) _).trans (hb.mono (by simp))⟩
 ·go_enter Tryz.func95,Tryz.ntmps95
  go_wp2_with (go_at_call 58; refine (contact_any _ _ _ _ _ _ _).mono ?_; rintro e w' ⟨rfl,hb⟩)
  go_ret
  exact ⟨by simp [volumeF,h],((Below.refl _ _).alloc (Nat.le_refl _) _).trans (hb.mono (by simp))⟩
/-! The same with the result named, for a walk that wants it written out. -/
theorem in_is {n lo hi:Int} (b:Bool) (h:inB n lo hi = b) (w:World) :
  Calls Tryz.prog 38 #[.int .i64 n,.int .i64 lo,.int .i64 hi] w fun e w' => e = .returned (.bool b) ∧ w = w':=h ▸ in_any n lo hi w
theorem node_is {n:Int} (b:Bool) (h:nodeB n = b) (w:World) :
  Calls Tryz.prog 37 #[.int .i64 n] w fun e w' => e = .returned (.bool b) ∧ w = w':=h ▸ node_any n w
theorem contact_is {id fr tn st en ra:Int} (b:Bool) (h:contactB id fr tn st en ra = b) (w:World) :
  Calls Tryz.prog 58 #[.agg #[.int .i64 id,.int .i64 fr,.int .i64 tn,.int .i64 st,.int .i64 en,.int .i64 ra]] w fun e w' => e = .returned (.bool b) ∧ Below w.heap.size w w':=h ▸ contact_any id fr tn st en ra w
theorem bundle_is {fr tn si cl de:Int} (b:Bool) (h:bundleB fr tn si cl de = b) (w:World) :
  Calls Tryz.prog 22 #[.agg #[.int .i64 fr,.int .i64 tn,.int .i64 si,.int .i64 cl,.int .i64 de]] w fun e w' => e = .returned (.bool b) ∧ Below w.heap.size w w':=h ▸ bundle_any fr tn si cl de w
theorem volume_is {id fr tn st en ra:Int} (v:Int) (h:volumeF id fr tn st en ra = v) (w:World) :
  Calls Tryz.prog 95 #[.agg #[.int .i64 id,.int .i64 fr,.int .i64 tn,.int .i64 st,.int .i64 en,.int .i64 ra]] w fun e w' => e = .returned (.int .i64 v) ∧ Below w.heap.size w w':=h ▸ volume_any id fr tn st en ra w
end Go.Proofs.YtodcoockhkghdaaGreat
namespace Go.Proofs.YtodcoockhkghdaaGreat

def cdiv (a b:Int):Int:=a / b + (if a % b = 0 then 0 else 1)

theorem cdiv_bounds {a b:Int} (ha:0 ≤ a) (hb:1 ≤ b):0 ≤ cdiv a b ∧ cdiv a b ≤ a ∧ a ≤ cdiv a b * b ∧ (cdiv a b - 1) * b < a + (if a = 0 then b else 0) ∧ (cdiv a b = 0 ↔ a = 0):=by
 have h0:0 ≤ a / b:=Int.ediv_nonneg ha (by omega)
 have h1:a / b ≤ a:=Int.ediv_le_self _ ha
 have h2:=Int.emod_add_mul_ediv a b
 have h3:=Int.emod_nonneg a (show b ≠ 0 by omega)
 have h4:=Int.emod_lt_of_pos a (show 0 < b by omega)
 have h5:a / b * b = b * (a / b):=Int.mul_comm _ _
 unfold cdiv
 split
 ·rename_i hm
  rw [Int.add_zero]
  refine ⟨h0,h1,by rw [h5]; omega,?_,?_⟩
  ·rw [Int.sub_mul,h5]
   split <;> omega
  ·constructor
   ·intro h; rw [h] at h2; omega
   ·intro h; rw [h]; simp
 ·rename_i hm
  refine ⟨by omega,?_,?_,?_,?_⟩
  ·have:2 ≤ b:=by
    rcases Int.lt_or_le b 2 with h | h
    ·have:b = 1:=by omega
     subst this
     omega
    ·exact h
   have h6:2 * (a / b) ≤ b * (a / b):=Int.mul_le_mul_of_nonneg_right this h0
   omega
  ·rw [Int.add_mul,h5]; omega
  ·rw [show a / b + 1 - 1 = a / b by omega,h5]
   split <;> omega
  ·constructor
   ·intro h; omega
   ·intro h; rw [h] at hm; simp at hm

theorem cdiv_le {a b c:Int} (ha:0 ≤ a) (hab:a ≤ b) (hc:1 ≤ c):cdiv a c ≤ cdiv b c:=by
 obtain ⟨h1,_,h3,h4,h5⟩:=cdiv_bounds ha hc
 obtain ⟨k1,_,k3,k4,k5⟩:=cdiv_bounds (Int.le_trans ha hab) hc
 rcases Int.lt_or_le (cdiv b c) (cdiv a c) with h | h
 ·exfalso
  have h6:cdiv b c * c ≤ (cdiv a c - 1) * c:=Int.mul_le_mul_of_nonneg_right (by omega) (by omega)
  split at h4
  ·rename_i h0
   have:=h5.2 h0
   omega
  ·omega
 ·exact h

end Go.Proofs.YtodcoockhkghdaaGreat
namespace Go.Proofs.YtodcoockhkghdaaGreat
open Go.ChangeShapes Go.WideShapes Go.ChangeAt Go.RowKit Go.Sort
set_option linter.unusedSimpArgs false
set_option linter.unusedVariables false

theorem ceil_yes {a b:Int} (ha:0 ≤ a) (ha2:a ≤ 9223372036854775807) (hb:1 ≤ b) (w:World) :
  Calls Tryz.prog 88 #[.int .i64 a,.int .i64 b] w fun e w' => e = .returned (.tuple #[.int .i64 (cdiv a b),.bool true]) ∧ w = w':=by
 have hc:=cdiv_bounds ha hb
 obtain ⟨hc1,hc2,_,_,_⟩:=hc
 have h1:¬ a < 0:=by omega
 have h2:¬ b < 1:=by omega
 have hz:(b == 0) = false:=by simp; omega
 by_cases hm:a % b = 0
 ·have e:cdiv a b = a / b:=by unfold cdiv; rw [if_pos hm]; omega
  have E:=Lib.hid e
  rw [e] at hc1 hc2
  have hm':(a % b == 0) = true:=by simp [hm]
  have hm2:(a % b != 0) = false:=by simp [hm]
  clear e hm
  go_enter Tryz.func88,Tryz.ntmps88
  go_wp2
  go_ret2
  exact ⟨by rw [E.out]; rfl,rfl⟩
 ·have e:cdiv a b = a / b + 1:=by unfold cdiv; rw [if_neg hm]
  have E:=Lib.hid e
  rw [e] at hc1 hc2
  have hm':(a % b == 0) = false:=by simp [hm]
  have hm2:(a % b != 0) = true:=by simp [hm]
  clear e hm
  go_enter Tryz.func88,Tryz.ntmps88
  go_wp2
  go_ret2
  exact ⟨by rw [E.out]; rfl,rfl⟩
structure Ed where
 id:Int
 fr:Int
 tn:Int
 op:Int
 en:Int
 ra:Int
 ow:Int
 ro:Int
def Ed.ok (e:Ed):Bool:=inB e.id 1 1048576 && nodeB e.fr && nodeB e.tn && e.fr != e.tn && inB e.op 0 1099511627776 && inB e.en 1 2147483647 && inB e.ra 1 2147483647 && inB e.ow 0 2147483647 && inB e.ro 0 4611686018427387904
theorem Ed.ok_spec {e:Ed}:e.ok = true ↔ (1 ≤ e.id ∧ e.id ≤ 1048576) ∧ (1 ≤ e.fr ∧ e.fr ≤ 255) ∧ (1 ≤ e.tn ∧ e.tn ≤ 255) ∧ e.fr ≠ e.tn ∧ (0 ≤ e.op ∧ e.op ≤ 1099511627776) ∧ (1 ≤ e.en ∧ e.en ≤ 2147483647) ∧ (1 ≤ e.ra ∧ e.ra ≤ 2147483647) ∧ (0 ≤ e.ow ∧ e.ow ≤ 2147483647) ∧ (0 ≤ e.ro ∧ e.ro ≤ 4611686018427387904):=by
 simp [Ed.ok,nodeB,inB,and_assoc]
def Ed.asks (e:Ed) (t size:Int):Bool:=e.ok && inB t 0 1099511627776 && inB size 0 1099511627775
theorem Ed.asks_spec {e:Ed} {t size:Int}:e.asks t size = true ↔ e.ok = true ∧ (0 ≤ t ∧ t ≤ 1099511627776) ∧ (0 ≤ size ∧ size ≤ 1099511627775):=by
 simp [Ed.asks,inB,and_assoc]
def Ed.takes (e:Ed) (size:Int):Int:=if e.asks 0 size = true then cdiv size e.ra else 0
def Ed.pass (e:Ed) (t size:Int):Option (Int × Int):=
 if e.asks t size = true ∧ size ≤ e.ro ∧ max t e.op < e.en ∧ max t e.op + cdiv size e.ra ≤ e.en then some (max t e.op,max t e.op + cdiv size e.ra + e.ow) else none
def Ed.last (e:Ed) (b size:Int):Int:=min (min (e.en - 1) (e.en - cdiv size e.ra)) (b - cdiv size e.ra - e.ow)
def Ed.latest (e:Ed) (b size:Int):Option Int:=
 if e.asks b size = true ∧ size ≤ e.ro ∧ e.op ≤ e.last b size then some (e.last b size) else none

theorem hright_any (id fr tn op en ra ow ro:Int) (w:World) :
  Calls Tryz.prog 128 #[.agg #[.int .i64 id,.int .i64 fr,.int .i64 tn,.int .i64 op,.int .i64 en,.int .i64 ra,.int .i64 ow,.int .i64 ro]] w fun e w' => e = .returned (.bool (Ed.ok ⟨id,fr,tn,op,en,ra,ow,ro⟩)) ∧ Below w.heap.size w w':=by
 go_enter Tryz.func128,Tryz.ntmps128
 go_wp2_with (first | (go_at_call 38; (with_reducible refine Calls.mono (in_any _ _ _ _) ?_); rintro e w1 ⟨rfl,rfl⟩) | (go_at_call 37; (with_reducible refine Calls.mono (node_any _ _) ?_); rintro e w1 ⟨rfl,rfl⟩))
 all_goals go_ret
 all_goals exact ⟨by simp [Ed.ok, *],(Below.refl _ _).alloc (Nat.le_refl _) _⟩
theorem hright_is {id fr tn op en ra ow ro:Int} (b:Bool) (h:Ed.ok ⟨id,fr,tn,op,en,ra,ow,ro⟩ = b) (w:World) :
  Calls Tryz.prog 128 #[.agg #[.int .i64 id,.int .i64 fr,.int .i64 tn,.int .i64 op,.int .i64 en,.int .i64 ra,.int .i64 ow,.int .i64 ro]] w fun e w' => e = .returned (.bool b) ∧ Below w.heap.size w w':=h ▸ hright_any id fr tn op en ra ow ro w
theorem asked_any (id fr tn op en ra ow ro:Int) (t size:Int) (w:World) :
  Calls Tryz.prog 129 #[.agg #[.int .i64 id,.int .i64 fr,.int .i64 tn,.int .i64 op,.int .i64 en,.int .i64 ra,.int .i64 ow,.int .i64 ro],.int .i64 t,.int .i64 size] w fun e w' => e = .returned (.bool (Ed.asks ⟨id,fr,tn,op,en,ra,ow,ro⟩ t size)) ∧ Below w.heap.size w w':=by
 go_enter Tryz.func129,Tryz.ntmps129
 go_wp2_with fail
 refine (hright_any _ _ _ _ _ _ _ _ _).mono ?_
 rintro e w1 ⟨rfl,hb⟩
 go_wp2_with (go_at_call 38; (with_reducible refine Calls.mono (in_any _ _ _ _) ?_); rintro e w1 ⟨rfl,rfl⟩)
 all_goals go_ret
 all_goals exact ⟨by simp [Ed.asks, *],((Below.refl _ _).alloc (Nat.le_refl _) _).trans (hb.mono (by simp))⟩
theorem asked_is {id fr tn op en ra ow ro:Int} {t size:Int} (b:Bool) (h:Ed.asks ⟨id,fr,tn,op,en,ra,ow,ro⟩ t size = b) (w:World) :
  Calls Tryz.prog 129 #[.agg #[.int .i64 id,.int .i64 fr,.int .i64 tn,.int .i64 op,.int .i64 en,.int .i64 ra,.int .i64 ow,.int .i64 ro],.int .i64 t,.int .i64 size] w fun e w' => e = .returned (.bool b) ∧ Below w.heap.size w w':=h ▸ asked_any id fr tn op en ra ow ro t size w
theorem takes_yes {id fr tn op en ra ow ro:Int} {size:Int} (h1:1 ≤ ra) (h2:0 ≤ size) (h3:size ≤ 1099511627775) (w:World) :
  Calls Tryz.prog 130 #[.agg #[.int .i64 id,.int .i64 fr,.int .i64 tn,.int .i64 op,.int .i64 en,.int .i64 ra,.int .i64 ow,.int .i64 ro],.int .i64 size] w fun e w' => e = .returned (.int .i64 (cdiv size ra)) ∧ Below w.heap.size w w':=by
 go_enter Tryz.func130,Tryz.ntmps130
 go_wp2_with (go_at_call 88; (with_reducible refine Calls.mono (ceil_yes h2 (by omega) h1 _) ?_); rintro e w1 ⟨rfl,rfl⟩)
 go_ret
 exact ⟨rfl,(Below.refl _ _).alloc (Nat.le_refl _) _⟩
theorem pass_some_spec {id fr tn op en ra ow ro:Int} {t size a b:Int} (h:Ed.pass ⟨id,fr,tn,op,en,ra,ow,ro⟩ t size = some (a,b)) :
  Ed.asks ⟨id,fr,tn,op,en,ra,ow,ro⟩ t size = true ∧ size ≤ ro ∧ max t op < en ∧ max t op + cdiv size ra ≤ en ∧ a = max t op ∧ b = max t op + cdiv size ra + ow:=by
 unfold Ed.pass at h
 split at h
 ·rename_i hc
  simp only [Option.some.injEq,Prod.mk.injEq] at h
  exact ⟨hc.1,hc.2.1,hc.2.2.1,hc.2.2.2,h.1.symm,h.2.symm⟩
 ·cases h
theorem pass_none_spec {id fr tn op en ra ow ro:Int} {t size:Int} (h:Ed.pass ⟨id,fr,tn,op,en,ra,ow,ro⟩ t size = none) :
  ¬ (Ed.asks ⟨id,fr,tn,op,en,ra,ow,ro⟩ t size = true ∧ size ≤ ro ∧ max t op < en ∧ max t op + cdiv size ra ≤ en):=by
 unfold Ed.pass at h
 split at h
 ·cases h
 ·assumption
theorem ok_ints {id fr tn op en ra ow ro:Int} (h:Ed.ok ⟨id,fr,tn,op,en,ra,ow,ro⟩ = true):(1 ≤ id ∧ id ≤ 1048576) ∧ (1 ≤ fr ∧ fr ≤ 255) ∧ (1 ≤ tn ∧ tn ≤ 255) ∧ fr ≠ tn ∧ (0 ≤ op ∧ op ≤ 1099511627776) ∧ (1 ≤ en ∧ en ≤ 2147483647) ∧ (1 ≤ ra ∧ ra ≤ 2147483647) ∧ (0 ≤ ow ∧ ow ≤ 2147483647) ∧ (0 ≤ ro ∧ ro ≤ 4611686018427387904):=Ed.ok_spec.1 h
set_option maxHeartbeats 1000000 in
theorem pass_yes {id fr tn op en ra ow ro:Int} {t size a b:Int} (h:Ed.pass ⟨id,fr,tn,op,en,ra,ow,ro⟩ t size = some (a,b)) (w:World) :
  Calls Tryz.prog 86 #[.agg #[.int .i64 id,.int .i64 fr,.int .i64 tn,.int .i64 op,.int .i64 en,.int .i64 ra,.int .i64 ow,.int .i64 ro],.int .i64 t,.int .i64 size] w fun e w' => e = .returned (.tuple #[.int .i64 a,.int .i64 b,.bool true]) ∧ Below w.heap.size w w':=by
 obtain ⟨h1,h2,h3,h4,rfl,rfl⟩:=pass_some_spec h
 have H:=Lib.hid h1
 have g:=Ed.asks_spec.1 h1
 obtain ⟨⟨i1,i2⟩,⟨f1,f2⟩,⟨t1,t2⟩,_,⟨o1,o2⟩,⟨e1,e2⟩,⟨r1,r2⟩,⟨w1,w2⟩,⟨q1,q2⟩⟩:=ok_ints g.1
 obtain ⟨_,⟨y1,y2⟩,⟨z1,z2⟩⟩:=g
 obtain ⟨c1,c2,_,_,_⟩:=cdiv_bounds z1 r1
 obtain ⟨n,hn⟩:∃ n,cdiv size ra = n:=⟨_,rfl⟩
 obtain ⟨m,hm⟩:∃ m,max t op = m:=⟨_,rfl⟩
 rw [hn] at h4 c1 c2
 rw [hm] at h3 h4
 have m1:0 ≤ m:=by omega
 have m2:m ≤ 1099511627776:=by omega
 have h2':¬ ro < size:=by omega
 have h3':¬ en ≤ m:=by omega
 have h4':¬ en < m + n:=by omega
 have hmx:(if t < op then op else t) = m:=by rw [← hm]; split <;> omega
 rw [hn,hm]
 have HN:=Lib.hid (show ∀ w',Calls Tryz.prog 130 #[.agg #[.int .i64 id,.int .i64 fr,.int .i64 tn,.int .i64 op,.int .i64 en,.int .i64 ra,.int .i64 ow,.int .i64 ro],.int .i64 size] w' fun e w'' => e = .returned (.int .i64 n) ∧ Below w'.heap.size w' w'' from fun w' => hn ▸ takes_yes r1 z1 z2 w')
 have HMX:=Lib.hid hmx
 clear h h1 hn hm hmx
 go_enter Tryz.func86,Tryz.ntmps86
 go_wp2_with fail
 (with_reducible refine Calls.mono (asked_is true H.out _) ?_)
 rintro e wa ⟨rfl,hB⟩
 obtain ⟨hc,hf⟩:=bcell hB
 have hz:=hB.size
 simp only [World.size_alloc] at hz
 have hlt:w.heap.size < wa.heap.size:=by omega
 have hp:∀ o,wa.cell? ⟨w.heap.size,o,none⟩ = (#[.int .i64 id,.int .i64 fr,.int .i64 tn,.int .i64 op,.int .i64 en,.int .i64 ra,.int .i64 ow,.int .i64 ro]:Array Value)[o]?:=by
  intro o
  rw [hc _ _ (by simp only [World.size_alloc]; omega)]
  simp only [cell_alloc_if]
  rw [if_pos trivial]
 have HB:=Lib.hid (show Below w.heap.size w wa by (repeat (first | exact Below.refl _ _ | exact hB | refine Below.alloc ?_ (by first | omega | (simp; done) | (simp; omega)) _ | refine Below.setCell ?_ (by first | omega | (simp; done) | (simp; omega)) _ | refine Below.drew ?_ | refine Below.trans ?_ (hB.mono (by first | omega | (simp; done) | (simp; omega))))))
 clear hc hf hB
 go_upto_region 3 with fail
 have hmx:=HMX.out
 have hg:=below_regrown wa
 have hq:=grown_cells wa
 try simp only [List.append]
 first | refine wp_region_text_below ?_ | refine wp_region_quiet_below (by kernel_rfl) (by kernel_rfl) ?_
 repeat (go_big_quiet_step ((go_at_call 130; with_reducible exact Calls.regrown_of (HN.out _))))
 refine wpQuiet_nil ?_
 intro _ hqw
 obtain ⟨pq,hqw⟩:=hqw
 subst hqw
 clear hmx
 go_upto_region 6 with fail
 refine name_wp (fun W hW => ?_)
 have HBW:=Lib.hid (show Below w.heap.size w W by rw [hW]; exact HB.out.trans ((hg _ _).mono HB.out.size))
 have hpW:∀ o,W.cell? ⟨w.heap.size,o,none⟩ = (#[.int .i64 id,.int .i64 fr,.int .i64 tn,.int .i64 op,.int .i64 en,.int .i64 ra,.int .i64 ow,.int .i64 ro]:Array Value)[o]?:=fun o => by rw [hW,hq _ _ _ _ hlt]; exact hp o
 have hltW:w.heap.size < W.heap.size:=Nat.lt_of_lt_of_le hlt (by rw [hW]; exact (hg _ _).size)
 clear hg hq hp hlt hW
 have hg:=below_regrown W
 have hq:=grown_cells W
 try simp only [List.append]
 first | refine wp_region_text_below ?_ | refine wp_region_quiet_below (by kernel_rfl) (by kernel_rfl) ?_
 repeat (go_big_quiet_step ((fail)))
 refine wpQuiet_nil ?_
 intro _ hqw
 obtain ⟨pq,hqw⟩:=hqw
 subst hqw
 go_wp2
 go_ret3
 exact ⟨rfl,HBW.out.trans ((hg _ _).mono HBW.out.size)⟩
set_option maxHeartbeats 1000000 in
theorem pass_no {id fr tn op en ra ow ro:Int} {t size:Int} (h:Ed.pass ⟨id,fr,tn,op,en,ra,ow,ro⟩ t size = none) (w:World) :
  Calls Tryz.prog 86 #[.agg #[.int .i64 id,.int .i64 fr,.int .i64 tn,.int .i64 op,.int .i64 en,.int .i64 ra,.int .i64 ow,.int .i64 ro],.int .i64 t,.int .i64 size] w fun e w' => e = .returned (.tuple #[.int .i64 0,.int .i64 0,.bool false]) ∧ Below w.heap.size w w':=by
 have h0:=pass_none_spec h
 clear h
 by_cases h1:Ed.asks ⟨id,fr,tn,op,en,ra,ow,ro⟩ t size = true
 ·by_cases h2:size ≤ ro
  ·have H:=Lib.hid h1
   have g:=Ed.asks_spec.1 h1
   obtain ⟨⟨i1,i2⟩,⟨f1,f2⟩,⟨t1,t2⟩,_,⟨o1,o2⟩,⟨e1,e2⟩,⟨r1,r2⟩,⟨w1,w2⟩,⟨q1,q2⟩⟩:=ok_ints g.1
   obtain ⟨_,⟨y1,y2⟩,⟨z1,z2⟩⟩:=g
   obtain ⟨c1,c2,_,_,_⟩:=cdiv_bounds z1 r1
   obtain ⟨n,hn⟩:∃ n,cdiv size ra = n:=⟨_,rfl⟩
   obtain ⟨m,hm⟩:∃ m,max t op = m:=⟨_,rfl⟩
   have h3:en ≤ m ∨ m < en ∧ en < m + n:=by
    rw [hn,hm] at h0
    rcases Int.lt_or_le m en with h4 | h4
    ·rcases Int.lt_or_le en (m + n) with h5 | h5
     ·exact .inr ⟨h4,h5⟩
     ·exact absurd ⟨h1,h2,h4,h5⟩ h0
    ·exact .inl h4
   have H3:=Lib.hid h3
   rw [hn] at c1 c2
   have m1:0 ≤ m:=by omega
   have m2:m ≤ 1099511627776:=by omega
   have h2':¬ ro < size:=by omega
   have hmx:(if t < op then op else t) = m:=by rw [← hm]; split <;> omega
   have HN:=Lib.hid (show ∀ w',Calls Tryz.prog 130 #[.agg #[.int .i64 id,.int .i64 fr,.int .i64 tn,.int .i64 op,.int .i64 en,.int .i64 ra,.int .i64 ow,.int .i64 ro],.int .i64 size] w' fun e w'' => e = .returned (.int .i64 n) ∧ Below w'.heap.size w' w'' from fun w' => hn ▸ takes_yes r1 z1 z2 w')
   have HMX:=Lib.hid hmx
   clear h0 h1 hn hm hmx h3
   go_enter Tryz.func86,Tryz.ntmps86
   go_wp2_with fail
   (with_reducible refine Calls.mono (asked_is true H.out _) ?_)
   rintro e wa ⟨rfl,hB⟩
   obtain ⟨hc,hf⟩:=bcell hB
   have hz:=hB.size
   simp only [World.size_alloc] at hz
   have hlt:w.heap.size < wa.heap.size:=by omega
   have hp:∀ o,wa.cell? ⟨w.heap.size,o,none⟩ = (#[.int .i64 id,.int .i64 fr,.int .i64 tn,.int .i64 op,.int .i64 en,.int .i64 ra,.int .i64 ow,.int .i64 ro]:Array Value)[o]?:=by
    intro o
    rw [hc _ _ (by simp only [World.size_alloc]; omega)]
    simp only [cell_alloc_if]
    rw [if_pos trivial]
   have HB:=Lib.hid (show Below w.heap.size w wa by (repeat (first | exact Below.refl _ _ | exact hB | refine Below.alloc ?_ (by first | omega | (simp; done) | (simp; omega)) _ | refine Below.setCell ?_ (by first | omega | (simp; done) | (simp; omega)) _ | refine Below.drew ?_ | refine Below.trans ?_ (hB.mono (by first | omega | (simp; done) | (simp; omega))))))
   clear hc hf hB
   go_upto_region 3 with fail
   have hmx:=HMX.out
   have hg:=below_regrown wa
   have hq:=grown_cells wa
   try simp only [List.append]
   first | refine wp_region_text_below ?_ | refine wp_region_quiet_below (by kernel_rfl) (by kernel_rfl) ?_
   repeat (go_big_quiet_step ((go_at_call 130; with_reducible exact Calls.regrown_of (HN.out _))))
   refine wpQuiet_nil ?_
   intro _ hqw
   obtain ⟨pq,hqw⟩:=hqw
   subst hqw
   clear hmx
   rcases H3.out with h3 | ⟨h3,h4⟩
   all_goals
    go_wp2
    go_ret3
    exact ⟨rfl,HB.out.trans ((hg _ _).mono HB.out.size)⟩
  ·have H:=Lib.hid h1
   clear h0 h1
   go_enter Tryz.func86,Tryz.ntmps86
   go_wp2_with fail
   (with_reducible refine Calls.mono (asked_is true H.out _) ?_)
   rintro e wa ⟨rfl,hB⟩
   obtain ⟨hc,hf⟩:=bcell hB
   go_wp2
   go_ret3
   exact ⟨rfl,by (repeat (first | exact Below.refl _ _ | exact hB | refine Below.alloc ?_ (by first | omega | (simp; done) | (simp; omega)) _ | refine Below.setCell ?_ (by first | omega | (simp; done) | (simp; omega)) _ | refine Below.drew ?_ | refine Below.trans ?_ (hB.mono (by first | omega | (simp; done) | (simp; omega)))))⟩
 ·have H:=Lib.hid (show Ed.asks ⟨id,fr,tn,op,en,ra,ow,ro⟩ t size = false by simpa using h1)
  clear h0 h1
  go_enter Tryz.func86,Tryz.ntmps86
  go_wp2_with fail
  (with_reducible refine Calls.mono (asked_is false H.out _) ?_)
  rintro e wa ⟨rfl,hB⟩
  obtain ⟨hc,hf⟩:=bcell hB
  go_wp2
  go_ret3
  exact ⟨rfl,by (repeat (first | exact Below.refl _ _ | exact hB | refine Below.alloc ?_ (by first | omega | (simp; done) | (simp; omega)) _ | refine Below.setCell ?_ (by first | omega | (simp; done) | (simp; omega)) _ | refine Below.drew ?_ | refine Below.trans ?_ (hB.mono (by first | omega | (simp; done) | (simp; omega)))))⟩
set_option maxHeartbeats 1000000 in
theorem latest_asked {id fr tn op en ra ow ro:Int} {b size:Int} (h1:Ed.asks ⟨id,fr,tn,op,en,ra,ow,ro⟩ b size = true) (h2:size ≤ ro) (w:World) :
  Calls Tryz.prog 181 #[.agg #[.int .i64 id,.int .i64 fr,.int .i64 tn,.int .i64 op,.int .i64 en,.int .i64 ra,.int .i64 ow,.int .i64 ro],.int .i64 b,.int .i64 size] w fun e w' => e = .returned (if op ≤ Ed.last ⟨id,fr,tn,op,en,ra,ow,ro⟩ b size then .tuple #[.int .i64 (Ed.last ⟨id,fr,tn,op,en,ra,ow,ro⟩ b size),.bool true] else .tuple #[.int .i64 0,.bool false]) ∧ Below w.heap.size w w':=by
 have H:=Lib.hid h1
 have g:=Ed.asks_spec.1 h1
 obtain ⟨⟨i1,i2⟩,⟨f1,f2⟩,⟨t1,t2⟩,_,⟨o1,o2⟩,⟨e1,e2⟩,⟨r1,r2⟩,⟨w1,w2⟩,⟨q1,q2⟩⟩:=ok_ints g.1
 obtain ⟨_,⟨y1,y2⟩,⟨z1,z2⟩⟩:=g
 obtain ⟨c1,c2,_,_,_⟩:=cdiv_bounds z1 r1
 obtain ⟨n,hn⟩:∃ n,cdiv size ra = n:=⟨_,rfl⟩
 obtain ⟨l,hl⟩:∃ l,Ed.last ⟨id,fr,tn,op,en,ra,ow,ro⟩ b size = l:=⟨_,rfl⟩
 have hl2:min (min (en - 1) (en - n)) (b - n - ow) = l:=by rw [← hl,← hn]; rfl
 rw [hn] at c1 c2
 rw [hl]
 have h2':¬ ro < size:=by omega
 have hmn:(if b - n - ow < (if 1 < n then en - n else en - 1) then b - n - ow else (if 1 < n then en - n else en - 1)) = l:=by rw [← hl2]; split <;> split <;> omega
 have HN:=Lib.hid (show ∀ w',Calls Tryz.prog 130 #[.agg #[.int .i64 id,.int .i64 fr,.int .i64 tn,.int .i64 op,.int .i64 en,.int .i64 ra,.int .i64 ow,.int .i64 ro],.int .i64 size] w' fun e w'' => e = .returned (.int .i64 n) ∧ Below w'.heap.size w' w'' from fun w' => hn ▸ takes_yes r1 z1 z2 w')
 have HMN:=Lib.hid hmn
 clear h1 hn hl hl2 hmn
 go_enter Tryz.func181,Tryz.ntmps181
 go_wp2_with fail
 (with_reducible refine Calls.mono (asked_is true H.out _) ?_)
 rintro e wa ⟨rfl,hB⟩
 obtain ⟨hc,hf⟩:=bcell hB
 go_wp2_with fail
 (with_reducible refine Calls.mono (HN.out _) ?_)
 rintro e wb ⟨rfl,hb⟩
 replace hB:=hB.trans (hb.mono hB.size)
 clear hb hc hf
 obtain ⟨hc,hf⟩:=bcell hB
 have hmn:=HMN.out
 by_cases h3:op ≤ l
 ·have h3':¬ l < op:=by omega
  go_wp2
  go_ret2
  exact ⟨by first | rfl | (rw [if_pos h3]; rfl),by (repeat (first | exact Below.refl _ _ | exact hB | refine Below.alloc ?_ (by first | omega | (simp; done) | (simp; omega)) _ | refine Below.setCell ?_ (by first | omega | (simp; done) | (simp; omega)) _ | refine Below.drew ?_ | refine Below.trans ?_ (hB.mono (by first | omega | (simp; done) | (simp; omega)))))⟩
 ·have h3':l < op:=by omega
  go_wp2
  go_ret2
  exact ⟨by first | rfl | (rw [if_neg (by omega)]; rfl),by (repeat (first | exact Below.refl _ _ | exact hB | refine Below.alloc ?_ (by first | omega | (simp; done) | (simp; omega)) _ | refine Below.setCell ?_ (by first | omega | (simp; done) | (simp; omega)) _ | refine Below.drew ?_ | refine Below.trans ?_ (hB.mono (by first | omega | (simp; done) | (simp; omega)))))⟩
theorem latest_not {id fr tn op en ra ow ro:Int} {b size:Int} (h:¬ (Ed.asks ⟨id,fr,tn,op,en,ra,ow,ro⟩ b size = true ∧ size ≤ ro)) (w:World) :
  Calls Tryz.prog 181 #[.agg #[.int .i64 id,.int .i64 fr,.int .i64 tn,.int .i64 op,.int .i64 en,.int .i64 ra,.int .i64 ow,.int .i64 ro],.int .i64 b,.int .i64 size] w fun e w' => e = .returned (.tuple #[.int .i64 0,.bool false]) ∧ Below w.heap.size w w':=by
 by_cases h1:Ed.asks ⟨id,fr,tn,op,en,ra,ow,ro⟩ b size = true
 ·have h2:ro < size:=by
   rcases Int.lt_or_le ro size with h3 | h3
   ·exact h3
   ·exact absurd ⟨h1,h3⟩ h
  have H:=Lib.hid h1
  clear h h1
  go_enter Tryz.func181,Tryz.ntmps181
  go_wp2_with fail
  (with_reducible refine Calls.mono (asked_is true H.out _) ?_)
  rintro e wa ⟨rfl,hB⟩
  obtain ⟨hc,hf⟩:=bcell hB
  go_wp2
  go_ret2
  exact ⟨rfl,by (repeat (first | exact Below.refl _ _ | exact hB | refine Below.alloc ?_ (by first | omega | (simp; done) | (simp; omega)) _ | refine Below.setCell ?_ (by first | omega | (simp; done) | (simp; omega)) _ | refine Below.drew ?_ | refine Below.trans ?_ (hB.mono (by first | omega | (simp; done) | (simp; omega)))))⟩
 ·have H:=Lib.hid (show Ed.asks ⟨id,fr,tn,op,en,ra,ow,ro⟩ b size = false by simpa using h1)
  clear h h1
  go_enter Tryz.func181,Tryz.ntmps181
  go_wp2_with fail
  (with_reducible refine Calls.mono (asked_is false H.out _) ?_)
  rintro e wa ⟨rfl,hB⟩
  obtain ⟨hc,hf⟩:=bcell hB
  go_wp2
  go_ret2
  exact ⟨rfl,by (repeat (first | exact Below.refl _ _ | exact hB | refine Below.alloc ?_ (by first | omega | (simp; done) | (simp; omega)) _ | refine Below.setCell ?_ (by first | omega | (simp; done) | (simp; omega)) _ | refine Below.drew ?_ | refine Below.trans ?_ (hB.mono (by first | omega | (simp; done) | (simp; omega)))))⟩
theorem latest_some_spec {id fr tn op en ra ow ro:Int} {b size t:Int} (h:Ed.latest ⟨id,fr,tn,op,en,ra,ow,ro⟩ b size = some t):Ed.asks ⟨id,fr,tn,op,en,ra,ow,ro⟩ b size = true ∧ size ≤ ro ∧ op ≤ t ∧ t = Ed.last ⟨id,fr,tn,op,en,ra,ow,ro⟩ b size:=by
 unfold Ed.latest at h
 split at h
 ·rename_i hc
  simp only [Option.some.injEq] at h
  exact ⟨hc.1,hc.2.1,h ▸ hc.2.2,h.symm⟩
 ·cases h
theorem latest_yes {id fr tn op en ra ow ro:Int} {b size t:Int} (h:Ed.latest ⟨id,fr,tn,op,en,ra,ow,ro⟩ b size = some t) (w:World) :
  Calls Tryz.prog 181 #[.agg #[.int .i64 id,.int .i64 fr,.int .i64 tn,.int .i64 op,.int .i64 en,.int .i64 ra,.int .i64 ow,.int .i64 ro],.int .i64 b,.int .i64 size] w fun e w' => e = .returned (.tuple #[.int .i64 t,.bool true]) ∧ Below w.heap.size w w':=by
 obtain ⟨h1,h2,h3,rfl⟩:=latest_some_spec h
 have:=latest_asked h1 h2 w
 rw [if_pos h3] at this
 exact this
theorem latest_no {id fr tn op en ra ow ro:Int} {b size:Int} (h:Ed.latest ⟨id,fr,tn,op,en,ra,ow,ro⟩ b size = none) (w:World) :
  Calls Tryz.prog 181 #[.agg #[.int .i64 id,.int .i64 fr,.int .i64 tn,.int .i64 op,.int .i64 en,.int .i64 ra,.int .i64 ow,.int .i64 ro],.int .i64 b,.int .i64 size] w fun e w' => e = .returned (.tuple #[.int .i64 0,.bool false]) ∧ Below w.heap.size w w':=by
 by_cases h1:Ed.asks ⟨id,fr,tn,op,en,ra,ow,ro⟩ b size = true ∧ size ≤ ro
 ·have:=latest_asked h1.1 h1.2 w
  rw [if_neg (fun h3 => by rw [Ed.latest,if_pos ⟨h1.1,h1.2,h3⟩] at h; cases h)] at this
  exact this
 ·exact latest_not h1 w
theorem wp_scope_label {P:Program} {Q:Exit → Act → World → Prop} {a:Act} {w:World} {l:Nat} {rest:Code} (J:Act → World → Prop) (μ:Act → World → Nat) (h0:J a w)
  (pass:∀ a w,J a w → rest.wp P (Exit.jump l (fun a' w' => J a' w' ∧ μ a' w' < μ a w) Q) a w):(Code.scope (.seq (.label l) rest)).wp P Q a w:=by
 refine wp_scope_jumps (rest:=.seq .skip rest) l J μ (by simp [findLabel]) ?_ (fun a w hJ => wp_seq (wp_skip (pass a w hJ)))
 refine wp_seq (wp_label (wp_mono (pass a w h0) ?_))
 intro e a' w' h
 cases e <;> first | exact h | exact ⟨h.1,h.2.1⟩
end Go.Proofs.YtodcoockhkghdaaGreat
