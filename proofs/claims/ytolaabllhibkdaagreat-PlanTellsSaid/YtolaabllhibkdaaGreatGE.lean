/- Several texts of mine in one: QTail2, Forced. No condition. -/
import Derived.Test.YtolaabllhibkdaaGreatGD

/- A region that draws its order, taken in pieces: a piece that is quiet up to a gate, from wherever one stands; a step that is forced. No condition. -/
namespace Go.Proofs.YtolaabllhibkdaaGreat
open Go.Sort Go.RowKit
set_option linter.unusedSimpArgs false
set_option linter.unusedVariables false
section
variable {P:Program} {ops:Array Oper} {md:Region.Mode} {C:World → Prop}
theorem lexFin_add:∀ (a b k:Nat) (l:Array Bool),lexFin (a + b) k l = lexFin b (k + a) (lexFin a k l)
 | 0,b,k,l => by rw [Nat.zero_add]; rfl
 | a + 1,b,k,l => by
  rw [show a + 1 + b = (a + b) + 1 by omega,lexFin,lexFin_add a b (k + 1),lexFin,show k + 1 + a = k + (a + 1) by omega]
theorem lexFin_size:∀ (a k:Nat) (l:Array Bool),(lexFin a k l).size = l.size
 | 0,_,_ => rfl
 | a + 1,k,l => by rw [lexFin,lexFin_size a]; simp
/-- One that yields in whatever world, ahead of the others. -/
theorem wpAny_taken {Q:Exit → Act → World → Prop} {l:List Oper} {n p f:Nat} {a:Act} {w:World} {o:Oper} {v:Value} (hi:l.toArray[p]? = some o) (hs:Region.noSelect l.toArray = true) (hf:Region.free .any l.toArray (lexFin p 0 (Array.replicate n false)) p = true) (hr:(Region.ready .any l.toArray (lexFin p 0 (Array.replicate n false))).contains p = true)
  (hQ:∀ c a w,Q (.panic c) (a.put o.dst v) w → Q (.panic c) a w) (hy:Yields P l.toArray o v a)
  (h:wpAny P .any l.toArray Q f (lexFin (p + 1) 0 (Array.replicate n false)) (a.put o.dst v) w):wpAny P .any l.toArray Q (f + 1) (lexFin p 0 (Array.replicate n false)) a w:=by
 refine wpAny_take hi hs hf hr hQ hy ?_
 have e:(lexFin p 0 (Array.replicate n false)).setIfInBounds p true = lexFin (p + 1) 0 (Array.replicate n false):=by
  have:=lexFin_add p 1 0 (Array.replicate n false)
  rw [this,Nat.zero_add]; rfl
 rw [e]
 exact h
/-- Q, but for what follows in the normal way. -/
def Qn (Q:Exit → Act → World → Prop) (N:Act → World → Prop):Exit → Act → World → Prop:=fun e a w => match e with
 | .normal => N a w
 | e => Q e a w
theorem wp_qn {Q:Exit → Act → World → Prop} {N:Act → World → Prop} {o:Oper} {a:Act} {w:World} {K:Act → World → Prop} (hh:o.wp P a w K (Qn Q N)):o.wp P a w K Q:=by
 unfold Oper.wp at *
 generalize (execOp a.eval o).run P w = r at *
 cases r with
 | ok n w' =>
  cases n <;> simp only [Oper.upon] at hh ⊢ <;>
   first
    | exact hh
    | exact Calls.mono hh (fun e w'' he => by cases e <;> exact he)
 | halt x w' => cases x <;> simp only [Oper.upon] at hh ⊢ <;> exact hh
theorem wpList_qn {Q:Exit → Act → World → Prop} {N:Act → World → Prop} {i:Nat} {o:Oper} {rest:List Oper} {a:Act} {w:World} (ho:ops[i]? = some o) (h:wpList P ops (Qn Q N) (o :: rest) a w):wpOp P ops Q i (wpList P ops (Qn Q N) rest) a w:=by
 unfold wpOp
 rw [wpList] at h
 simp only [ho]
 split
 ·rename_i hw
  simp only [hw,if_true] at h
  exact h.imp wp_qn id
 ·rename_i hw
  simp only [hw] at h
  exact h
theorem wpOp_list {Q:Exit → Act → World → Prop} {i:Nat} {o:Oper} {K:Act → World → Prop} {a:Act} {w:World} (ho:ops[i]? = some o) (h:∀ N:Act → World → Prop,(∀ a' w',K a' w' → N a' w') → wpList P ops (Qn Q N) [o] a w):wpOp P ops Q i K a w:=
 wpOp_mono (fun _ _ h' => h') (wpList_qn ho (h K (fun _ _ h => h)))
/-! the same with the numbers written out -/
end
end Go.Proofs.YtolaabllhibkdaaGreat

/- A region that draws its order and is nearly forced (a chain of '&&'): piece by piece, by cheap looks at what each operation waits for. No condition. -/
namespace Go.Proofs.YtolaabllhibkdaaGreat
open Go.Sort Go.RowKit
set_option linter.unusedSimpArgs false
set_option linter.unusedVariables false
section
variable {P:Program} {C:World → Prop} {Q:Exit → Act → World → Prop}
/-- What an operation waits for, whatever the order. -/
def onsOf (o:Oper):List Nat:=(o.after.toList.filter (Region.binds .any)).map (·.on)
def lowB (q:Nat) (os:List Nat):Bool:=os.all fun e => Nat.blt e q
def hiB (q:Nat) (os:List Nat):Bool:=os.any fun e => Nat.ble q e
def segB:List (List Nat) → Nat → Nat → Bool
 | _,_,0 => true
 | [],_,_ + 1 => false
 | x :: r,q,j + 1 => lowB q x && r.all (hiB q) && segB r (q + 1) j
theorem lexFin_get:∀ (q n i:Nat) (d:Bool),i < n → (lexFin q 0 (Array.replicate n false)).getD i d = decide (i < q)
 | 0,n,i,d,h => by
  show (Array.replicate n false).getD i d = _
  simp [h]
 | q + 1,n,i,d,h => by
  have e:lexFin (q + 1) 0 (Array.replicate n false) = (lexFin q 0 (Array.replicate n false)).setIfInBounds q true:=by
   have:=lexFin_add q 1 0 (Array.replicate n false)
   rw [this,Nat.zero_add]; rfl
  rw [e]
  by_cases hi:q = i
  ·subst hi
   have hs:q < (lexFin q 0 (Array.replicate n false)).size:=by rw [lexFin_size]; simpa using h
   simp [hs]
  ·rw [getD_set_ne d hi,lexFin_get q n i d h]
   have:(i < q) ↔ (i < q + 1):=by omega
   simp [this]
theorem mem_ons {o:Oper} {e:Nat} (h:e ∈ onsOf o):∃ x ∈ o.after,Region.binds .any x = true ∧ x.on = e:=by
 unfold onsOf at h
 obtain ⟨x,hx,rfl⟩:=List.mem_map.1 h
 obtain ⟨h1,h2⟩:=List.mem_filter.1 hx
 exact ⟨x,by simpa using h1,h2,rfl⟩
theorem ons_mem {o:Oper} {x:Edge} (h:x ∈ o.after) (hb:Region.binds .any x = true):x.on ∈ onsOf o:=
 List.mem_map.2 ⟨x,List.mem_filter.2 ⟨by simpa using h,hb⟩,rfl⟩
/-- Which ones are ready, by what they wait for: 'listed' is known by its look-ups. -/
theorem ready_iff {l:List Oper} {listed:Array Bool} {i:Nat}:i ∈ Region.ready .any l.toArray listed ↔ listed.getD i true = false ∧ ∃ o,l[i]? = some o ∧ ∀ e ∈ onsOf o,listed.getD e false = true:=by
 rw [mem_ready]
 constructor
 ·rintro ⟨h1,o,ho,h2⟩
  refine ⟨h1,o,by simpa using ho,fun e he => ?_⟩
  obtain ⟨x,hx,hb,rfl⟩:=mem_ons he
  exact h2 x hx hb
 ·rintro ⟨h1,o,ho,h2⟩
  exact ⟨h1,o,by simpa using ho,fun x hx hb => h2 _ (ons_mem hx hb)⟩
theorem lowB_spec {q:Nat} {os:List Nat} (h:lowB q os = true):∀ e ∈ os,e < q:=fun e he => by
 have:=List.all_eq_true.1 h e he
 simpa using this
theorem hiB_spec {q:Nat} {os:List Nat} (h:hiB q os = true):∃ e ∈ os,q ≤ e:=by
 obtain ⟨e,he,h2⟩:=List.any_eq_true.1 h
 exact ⟨e,he,by simpa using h2⟩
theorem getD_false_lt {V:Array Bool} {i:Nat} (h:V.getD i false = true):i < V.size:=by
 rcases Nat.lt_or_ge i V.size with h1 | h1
 ·exact h1
 ·simp [Array.getD,Nat.not_lt.2 h1] at h
theorem ready_one {l:List Oper} {q:Nat} {x:List Nat} {r:List (List Nat)} (hl:(l.drop q).map onsOf = x :: r) (h1:lowB q x = true) (h2:r.all (hiB q) = true) :
  q ∈ Region.ready .any l.toArray (lexFin q 0 (Array.replicate l.length false)) ∧ ∀ i ∈ Region.ready .any l.toArray (lexFin q 0 (Array.replicate l.length false)),i = q:=by
 have hlt:q < l.length:=by
  rcases Nat.lt_or_ge q l.length with h | h
  ·exact h
  ·rw [List.drop_eq_nil_of_le h] at hl; simp at hl
 have hd:l.drop q = l[q] :: l.drop (q + 1):=List.drop_eq_getElem_cons hlt
 rw [hd,List.map_cons] at hl
 have hx:onsOf l[q] = x:=by injection hl
 have hr:(l.drop (q + 1)).map onsOf = r:=by injection hl
 constructor
 ·rw [ready_iff]
  refine ⟨by rw [lexFin_get _ _ _ _ hlt]; simp,l[q],by simp [hlt],fun e he => ?_⟩
  rw [hx] at he
  have:=lowB_spec h1 e he
  rw [lexFin_get _ _ _ _ (by omega)]
  simpa using this
 ·intro i hi
  obtain ⟨hu,o,ho,hall⟩:=ready_iff.1 hi
  have hil:i < l.length:=(List.getElem?_eq_some_iff.1 ho).1
  rw [lexFin_get _ _ _ _ hil] at hu
  have hqi:q ≤ i:=by simpa using hu
  rcases Nat.lt_or_ge q i with h | h
  ·exfalso
   have hm:onsOf o ∈ r:=by
    rw [← hr]
    refine List.mem_map.2 ⟨o,?_,rfl⟩
    refine List.mem_iff_getElem?.2 ⟨i - (q + 1),?_⟩
    rw [List.getElem?_drop,show q + 1 + (i - (q + 1)) = i by omega]
    exact ho
   obtain ⟨e,he,hqe⟩:=hiB_spec (List.all_eq_true.1 h2 _ hm)
   have h3:=hall e he
   have hes:=getD_false_lt h3
   rw [lexFin_size] at hes
   rw [lexFin_get _ _ _ _ (by simpa using hes)] at h3
   have:e < q:=by simpa using h3
   omega
  ·omega
theorem lexFin_set (q n:Nat):(lexFin q 0 (Array.replicate n false)).setIfInBounds q true = lexFin (q + 1) 0 (Array.replicate n false):=by
 have:=lexFin_add q 1 0 (Array.replicate n false)
 rw [this,Nat.zero_add]; rfl
theorem wpAny_segs {l:List Oper} {f:Nat} {Lq:Act → Prop}:∀ (j p:Nat) (a:Act) (w:World),segB ((l.drop p).map onsOf) p j = true → C w → wpQuiet P l.toArray C Lq ((l.drop p).take j) a →
  (∀ a' w',C w' → Lq a' → wpAny P .any l.toArray Q f (lexFin (p + j) 0 (Array.replicate l.length false)) a' w') → wpAny P .any l.toArray Q (j + f) (lexFin p 0 (Array.replicate l.length false)) a w
 | 0,p,a,w,_,hC,h,hL => by
  rw [Nat.zero_add]
  exact hL a w hC h
 | j + 1,p,a,w,hB,hC,h,hL => by
  cases hl:(l.drop p).map onsOf with
  | nil => rw [hl] at hB; simp [segB] at hB
  | cons x r =>
   rw [hl] at hB
   simp only [segB,Bool.and_eq_true] at hB
   obtain ⟨⟨h1,h2⟩,h3⟩:=hB
   obtain ⟨hm,hu⟩:=ready_one hl h1 h2
   have hlt:p < l.length:=by
    rcases Nat.lt_or_ge p l.length with h | h
    ·exact h
    ·rw [List.drop_eq_nil_of_le h] at hl; simp at hl
   have hd:l.drop p = l[p] :: l.drop (p + 1):=List.drop_eq_getElem_cons hlt
   have hr:(l.drop (p + 1)).map onsOf = r:=by rw [hd,List.map_cons] at hl; injection hl
   rw [hd,List.take_succ_cons] at h
   have hq:qOp P l.toArray C p (wpQuiet P l.toArray C Lq ((l.drop (p + 1)).take j)) a:=by
    unfold qOp
    have:l.toArray[p]? = some l[p]:=by simp [hlt]
    simp only [this]
    exact h
   rw [show j + 1 + f = (j + f) + 1 by omega]
   refine ⟨fun h0 => (by rw [h0] at hm; cases hm),fun i hi => ?_⟩
   obtain rfl:=hu i hi
   rw [lexFin_set]
   exact wpOp_of_qOp hC (fun a' w' hC' h' => wpAny_segs j (i + 1) a' w' (by rw [hr]; exact h3) hC' h' (by rw [show i + 1 + j = i + (j + 1) by omega]; exact hL)) hq
/-- A quiet piece, forced. -/
theorem wpAny_segN {l:List Oper} {g:Nat} {a:Act} {w:World} (j p f n:Nat) (hB:segB ((l.drop p).map onsOf) p j = true) (hn:l.length = n) (hg:j + f = g)
  (h:wpQuiet P l.toArray (fun w' => ∃ p:Regrown,w' = grow (redrawn w p.d) p.os) (fun a' => ∀ w',(∃ p:Regrown,w' = grow (redrawn w p.d) p.os) → wpAny P .any l.toArray Q f (lexFin (p + j) 0 (Array.replicate n false)) a' w') ((l.drop p).take j) a):wpAny P .any l.toArray Q g (lexFin p 0 (Array.replicate n false)) a w:=by
 subst hn hg
 exact wpAny_segs (C:=fun w' => ∃ p:Regrown,w' = grow (redrawn w p.d) p.os) j p a w hB ⟨⟨w.drawn,#[]⟩,by rw [grow_empty]; rfl⟩ h (fun a' w' hC hL => hL w' hC)
/-- The head of a region, forced, quiet. -/
theorem wp_region_segN {id:Nat} {a:Act} {w:World} {l:List Oper} (j f n:Nat) (hm:P.follows .mixedOrders = true) (hB:segB (l.map onsOf) 0 j = true) (hn:l.length = n) (hg:j + f = n)
  (h:wpQuiet P l.toArray (fun w' => ∃ p:Regrown,w' = grow (redrawn w p.d) p.os) (fun a' => ∀ w',(∃ p:Regrown,w' = grow (redrawn w p.d) p.os) → wpAny P .any l.toArray Q f (lexFin j 0 (Array.replicate n false)) a' w') (l.take j) a):(Code.region id l.toArray true).wp P Q a w:=by
 subst hn
 refine wp_region_any hm ?_
 have h2:=wpAny_segs (P:=P) (Q:=Q) (l:=l) (f:=f) (C:=fun w' => ∃ p:Regrown,w' = grow (redrawn w p.d) p.os) j 0 a w.drew hB ⟨⟨w.drawn + 1,#[]⟩,by rw [grow_empty]; rfl⟩ h (fun a' w' hC hL => by rw [Nat.zero_add]; exact hL w' hC)
 rw [hg] at h2
 exact h2
/-- Two that are quiet, in either order. -/
def fPairB (os:List (List Nat)) (p:Nat):Bool:=match os with
 | x :: y :: r => lowB p x && lowB p y && r.all fun z => hiB (p + 1) z && z.any fun e => Nat.ble p e && !(e == p + 1)
 | _ => false
theorem wpAny_pairs {l:List Oper} {f p:Nat} {Lq:Act → Prop} {a:Act} {w:World} {o1 o2:Oper} (hB:fPairB ((l.drop p).map onsOf) p = true) (h1:l[p]? = some o1) (h2:l[p + 1]? = some o2) (hap:o1.apart l.toArray o2 = true) (hsel:Region.noSelect l.toArray = true) (hC:C w) (h:wpQuiet P l.toArray C Lq [o1,o2] a)
  (hL:∀ a' w',C w' → Lq a' → wpAny P .any l.toArray Q f (lexFin (p + 2) 0 (Array.replicate l.length false)) a' w'):wpAny P .any l.toArray Q (f + 2) (lexFin p 0 (Array.replicate l.length false)) a w:=by
 have hlt:p + 1 < l.length:=(List.getElem?_eq_some_iff.1 h2).1
 have e1:l[p] = o1:=(List.getElem?_eq_some_iff.1 h1).2
 have e2:l[p + 1] = o2:=(List.getElem?_eq_some_iff.1 h2).2
 have hd:l.drop p = o1 :: o2 :: l.drop (p + 2):=by rw [List.drop_eq_getElem_cons (show p < l.length by omega),List.drop_eq_getElem_cons hlt,e1,e2]
 rw [hd] at hB
 simp only [List.map_cons,fPairB,Bool.and_eq_true] at hB
 obtain ⟨⟨b1,b2⟩,b3⟩:=hB
 have hrest:∀ i o,p + 2 ≤ i → l[i]? = some o → (∃ e ∈ onsOf o,p + 1 ≤ e) ∧ ∃ e ∈ onsOf o,p ≤ e ∧ e ≠ p + 1:=by
  intro i o hi ho
  have hm:onsOf o ∈ (l.drop (p + 2)).map onsOf:=by
   refine List.mem_map.2 ⟨o,?_,rfl⟩
   refine List.mem_iff_getElem?.2 ⟨i - (p + 2),?_⟩
   rw [List.getElem?_drop,show p + 2 + (i - (p + 2)) = i by omega]
   exact ho
  have:=List.all_eq_true.1 b3 _ hm
  simp only [Bool.and_eq_true] at this
  refine ⟨hiB_spec this.1,?_⟩
  obtain ⟨e,he,h3⟩:=List.any_eq_true.1 this.2
  simp only [Bool.and_eq_true,Bool.not_eq_true',beq_eq_false_iff_ne,ne_eq] at h3
  exact ⟨e,he,by simpa using h3.1,h3.2⟩
 have low1:∀ e ∈ onsOf o1,e < p:=lowB_spec b1
 have low2:∀ e ∈ onsOf o2,e < p:=lowB_spec b2
 let V0:=lexFin p 0 (Array.replicate l.length false)
 have g0:∀ i d,i < l.length → V0.getD i d = decide (i < p):=fun i d hi => lexFin_get p l.length i d hi
 have z0:V0.size = l.length:=by show (lexFin p 0 _).size = _; rw [lexFin_size]; simp
 have a1:l.toArray[p]? = some o1:=by simpa using h1
 have a2:l.toArray[p + 1]? = some o2:=by simpa using h2
 have hs1:=fun cs b => Region.noSelect_spec hsel p o1 cs b a1
 have hs2:=fun cs b => Region.noSelect_spec hsel (p + 1) o2 cs b a2
 have hq1:qOp P l.toArray C p (wpQuiet P l.toArray C Lq [o2]) a:=by unfold qOp; simp only [a1]; exact h
 obtain ⟨v,hy,hK⟩:=yieldsIn_of_qOp a1 hq1
 have hq2:qOp P l.toArray C (p + 1) Lq (a.put o1.dst v):=by unfold qOp; simp only [a2]; exact hK
 have hq3:=qOp_put a2 hap hs1 hs2 hy hq2
 have eV:(V0.setIfInBounds p true).setIfInBounds (p + 1) true = lexFin (p + 2) 0 (Array.replicate l.length false):=by
  show ((lexFin p 0 _).setIfInBounds p true).setIfInBounds (p + 1) true = _
  rw [lexFin_set,lexFin_set]
 have hmem1:p ∈ Region.ready .any l.toArray V0:=ready_iff.2 ⟨by rw [g0 _ _ (by omega)]; simp,o1,h1,fun e he => by rw [g0 _ _ (by have:=low1 e he; omega)]; simpa using low1 e he⟩
 show wpAny P .any l.toArray Q (f + 2) V0 a w
 refine ⟨fun h0 => (by rw [h0] at hmem1; cases hmem1),fun i hi => ?_⟩
 obtain ⟨hu,o,ho,hall⟩:=ready_iff.1 hi
 have hil:i < l.length:=(List.getElem?_eq_some_iff.1 ho).1
 rw [g0 _ _ hil] at hu
 have hpi:p ≤ i:=by simpa using hu
 have hcase:i = p ∨ i = p + 1:=by
  rcases Nat.lt_or_ge i (p + 2) with h | h
  ·omega
  ·obtain ⟨⟨e,he,hpe⟩,_⟩:=hrest i o h ho
   have h3:=hall e he
   have hes:=getD_false_lt h3
   rw [z0] at hes
   rw [g0 _ _ hes] at h3
   have:e < p:=by simpa using h3
   omega
 rcases hcase with rfl | rfl
 ·refine wpOp_of_qOp hC (fun a' w' hC' h' => ?_) hq1
  have hV:V0.setIfInBounds i true = lexFin (i + 1) 0 (Array.replicate l.length false):=lexFin_set _ _
  rw [hV]
  have hr1:=ready_one (l:=l) (q:=i + 1) (x:=onsOf o2) (r:=(l.drop (i + 2)).map onsOf) (by rw [List.drop_eq_getElem_cons hlt,List.map_cons,e2]) (List.all_eq_true.2 fun e he => by have:=low2 e he; simp; omega) (List.all_eq_true.2 fun z hz => by
   have:=List.all_eq_true.1 b3 z hz
   simp only [Bool.and_eq_true] at this
   exact this.1)
  refine ⟨fun h0 => (by have:=hr1.1; rw [h0] at this; cases this),fun k hk => ?_⟩
  obtain rfl:=hr1.2 k hk
  rw [lexFin_set]
  have hq:qOp P l.toArray C (i + 1) Lq a':=by unfold qOp; simp only [a2]; exact h'
  exact wpOp_of_qOp hC' (fun a'' w'' hC'' h'' => hL a'' w'' hC'' h'') hq
 ·refine wpOp_of_qOp hC (fun a' w' hC' h' => ?_) hq3
  obtain ⟨hy',hLq⟩:=h'
  have hun:(V0.setIfInBounds (p + 1) true).getD p true = false:=by
   rw [getD_set_ne true (by omega),g0 _ _ (by omega)]
   simp
  have hmem:p ∈ Region.ready .any l.toArray (V0.setIfInBounds (p + 1) true):=ready_iff.2 ⟨hun,o1,h1,fun e he => by
   have:=low1 e he
   rw [getD_set_ne false (by omega),g0 _ _ (by omega)]
   simpa using this⟩
  refine ⟨fun h0 => (by rw [h0] at hmem; cases hmem),fun k hk => ?_⟩
  obtain ⟨hu2,ok,hok,hall2⟩:=ready_iff.1 hk
  have hkl:k < l.length:=(List.getElem?_eq_some_iff.1 hok).1
  have hkp:k = p:=by
   rcases Nat.lt_or_ge k (p + 2) with h | h
   ·by_cases hk1:k = p + 1
    ·subst hk1
     have hs:p + 1 < V0.size:=by rw [z0]; exact hlt
     simp [hs] at hu2
    ·rw [getD_set_ne true (by omega),g0 _ _ hkl] at hu2
     have:p ≤ k:=by simpa using hu2
     omega
   ·obtain ⟨_,e,he,hpe,hne⟩:=hrest k ok h hok
    have h3:=hall2 e he
    rw [getD_set_ne false (by omega)] at h3
    have hes:=getD_false_lt h3
    rw [z0] at hes
    rw [g0 _ _ hes] at h3
    have:e < p:=by simpa using h3
    omega
  subst hkp
  have eV2:(V0.setIfInBounds (k + 1) true).setIfInBounds k true = lexFin (k + 2) 0 (Array.replicate l.length false):=by
   rw [Array.setIfInBounds_comm _ _ (by omega)]
   exact eV
  rw [eV2]
  exact wpOp_of_qOp hC' (fun a'' w'' hC'' h'' => hL a'' w'' hC'' h'') (hy'.qOp a1 hLq)
theorem wpAny_pairN {l:List Oper} {g:Nat} {a:Act} {w:World} (p f n:Nat) {o1 o2:Oper} (hB:fPairB ((l.drop p).map onsOf) p = true) (h1:l[p]? = some o1) (h2:l[p + 1]? = some o2) (hap:o1.apart l.toArray o2 = true) (hsel:Region.noSelect l.toArray = true) (hn:l.length = n) (hg:f + 2 = g)
  (h:wpQuiet P l.toArray (fun w' => ∃ p:Regrown,w' = grow (redrawn w p.d) p.os) (fun a' => ∀ w',(∃ p:Regrown,w' = grow (redrawn w p.d) p.os) → wpAny P .any l.toArray Q f (lexFin (p + 2) 0 (Array.replicate n false)) a' w') [o1,o2] a):wpAny P .any l.toArray Q g (lexFin p 0 (Array.replicate n false)) a w:=by
 subst hn hg
 exact wpAny_pairs (C:=fun w' => ∃ p:Regrown,w' = grow (redrawn w p.d) p.os) hB h1 h2 hap hsel ⟨⟨w.drawn,#[]⟩,by rw [grow_empty]; rfl⟩ h (fun a' w' hC hL => hL w' hC)
/-- Some that are forced, as a list; what follows behind a letter. -/
theorem wpAny_forcedS {l:List Oper} {f:Nat}:∀ (j p:Nat) (a:Act) (w:World),segB ((l.drop p).map onsOf) p j = true →
  wpList P l.toArray (Qn Q (fun a' w' => wpAny P .any l.toArray Q f (lexFin (p + j) 0 (Array.replicate l.length false)) a' w')) ((l.drop p).take j) a w → wpAny P .any l.toArray Q (j + f) (lexFin p 0 (Array.replicate l.length false)) a w
 | 0,p,a,w,_,h => by
  rw [Nat.zero_add]
  exact h
 | j + 1,p,a,w,hB,h => by
  cases hl:(l.drop p).map onsOf with
  | nil => rw [hl] at hB; simp [segB] at hB
  | cons x r =>
   rw [hl] at hB
   simp only [segB,Bool.and_eq_true] at hB
   obtain ⟨⟨h1,h2⟩,h3⟩:=hB
   obtain ⟨hm,hu⟩:=ready_one hl h1 h2
   have hlt:p < l.length:=by
    rcases Nat.lt_or_ge p l.length with h | h
    ·exact h
    ·rw [List.drop_eq_nil_of_le h] at hl; simp at hl
   have hd:l.drop p = l[p] :: l.drop (p + 1):=List.drop_eq_getElem_cons hlt
   have hr:(l.drop (p + 1)).map onsOf = r:=by rw [hd,List.map_cons] at hl; injection hl
   rw [hd,List.take_succ_cons] at h
   rw [show j + 1 + f = (j + f) + 1 by omega]
   refine ⟨fun h0 => (by rw [h0] at hm; cases hm),fun i hi => ?_⟩
   obtain rfl:=hu i hi
   rw [lexFin_set]
   refine wpOp_mono (fun a' w' h' => wpAny_forcedS j (i + 1) a' w' (by rw [hr]; exact h3) ?_) (wpList_qn (by simp [hlt]) h)
   rw [show i + 1 + j = i + (j + 1) by omega]
   exact h'
theorem wpAny_forcedSN {l:List Oper} {g:Nat} (j p f n:Nat) {a:Act} {w:World} (hB:segB ((l.drop p).map onsOf) p j = true) (hn:l.length = n) (hg:j + f = g)
  (h:∀ N:Act → World → Prop,(∀ a' w',wpAny P .any l.toArray Q f (lexFin (p + j) 0 (Array.replicate n false)) a' w' → N a' w') → wpList P l.toArray (Qn Q N) ((l.drop p).take j) a w):wpAny P .any l.toArray Q g (lexFin p 0 (Array.replicate n false)) a w:=by
 subst hn hg
 exact wpAny_forcedS j p a w hB (h _ (fun _ _ h => h))
end
end Go.Proofs.YtolaabllhibkdaaGreat
