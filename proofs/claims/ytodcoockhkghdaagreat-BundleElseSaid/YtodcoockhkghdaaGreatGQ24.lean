/- Several texts of mine in one: NewVar, Facts, Facts2, Facts3, Facts4, Facts5. No condition. -/
import Derived.Test.YtodcoockhkghdaaGreatGQ20
import Derived.Test.YtodcoockhkghdaaGreatGQ7
import Derived.Deep.MidRow
import Derived.Test.YtodcoockhkghdaaGreatGQ36
import Derived.Test.YtodcoockhkghdaaGreatGQ6
namespace Go.Proofs.YtodcoockhkghdaaGreat
open Go.Sort Go.RowKit
set_option linter.unusedSimpArgs false
set_option linter.unusedVariables false
section
variable {P:Program} {ops:Array Oper} {md:Region.Mode}
def UpOf (b:World):World → Prop:=fun w' => ∃ p:Regrown,w' = grow (redrawn b p.d) p.os
theorem UpOf.below {b w':World} (h:UpOf b w'):Below b.heap.size b w':=by
 obtain ⟨p,rfl⟩:=h
 exact below_regrown b p.d p.os
theorem UpOf.of {b w':World} (h:Below b.heap.size b w'):UpOf b w':=regrown_of_below h
theorem UpOf.refl (w:World):UpOf w w:=UpOf.of (Below.refl _ _)
theorem put_tmps (a:Act) (d:Option Tmp) (v:Value) (e:Tmp) (h:d ≠ some e):(a.put d v).tmps[e]? = a.tmps[e]?:=by
 cases d with
 | none => rfl
 | some d =>
  have hne:d ≠ e:=fun he => h (by rw [he])
  simp [Act.put,Array.getElem?_setIfInBounds_ne hne]
theorem put_size (a:Act) (d:Option Tmp) (v:Value):(a.put d v).tmps.size = a.tmps.size:=by
 cases d <;> simp [Act.put]
def dstOnce (ops:Array Oper):Bool:=
 (List.range ops.size).all fun i => (List.range ops.size).all fun j => decide (i = j) || match ops[i]?,ops[j]? with
  | some oi,some oj => oi.dst.isNone || decide (oi.dst ≠ oj.dst)
  | _,_ => true
def lexOrd (md:Region.Mode) (ops:Array Oper):Bool:=
 (List.range ops.size).all fun i => match ops[i]? with
  | some o => o.after.all fun e => !Region.binds md e || decide (e.on < i)
  | none => true
theorem all_listed (h:lexOrd md ops = true) {listed:Array Bool} (hr:Region.ready md ops listed = []) (hsz:listed.size = ops.size):∀ i,i < ops.size → listed.getD i true = true:=by
 intro i
 induction i using Nat.strongRecOn with
 | _ i ih =>
  intro hi
  cases hl:listed.getD i true with
  | true => rfl
  | false =>
   have h1:=List.all_eq_true.1 h i (List.mem_range.2 hi)
   have hoi:ops[i]? = some ops[i]:=Array.getElem?_eq_getElem hi
   have:i ∈ Region.ready md ops listed:=by
    refine mem_ready.2 ⟨hl,ops[i],hoi,fun e he hb => ?_⟩
    simp only [hoi] at h1
    have h2:=Array.all_eq_true_iff_forall_mem.1 h1 e he
    simp only [hb,Bool.not_true,Bool.false_or,decide_eq_true_eq] at h2
    have h3:=ih e.on h2 (by omega)
    have h4:e.on < listed.size:=by omega
    simp [h4] at h3 ⊢
    exact h3
   rw [hr] at this
   cases this
structure NewVar (md:Region.Mode) (ops:Array Oper) (m s:Nat) (om os:Oper) (dm dv:Tmp) (T:TypeId):Prop where
 lex:lexOrd md ops = true
 once:dstOnce ops = true
 sel:Region.noSelect ops = true
 hm:ops[m]? = some om
 hs:ops[s]? = some os
 md_:om.dst = some dm
 sd:os.dst = none
 mg:om.guard = none
 sg:os.guard = none
 ma:∀ e ∈ om.after,Region.binds md e = false
 store:os.op = .store T (.tmp dm) (.tmp dv)
 ne:dm ≠ dv
 waits:Region.waitsFor md ops s m = true
 value:∀ k ok,ops[k]? = some ok → ok.dst = some dv → Region.waitsFor md ops s k = true
 apart:∀ k ok,ops[k]? = some ok → k ≠ m → k ≠ s → om.apart ops ok = true
def newVarB (md:Region.Mode) (ops:Array Oper) (m s:Nat) (om os:Oper) (dm dv:Tmp):Bool:=
 lexOrd md ops && dstOnce ops && Region.noSelect ops && decide (om.dst = some dm) && decide (os.dst = none) && om.guard.isNone && os.guard.isNone && om.after.all (fun e => !Region.binds md e) && decide (dm ≠ dv) &&
  Region.waitsFor md ops s m && ((List.range ops.size).all fun k => match ops[k]? with
   | some ok => (decide (ok.dst ≠ some dv) || Region.waitsFor md ops s k) && (decide (k = m) || decide (k = s) || om.apart ops ok)
   | none => true)
theorem NewVar.of {m s:Nat} {om os:Oper} {dm dv:Tmp} {T:TypeId} (hm:ops[m]? = some om) (hs:ops[s]? = some os) (hst:os.op = .store T (.tmp dm) (.tmp dv)) (h:newVarB md ops m s om os dm dv = true):NewVar md ops m s om os dm dv T:=by
 simp only [newVarB,Bool.and_eq_true,decide_eq_true_eq] at h
 obtain ⟨⟨⟨⟨⟨⟨⟨⟨⟨⟨h1,h2⟩,h3⟩,h4⟩,h5⟩,h6⟩,h7⟩,h8⟩,h9⟩,h10⟩,h11⟩:=h
 refine ⟨h1,h2,h3,hm,hs,h4,h5,by simpa using h6,by simpa using h7,fun e he => ?_,hst,h9,h10,fun k ok hk hd => ?_,fun k ok hk hkm hks => ?_⟩
 ·have:=Array.all_eq_true_iff_forall_mem.1 h8 e he
  simpa using this
 ·have h:=List.all_eq_true.1 h11 k (List.mem_range.2 (Array.getElem?_eq_some_iff.1 hk).1)
  simp only [hk,Bool.and_eq_true,Bool.or_eq_true,decide_eq_true_eq,hd] at h
  simpa using h.1
 ·have h:=List.all_eq_true.1 h11 k (List.mem_range.2 (Array.getElem?_eq_some_iff.1 hk).1)
  simp only [hk,Bool.and_eq_true,Bool.or_eq_true,decide_eq_true_eq,hkm,hks,false_or] at h
  exact h.2
variable {m s:Nat} {om os:Oper} {dm dv:Tmp} {T:TypeId} {F:Act} {w:World}
def Made (w:World) (T:TypeId) (cs:Array Value) (b:Nat) (w':World):Prop:=w.heap.size ≤ b ∧ Blok w' b T cs ∧ Below w.heap.size w w'
theorem Made.below {w w' w'':World} {cs:Array Value} {b:Nat} (h:Made w T cs b w') (hb:Below w'.heap.size w' w''):Made w T cs b w'':=
 ⟨h.1,h.2.1.below hb h.2.1.lt,h.2.2.trans (hb.mono h.2.2.size)⟩
theorem set_below {w w':World} (b:Nat) (hb:w.heap.size ≤ b):∀ (vs:List Value) (o:Nat),Below w.heap.size w w' → Below w.heap.size w (w'.setCells b o vs)
 | [],_,h => h
 | v :: r,o,h => by
  rw [World.setCells]
  exact set_below b hb r (o + 1) (h.setCell (p:=⟨b,o,none⟩) hb v)
theorem set_blok {b:Nat}:∀ (vs:List Value) (o:Nat) (w':World) (cs:Array Value),Blok w' b T cs → o + vs.length = cs.size → ∃ cs',Blok (w'.setCells b o vs) b T cs' ∧ cs'.size = cs.size ∧ (∀ j,j < o → cs'[j]? = cs[j]?) ∧ ∀ j,j < vs.length → cs'[o + j]? = vs[j]?
 | [],o,w',cs,h,_ => ⟨cs,h,rfl,fun _ _ => rfl,fun j hj => by simp at hj⟩
 | v :: r,o,w',cs,h,hl => by
  rw [World.setCells]
  simp only [List.length_cons] at hl
  obtain ⟨cs',h1,h2,h3,h4⟩:=set_blok r (o + 1) (w'.setCell ⟨b,o,none⟩ v) (cs.setIfInBounds o v) (h.set_ o v) (by simp; omega)
  refine ⟨cs',h1,by simpa using h2,fun j hj => ?_,fun j hj => ?_⟩
  ·rw [h3 j (by omega),Array.getElem?_setIfInBounds_ne (by omega)]
  ·cases j with
   | zero =>
    rw [Nat.add_zero,h3 o (by omega),Array.getElem?_setIfInBounds_self_of_lt (by omega)]
    rfl
   | succ j =>
    simp only [List.length_cons] at hj
    have:=h4 j (by omega)
    rw [show o + (j + 1) = o + 1 + j by omega,this]
    rfl
theorem set_whole {b:Nat} {w':World} {zs cs:Array Value} (h:Blok w' b T zs) (hz:cs.size = zs.size):Blok (w'.setCells b 0 cs.toList) b T cs:=by
 obtain ⟨cs',h1,h2,_,h4⟩:=set_blok cs.toList 0 w' zs h (by simpa using hz)
 have e:cs' = cs:=by
  apply Array.ext_getElem?
  intro j
  by_cases hj:j < cs.size
  ·have:=h4 j (by simpa using hj)
   rw [Nat.zero_add] at this
   rw [this]
   simp
  ·rw [Array.getElem?_eq_none (by omega),Array.getElem?_eq_none (by omega)]
 rwa [e] at h1
end
end Go.Proofs.YtodcoockhkghdaaGreat
namespace Go.Proofs.YtodcoockhkghdaaGreat
open Go.Sort Go.RowKit
set_option linter.unusedSimpArgs false
set_option linter.unusedVariables false
section
variable {P:Program} {ops:Array Oper} {md:Region.Mode}
theorem count_all {V:Array Bool} (h:V.toList.count false = 0) (i:Nat):V.getD i true = true:=by
 cases hv:V.getD i true with
 | true => rfl
 | false =>
  have hlt:i < V.size:=by
   rcases Nat.lt_or_ge i V.size with h1 | h1
   ·exact h1
   ·simp [Array.getD,Nat.not_lt.2 h1] at hv
  have e:V[i] = false:=by simpa [Array.getD,hlt] using hv
  have hm:false ∈ V.toList:=by rw [← e]; simp
  have:=List.count_pos_iff.2 hm
  omega
theorem count_step {V:Array Bool} {i f:Nat} (h:V.toList.count false = f + 1) (hv:V.getD i true = false):(V.setIfInBounds i true).toList.count false = f:=by
 have hlt:i < V.size:=by
  rcases Nat.lt_or_ge i V.size with h1 | h1
  ·exact h1
  ·simp [Array.getD,Nat.not_lt.2 h1] at hv
 have e:V[i] = false:=by simpa [Array.getD,hlt] using hv
 have hl:i < V.toList.length:=by simpa using hlt
 have e2:V.toList[i] = false:=by simpa using e
 rw [Array.toList_setIfInBounds,List.count_set hl,e2,h]
 simp
def Afters (md:Region.Mode) (ops:Array Oper) (i:Nat) (V:Array Bool):Prop:=∀ o,ops[i]? = some o → ∀ e ∈ o.after,Region.binds md e = true → V.getD e.on false = true
def Closed (md:Region.Mode) (ops:Array Oper) (V:Array Bool):Prop:=∀ j o,ops[j]? = some o → V.getD j true = true → ∀ e ∈ o.after,Region.binds md e = true → V.getD e.on false = true
theorem getD_monof {V:Array Bool} {i j:Nat} (h:V.getD j false = true):(V.setIfInBounds i true).getD j false = true:=by
 by_cases e:i = j
 ·subst e
  have hs:i < V.size:=by
   rcases Nat.lt_or_ge i V.size with h1 | h1
   ·exact h1
   ·simp [Array.getD,Nat.not_lt.2 h1] at h
  simp [hs]
 ·rw [getD_set_ne false e]; exact h
theorem Closed.step {V:Array Bool} {i:Nat} (h:Closed md ops V) (ha:Afters md ops i V):Closed md ops (V.setIfInBounds i true):=by
 intro j o ho hj e he hb
 by_cases hij:i = j
 ·subst hij
  exact getD_monof (ha o ho e he hb)
 ·rw [getD_set_ne true hij] at hj
  exact getD_monof (h j o ho hj e he hb)
theorem Closed.none {n:Nat} (hn:n = ops.size):Closed md ops (Array.replicate n false):=by
 intro j o ho hj
 have hlt:j < ops.size:=(Array.getElem?_eq_some_iff.1 ho).1
 subst hn
 simp [hlt] at hj
theorem wpAny_facts {Q':Exit → Act → World → Prop} (hlex:lexOrd md ops = true) (I:Array Bool → Act → World → Prop)
  (hs:∀ i,i < ops.size → ∀ V a w,V.size = ops.size → V.getD i true = false → Afters md ops i V → Closed md ops V → I V a w → wpOp P ops Q' i (fun a' w' => I (V.setIfInBounds i true) a' w') a w)
  (he:∀ V a w,(∀ i,i < ops.size → V.getD i true = true) → I V a w → Q' .normal a w) :
  ∀ (f:Nat) (V:Array Bool) (a:Act) (w:World),V.size = ops.size → V.toList.count false = f → Closed md ops V → I V a w → wpAny P md ops Q' f V a w
 | 0,V,a,w,hsz,hc,_,hI => by
  refine ⟨List.eq_nil_iff_forall_not_mem.2 fun i hi => ?_,he V a w (fun i _ => count_all hc i) hI⟩
  have:=(mem_ready.1 hi).1
  rw [count_all hc i] at this
  cases this
 | f + 1,V,a,w,hsz,hc,hcl,hI => by
  refine ⟨fun h0 => he V a w (all_listed hlex h0 hsz) hI,fun i hi => ?_⟩
  obtain ⟨hun,o,ho,hall⟩:=mem_ready.1 hi
  have hlt:i < ops.size:=(Array.getElem?_eq_some_iff.1 ho).1
  have haf:Afters md ops i V:=fun o' ho' => by
   have:o' = o:=Option.some.inj (ho'.symm.trans ho)
   subst this
   exact hall
  exact wpOp_mono (fun a' w' h' => wpAny_facts hlex I hs he f _ a' w' (by simp [hsz]) (count_step hc hun) (hcl.step haf) h') (hs i hlt V a w hsz hun haf hcl hI)
theorem wp_region_facts {id:Nat} {Q':Exit → Act → World → Prop} {a:Act} {w:World} {l:List Oper} (hmo:P.follows .mixedOrders = true) (hlex:lexOrd .any l.toArray = true) (I:Array Bool → Act → World → Prop)
  (h0:I (Array.replicate l.length false) a w.drew)
  (hs:∀ i,i < l.length → ∀ V a w,V.size = l.length → V.getD i true = false → Afters .any l.toArray i V → Closed .any l.toArray V → I V a w → wpOp P l.toArray Q' i (fun a' w' => I (V.setIfInBounds i true) a' w') a w)
  (he:∀ V a w,(∀ i,i < l.length → V.getD i true = true) → I V a w → Q' .normal a w):(Code.region id l.toArray true).wp P Q' a w:=by
 refine wp_region_any hmo ?_
 have:=wpAny_facts (P:=P) (md:=.any) (ops:=l.toArray) (Q':=Q') hlex I (fun i hi V a w hsz => hs i (by simpa using hi) V a w (by simpa using hsz)) (fun V a w hall => he V a w (fun i hi => hall i (by simpa using hi))) l.length (Array.replicate l.length false) a w.drew (by simp) (by simp) (Closed.none (by simp)) h0
 exact this
end
end Go.Proofs.YtodcoockhkghdaaGreat
namespace Go.Proofs.YtodcoockhkghdaaGreat
open Go.Sort Go.RowKit
set_option linter.unusedSimpArgs false
set_option linter.unusedVariables false
section
variable {P:Program} {ops:Array Oper} {md:Region.Mode}
def putAll:Act → List (Option Tmp) → (Nat → Value) → Nat → Act
 | a,[],_,_ => a
 | a,d :: ds,x,k => putAll (a.put d (x k)) ds x (k + 1)
def upd (x:Nat → Value) (i:Nat) (v:Value):Nat → Value:=fun j => if j = i then v else x j
theorem upd_same (x:Nat → Value) (i:Nat) (v:Value):upd x i v i = v:=by simp [upd]
theorem upd_ne (x:Nat → Value) {i j:Nat} (v:Value) (h:j ≠ i):upd x i v j = x j:=by simp [upd,h]
def nodupB:List (Option Tmp) → Bool
 | [] => true
 | d :: ds => (d.isNone || !ds.contains d) && nodupB ds
theorem putAll_congr {x y:Nat → Value}:∀ (ds:List (Option Tmp)) (a:Act) (k:Nat),(∀ j,k ≤ j → x j = y j) → putAll a ds x k = putAll a ds y k
 | [],_,_,_ => rfl
 | d :: ds,a,k,h => by
  rw [putAll,putAll,h k (Nat.le_refl _)]
  exact putAll_congr ds _ (k + 1) (fun j hj => h j (by omega))
theorem putAll_last {x:Nat → Value} {d:Option Tmp} {v:Value}:∀ (ds:List (Option Tmp)) (a:Act) (k:Nat),(∀ e,d = some e → some e ∉ ds) → (putAll a ds x k).put d v = putAll (a.put d v) ds x k
 | [],_,_,_ => rfl
 | d' :: ds,a,k,h => by
  rw [putAll,putAll,putAll_last ds _ (k + 1) (fun e he hm => h e he (List.mem_cons_of_mem _ hm)),Act.put_comm a (x k) v (fun e he hd => h e hd (by rw [he]; simp))]
theorem put_put (a:Act) (d:Option Tmp) (v u:Value):(a.put d v).put d u = a.put d u:=by
 cases d with
 | none => rfl
 | some d => simp [Act.put]
theorem putAll_put {x:Nat → Value} {v:Value}:∀ (ds:List (Option Tmp)) (a:Act) (k i:Nat) (d:Option Tmp),nodupB ds = true → ds[i]? = some d → (putAll a ds x k).put d v = putAll a ds (upd x (k + i) v) k
 | [],_,_,_,_,_,h => by simp at h
 | d' :: ds,a,k,0,d,hn,h => by
  have hd:d' = d:=by simpa using h
  subst hd
  rw [putAll,putAll,putAll_last ds _ (k + 1) (fun e he => by
   simp only [nodupB,Bool.and_eq_true,Bool.or_eq_true] at hn
   rcases hn.1 with h1 | h1
   ·rw [he] at h1; cases h1
   ·simpa [he] using h1),put_put,show upd x (k + 0) v k = v from upd_same x k v]
  exact putAll_congr ds _ (k + 1) (fun j hj => (upd_ne x v (by omega)).symm)
 | d' :: ds,a,k,i + 1,d,hn,h => by
  simp only [nodupB,Bool.and_eq_true] at hn
  rw [putAll,putAll,putAll_put ds _ (k + 1) i d hn.2 (by simpa using h),show k + 1 + i = k + (i + 1) by omega,upd_ne x v (by omega)]
theorem putAll_self (a:Act):∀ (ds:List (Option Tmp)) (x:Nat → Value) (k:Nat),(∀ j e,ds[j]? = some (some e) → x (k + j) = a.tmps.getD e undef) → a = putAll a ds x k
 | [],_,_,_ => rfl
 | d :: ds,x,k,h => by
  have e:a.put d (x k) = a:=by
   cases d with
   | none => rfl
   | some e =>
    have:=h 0 e rfl
    rw [Nat.add_zero] at this
    rw [this]
    have h2:a.tmps.setIfInBounds e (a.tmps.getD e undef) = a.tmps:=by
     apply Array.ext_getElem?
     intro j
     by_cases hj:j = e
     ·subst hj
      by_cases hs:j < a.tmps.size
      ·simp [hs]
      ·simp [hs]
     ·rw [Array.getElem?_setIfInBounds_ne (Ne.symm hj)]
    show ({ a with tmps:=a.tmps.setIfInBounds e (a.tmps.getD e undef) }:Act) = a
    rw [h2]
  rw [putAll,e]
  exact putAll_self a ds x (k + 1) (fun j e' hj => by rw [show k + 1 + j = k + (j + 1) by omega]; exact h (j + 1) e' (by simpa using hj))
theorem wp_region_frames {id:Nat} {Q':Exit → Act → World → Prop} {a:Act} {w:World} {l:List Oper} (hmo:P.follows .mixedOrders = true) (hlex:lexOrd .any l.toArray = true) (hnd:nodupB (l.map (·.dst)) = true) (F:Array Bool → (Nat → Value) → World → Prop)
  (h0:∀ x,F (Array.replicate l.length false) x w.drew)
  (hs:∀ V x b w',b = putAll a (l.map (·.dst)) x 0 → V.size = l.length → F V x w' → ∀ i,i < l.length → V.getD i true = false → Afters .any l.toArray i V → Closed .any l.toArray V →
   wpOp P l.toArray Q' i (fun b' w'' => ∃ o v,l[i]? = some o ∧ b' = b.put o.dst v ∧ F (V.setIfInBounds i true) (upd x i v) w'') b w')
  (he:∀ V x w',(∀ i,i < l.length → V.getD i true = true) → F V x w' → Q' .normal (putAll a (l.map (·.dst)) x 0) w'):(Code.region id l.toArray true).wp P Q' a w:=by
 refine wp_region_facts hmo hlex (fun V b w' => ∃ x,b = putAll a (l.map (·.dst)) x 0 ∧ F V x w') ?_ ?_ ?_
 ·refine ⟨fun k => match (l.map (·.dst))[k]? with | some (some e) => a.tmps.getD e undef | _ => undef,?_,h0 _⟩
  exact putAll_self a _ _ 0 (fun j e hj => by simp only [Nat.zero_add,hj])
 ·rintro i hi V b w' hsz hun haf hcl ⟨x,hb,hF⟩
  refine wpOp_mono ?_ (hs V x b w' hb hsz hF i hi hun haf hcl)
  rintro b' w'' ⟨o,v,ho,rfl,hF'⟩
  refine ⟨upd x i v,?_,hF'⟩
  rw [hb,putAll_put _ a 0 i o.dst hnd (by simp [ho]),Nat.zero_add]
 ·rintro V b w' hall ⟨x,rfl,hF⟩
  exact he V x w' hall hF
end
end Go.Proofs.YtodcoockhkghdaaGreat
namespace Go.Proofs.YtodcoockhkghdaaGreat
open Go.Sort Go.RowKit
set_option linter.unusedSimpArgs false
set_option linter.unusedVariables false
theorem getD_ft {V:Array Bool} {i:Nat} (h:V.getD i false = true):V.getD i true = true:=by
 unfold Array.getD at *
 split <;> simp_all
theorem grown_sets {b:Nat}:∀ (vs:List Value) (o:Nat) (w:World),w.grownBy (w.setCells b o vs) (some b)
 | [],_,_ => ⟨rfl,rfl,rfl,Nat.le_refl _,fun _ _ _ => rfl⟩
 | v :: r,o,w => by
  rw [World.setCells]
  exact grown_trans (grown_set _ _ _) (grown_sets r (o + 1) _)
theorem gen_frame {P:Program} {c:Code} {Q:Exit → Act → World → Prop} {a:Act} {w:World} (h:∀ a0,a0 = a → Code.wp P c Q a0 w):Code.wp P c Q a w:=h a rfl
theorem eval_out {x:Nat → Value} {e:Tmp}:∀ (ds:List (Option Tmp)) (a:Act) (k:Nat),ds.contains (some e) = false → (putAll a ds x k).eval (.tmp e) = a.eval (.tmp e)
 | [],_,_,_ => rfl
 | d :: ds,a,k,h => by
  simp only [List.contains_cons,Bool.or_eq_false_iff] at h
  rw [putAll,eval_out ds _ (k + 1) h.2]
  have hne:d ≠ some e:=fun he => by rw [he] at h; simp at h
  have:=put_tmps a d (x k) e hne
  simp only [Act.eval,Array.getD_eq_getD_getElem?,this]
theorem eval_in {x:Nat → Value} {e:Tmp}:∀ (ds:List (Option Tmp)) (a:Act) (k i:Nat),nodupB ds = true → ds[i]? = some (some e) → e < a.tmps.size → (putAll a ds x k).eval (.tmp e) = x (k + i)
 | [],_,_,_,_,h,_ => by simp at h
 | d :: ds,a,k,0,hn,h,hs => by
  have hd:d = some e:=by simpa using h
  subst hd
  simp only [nodupB,Bool.and_eq_true,Bool.or_eq_true] at hn
  have hc:ds.contains (some e) = false:=by
   rcases hn.1 with h1 | h1
   ·cases h1
   ·simpa using h1
  rw [putAll,eval_out ds _ (k + 1) hc]
  simp [Act.eval,Act.put,Array.getD_eq_getD_getElem?,hs]
 | d :: ds,a,k,i + 1,hn,h,hs => by
  simp only [nodupB,Bool.and_eq_true] at hn
  rw [putAll,eval_in ds _ (k + 1) i hn.2 (by simpa using h) (by rw [put_size]; exact hs),show k + 1 + i = k + (i + 1) by omega]
end Go.Proofs.YtodcoockhkghdaaGreat
namespace Go.Proofs.YtodcoockhkghdaaGreat
open Go.Sort Go.RowKit
set_option linter.unusedSimpArgs false
set_option linter.unusedVariables false
section
variable {P:Program} {ops:Array Oper}
theorem wpOp_runs {Q:Exit → Act → World → Prop} {i:Nat} {o:Oper} {K:Act → World → Prop} {a:Act} {w w':World} {v:Value} (ho:ops[i]? = some o) (hg:o.guard = none) (hr:(execOp a.eval o).run P w = .ok (.value v) w') (hK:K (a.put o.dst v) w'):wpOp P ops Q i K a w:=by
 refine wpOp_of ho ?_
 rw [if_pos (by simp [Region.wanted,hg])]
 unfold Oper.wp
 rw [hr]
 exact hK
end
end Go.Proofs.YtodcoockhkghdaaGreat
namespace Go.Proofs.YtodcoockhkghdaaGreat
open Go.ChangeShapes Go.WideShapes Go.ChangeAt Go.Sort Go.RowKit
set_option linter.unusedSimpArgs false
set_option linter.unusedVariables false
section
variable {P:Program} {ops:Array Oper}
end
end Go.Proofs.YtodcoockhkghdaaGreat
