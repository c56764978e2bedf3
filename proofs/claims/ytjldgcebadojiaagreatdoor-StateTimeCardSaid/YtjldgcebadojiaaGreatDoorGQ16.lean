/- Several texts of mine in one: PlanMath2, PlanTo, Facts, Facts2, Facts3, PlanSet. No condition. -/
import Derived.Test.YtjldgcebadojiaaGreatDoorGQ11
import Derived.Test.YtjldgcebadojiaaGreatDoorPlan6
import Derived.Test.YtjldgcebadojiaaGreatDoorPlan5
import Derived.Test.YtjldgcebadojiaaGreatDoorGQ9
import Derived.Test.YtjldgcebadojiaaGreatDoorGQ0
namespace Go.Proofs.YtjldgcebadojiaaGreatDoor
open Go.ChangeShapes Go.WideShapes Go.ChangeAt Go.RowKit Go.Sort
set_option linter.unusedSimpArgs false
set_option linter.unusedVariables false
theorem leftC_gone (d:List Co) (b:Int):(Kc.leftC d b).length + (Kc.goneL d b).length = d.length:=by
 unfold Kc.goneL Kc.leftC
 simp only [List.length_map]
 induction d with
 | nil => rfl
 | cons x d ih =>
  simp only [List.filter_cons]
  unfold Kc.overE at *
  by_cases h2:x.en ≤ b
  ·simp [h2] at ih ⊢
   omega
  ·simp [h2] at ih ⊢
   omega
theorem sortI_len (l:List Int):(sortI l).length = l.length:=by unfold sortI; exact List.length_mergeSort l
theorem advQ_yes {p:Pl} {now:Int} (h0:p.clk ≤ now) (h1:now ≤ 2147483647):inB now p.clk 2147483647 = true:=by unfold inB; simp [h0,h1]
structure Adv (p q:Pl) (now:Int):Prop where
 cs:q.cs = Kc.leftC p.cs now
 rs:q.rs = p.rs.filter (fun x => !decide (x.en ≤ now))
 clk:q.clk = now
 v0:0 ≤ q.ver
 v1:q.ver ≤ 1099511627776
 q0:advQ p now = 0
 g:advG p now = sortI (Kc.goneL p.cs now)
 ver:q.ver = if now = p.clk then p.ver else min (p.ver + 1) 1099511627776
theorem adv_at {p:Pl} {now:Int} (h0:p.clk ≤ now) (h1:now ≤ 2147483647) (v0:0 ≤ p.ver) (v1:p.ver ≤ 1099511627776):Adv p (advP p now) now:=by
 have hi:=advQ_yes h0 h1
 have e:advP p now = ⟨Kc.leftC p.cs now,p.rs.filter (fun x => !decide (x.en ≤ now)),now,if now = p.clk then p.ver else min (p.ver + 1) 1099511627776⟩:=by unfold advP; rw [if_pos hi]
 refine ⟨by rw [e],by rw [e],by rw [e],?_,?_,by unfold advQ; rw [if_pos hi],by unfold advG; rw [if_pos hi],by rw [e]⟩
 ·rw [e]
  show 0 ≤ if now = p.clk then p.ver else min (p.ver + 1) 1099511627776
  split <;> omega
 ·rw [e]
  show (if now = p.clk then p.ver else min (p.ver + 1) 1099511627776) ≤ 1099511627776
  split <;> omega
theorem leftC_sub {d:List Co} {now:Int} {x:Co} (h:x ∈ Kc.leftC d now):x ∈ d ∧ now < x.en:=by
 unfold Kc.leftC at h
 obtain ⟨h1,h2⟩:=List.mem_filter.1 h
 refine ⟨h1,?_⟩
 unfold Kc.overE at h2
 simp only [Bool.not_eq_true',decide_eq_false_iff_not] at h2
 omega
theorem leftC_right {d:List Co} {now:Int} (h:Kc.rightC d = true):Kc.rightC (Kc.leftC d now) = true:=Kc.right_filter h _
theorem advP_right {p:Pl} {now:Int} (h:RightP p.cs p.rs p.clk p.ver):RightP (advP p now).cs (advP p now).rs (advP p now).clk (advP p now).ver:=by
 by_cases hin:inB now p.clk 2147483647 = true
 ·have hin2:=hin
  unfold inB at hin2
  rw [decide_eq_true_eq] at hin2
  have a:=adv_at hin2.1 hin2.2 h.v0 h.v1
  have hc0:=h.c0
  refine ⟨by rw [a.cs]; exact leftC_right h.co,by rw [a.rs]; exact Kr.right_filter h.rg _,by rw [a.clk]; omega,by rw [a.clk]; exact hin2.2,a.v0,a.v1,?_,?_⟩
  ·intro x hx
   rw [a.cs] at hx
   rw [a.clk]
   exact (leftC_sub hx).2
  ·intro x hx
   rw [a.rs] at hx
   rw [a.clk]
   have h2:=(List.mem_filter.1 hx).2
   simp only [Bool.not_eq_true',decide_eq_false_iff_not] at h2
   omega
 ·have e:advP p now = p:=by unfold advP; rw [if_neg hin]
  rw [e]; exact h
def AdvTo (a:Pl) (q:Int) (g:List Int) (w:World) (e:Ending) (w':World):Prop:=
 ∃ A2 n2 c2 A3 n3 c3 A4 n4 c4,e = .returned (.tuple #[.agg #[.slice A2 n2 c2,.slice A3 n3 c3,.int .i64 a.clk,.int .i64 a.ver],.slice A4 n4 c4,.int .i64 q]) ∧ PlOwn w' w.heap.size A2 n2 c2 A3 n3 c3 a ∧
  g.length = n4 ∧ Sl w' w'.heap.size 1 A4 n4 c4 (g.map (Value.int .i64)) ∧ Below w.heap.size w w'
theorem padv_to (A1:Option Addr) (n1 c1:Nat) (A:Option Addr) (n c:Nat) (p:Pl) (now:Int) (w:World) (h:PlAt w A1 n1 c1 A n c p) (hv0:0 ≤ p.ver) (hv1:p.ver ≤ 1099511627776) (clk ver:Int) (hclk:p.clk = clk) (hver:p.ver = ver) (a:Pl) (q:Int) (g:List Int) (ha:advP p now = a) (hq:advQ p now = q) (hg:advG p now = g) :
  Calls Tryz.prog 70 #[.agg #[.slice A1 n1 c1,.slice A n c,.int .i64 clk,.int .i64 ver],.int .i64 now] w (AdvTo a q g w):=by
 subst ha hq hg hclk hver
 exact padv_any A1 n1 c1 A n c p now w h hv0 hv1
def AppTo (a:Pl) (q:Int) (w:World) (e:Ending) (w':World):Prop:=
 ∃ A2 n2 c2 A3 n3 c3,e = .returned (.tuple #[.agg #[.slice A2 n2 c2,.slice A3 n3 c3,.int .i64 a.clk,.int .i64 a.ver],.int .i64 q]) ∧ PlOwn w' w.heap.size A2 n2 c2 A3 n3 c3 a ∧ Below w.heap.size w w'
theorem papp_to' (A1:Option Addr) (n1 c1:Nat) (A:Option Addr) (n c:Nat) (p:Pl) (d:Dr) (w:World) (hw0:(Lit.int .i64 d.op).wf = true) (hw1:(Lit.int .i64 d.kd).wf = true) (h:PlAt w A1 n1 c1 A n c p) (hr:p.right = true) (a:Pl) (q:Int) (ha:stepP p d = a) (hq:stepQ p d = q) (clk ver:Int) (hclk:p.clk = clk) (hver:p.ver = ver) :
  Calls Tryz.prog 65 #[.agg #[.slice A1 n1 c1,.slice A n c,.int .i64 clk,.int .i64 ver],.agg #[.int .i64 d.op,.int .i64 d.kd,.int .i64 d.id,.int .i64 d.fr,.int .i64 d.tn,.int .i64 d.st,.int .i64 d.en,.int .i64 d.rt,.int .i64 d.rf,.int .i64 d.rn,.int .i64 d.rs,.int .i64 d.re,.int .i64 d.ro]] w (AppTo a q w):=by
 subst ha hq hclk hver
 exact papply_any A1 n1 c1 A n c p d w hw0 hw1 h hr
end Go.Proofs.YtjldgcebadojiaaGreatDoor
namespace Go.Proofs.YtjldgcebadojiaaGreatDoor
open Go.Sort Go.RowKit
set_option linter.unusedSimpArgs false
set_option linter.unusedVariables false
section
variable {P:Program} {ops:Array Oper} {md:Region.Mode}
theorem count_all {V:Array Bool} (h:V.toList.count false = 0) (i:Nat):V.getD i true = true:=by
 cases hv:V.getD i true with
 | true => rfl
 | false =>
  have hlt:i < V.size:=by
   rcases Nat.lt_or_ge i V.size with h1 | h1
   ·exact h1
   ·simp [Array.getD,Nat.not_lt.2 h1] at hv
  have e:V[i] = false:=by simpa [Array.getD,hlt] using hv
  have hm:false ∈ V.toList:=by rw [← e]; simp
  have:=List.count_pos_iff.2 hm
  omega
theorem count_step {V:Array Bool} {i f:Nat} (h:V.toList.count false = f + 1) (hv:V.getD i true = false):(V.setIfInBounds i true).toList.count false = f:=by
 have hlt:i < V.size:=by
  rcases Nat.lt_or_ge i V.size with h1 | h1
  ·exact h1
  ·simp [Array.getD,Nat.not_lt.2 h1] at hv
 have e:V[i] = false:=by simpa [Array.getD,hlt] using hv
 have hl:i < V.toList.length:=by simpa using hlt
 have e2:V.toList[i] = false:=by simpa using e
 rw [Array.toList_setIfInBounds,List.count_set hl,e2,h]
 simp
def Afters (md:Region.Mode) (ops:Array Oper) (i:Nat) (V:Array Bool):Prop:=∀ o,ops[i]? = some o → ∀ e ∈ o.after,Region.binds md e = true → V.getD e.on false = true
def Closed (md:Region.Mode) (ops:Array Oper) (V:Array Bool):Prop:=∀ j o,ops[j]? = some o → V.getD j true = true → ∀ e ∈ o.after,Region.binds md e = true → V.getD e.on false = true
theorem getD_monof {V:Array Bool} {i j:Nat} (h:V.getD j false = true):(V.setIfInBounds i true).getD j false = true:=by
 by_cases e:i = j
 ·subst e
  have hs:i < V.size:=by
   rcases Nat.lt_or_ge i V.size with h1 | h1
   ·exact h1
   ·simp [Array.getD,Nat.not_lt.2 h1] at h
  simp [hs]
 ·rw [getD_set_ne false e]; exact h
theorem Closed.step {V:Array Bool} {i:Nat} (h:Closed md ops V) (ha:Afters md ops i V):Closed md ops (V.setIfInBounds i true):=by
 intro j o ho hj e he hb
 by_cases hij:i = j
 ·subst hij
  exact getD_monof (ha o ho e he hb)
 ·rw [getD_set_ne true hij] at hj
  exact getD_monof (h j o ho hj e he hb)
theorem Closed.none {n:Nat} (hn:n = ops.size):Closed md ops (Array.replicate n false):=by
 intro j o ho hj
 have hlt:j < ops.size:=(Array.getElem?_eq_some_iff.1 ho).1
 subst hn
 simp [hlt] at hj
theorem wpAny_facts {Q':Exit → Act → World → Prop} (hlex:lexOrd md ops = true) (I:Array Bool → Act → World → Prop)
  (hs:∀ i,i < ops.size → ∀ V a w,V.size = ops.size → V.getD i true = false → Afters md ops i V → Closed md ops V → I V a w → wpOp P ops Q' i (fun a' w' => I (V.setIfInBounds i true) a' w') a w)
  (he:∀ V a w,(∀ i,i < ops.size → V.getD i true = true) → I V a w → Q' .normal a w) :
  ∀ (f:Nat) (V:Array Bool) (a:Act) (w:World),V.size = ops.size → V.toList.count false = f → Closed md ops V → I V a w → wpAny P md ops Q' f V a w
 | 0,V,a,w,hsz,hc,_,hI => by
  refine ⟨List.eq_nil_iff_forall_not_mem.2 fun i hi => ?_,he V a w (fun i _ => count_all hc i) hI⟩
  have:=(mem_ready.1 hi).1
  rw [count_all hc i] at this
  cases this
 | f + 1,V,a,w,hsz,hc,hcl,hI => by
  refine ⟨fun h0 => he V a w (all_listed hlex h0 hsz) hI,fun i hi => ?_⟩
  obtain ⟨hun,o,ho,hall⟩:=mem_ready.1 hi
  have hlt:i < ops.size:=(Array.getElem?_eq_some_iff.1 ho).1
  have haf:Afters md ops i V:=fun o' ho' => by
   have:o' = o:=Option.some.inj (ho'.symm.trans ho)
   subst this
   exact hall
  exact wpOp_mono (fun a' w' h' => wpAny_facts hlex I hs he f _ a' w' (by simp [hsz]) (count_step hc hun) (hcl.step haf) h') (hs i hlt V a w hsz hun haf hcl hI)
theorem wp_region_facts {id:Nat} {Q':Exit → Act → World → Prop} {a:Act} {w:World} {l:List Oper} (hmo:P.follows .mixedOrders = true) (hlex:lexOrd .any l.toArray = true) (I:Array Bool → Act → World → Prop)
  (h0:I (Array.replicate l.length false) a w.drew)
  (hs:∀ i,i < l.length → ∀ V a w,V.size = l.length → V.getD i true = false → Afters .any l.toArray i V → Closed .any l.toArray V → I V a w → wpOp P l.toArray Q' i (fun a' w' => I (V.setIfInBounds i true) a' w') a w)
  (he:∀ V a w,(∀ i,i < l.length → V.getD i true = true) → I V a w → Q' .normal a w):(Code.region id l.toArray true).wp P Q' a w:=by
 refine wp_region_any hmo ?_
 have:=wpAny_facts (P:=P) (md:=.any) (ops:=l.toArray) (Q':=Q') hlex I (fun i hi V a w hsz => hs i (by simpa using hi) V a w (by simpa using hsz)) (fun V a w hall => he V a w (fun i hi => hall i (by simpa using hi))) l.length (Array.replicate l.length false) a w.drew (by simp) (by simp) (Closed.none (by simp)) h0
 exact this
end
end Go.Proofs.YtjldgcebadojiaaGreatDoor
namespace Go.Proofs.YtjldgcebadojiaaGreatDoor
open Go.Sort Go.RowKit
set_option linter.unusedSimpArgs false
set_option linter.unusedVariables false
section
variable {P:Program} {ops:Array Oper} {md:Region.Mode}
def putAll:Act → List (Option Tmp) → (Nat → Value) → Nat → Act
 | a,[],_,_ => a
 | a,d :: ds,x,k => putAll (a.put d (x k)) ds x (k + 1)
def upd (x:Nat → Value) (i:Nat) (v:Value):Nat → Value:=fun j => if j = i then v else x j
theorem upd_same (x:Nat → Value) (i:Nat) (v:Value):upd x i v i = v:=by simp [upd]
theorem upd_ne (x:Nat → Value) {i j:Nat} (v:Value) (h:j ≠ i):upd x i v j = x j:=by simp [upd,h]
def nodupB:List (Option Tmp) → Bool
 | [] => true
 | d :: ds => (d.isNone || !ds.contains d) && nodupB ds
theorem putAll_congr {x y:Nat → Value}:∀ (ds:List (Option Tmp)) (a:Act) (k:Nat),(∀ j,k ≤ j → x j = y j) → putAll a ds x k = putAll a ds y k
 | [],_,_,_ => rfl
 | d :: ds,a,k,h => by
  rw [putAll,putAll,h k (Nat.le_refl _)]
  exact putAll_congr ds _ (k + 1) (fun j hj => h j (by omega))
theorem putAll_last {x:Nat → Value} {d:Option Tmp} {v:Value}:∀ (ds:List (Option Tmp)) (a:Act) (k:Nat),(∀ e,d = some e → some e ∉ ds) → (putAll a ds x k).put d v = putAll (a.put d v) ds x k
 | [],_,_,_ => rfl
 | d' :: ds,a,k,h => by
  rw [putAll,putAll,putAll_last ds _ (k + 1) (fun e he hm => h e he (List.mem_cons_of_mem _ hm)),Act.put_comm a (x k) v (fun e he hd => h e hd (by rw [he]; simp))]
theorem put_put (a:Act) (d:Option Tmp) (v u:Value):(a.put d v).put d u = a.put d u:=by
 cases d with
 | none => rfl
 | some d => simp [Act.put]
theorem putAll_put {x:Nat → Value} {v:Value}:∀ (ds:List (Option Tmp)) (a:Act) (k i:Nat) (d:Option Tmp),nodupB ds = true → ds[i]? = some d → (putAll a ds x k).put d v = putAll a ds (upd x (k + i) v) k
 | [],_,_,_,_,_,h => by simp at h
 | d' :: ds,a,k,0,d,hn,h => by
  have hd:d' = d:=by simpa using h
  subst hd
  rw [putAll,putAll,putAll_last ds _ (k + 1) (fun e he => by
   simp only [nodupB,Bool.and_eq_true,Bool.or_eq_true] at hn
   rcases hn.1 with h1 | h1
   ·rw [he] at h1; cases h1
   ·simpa [he] using h1),put_put,show upd x (k + 0) v k = v from upd_same x k v]
  exact putAll_congr ds _ (k + 1) (fun j hj => (upd_ne x v (by omega)).symm)
 | d' :: ds,a,k,i + 1,d,hn,h => by
  simp only [nodupB,Bool.and_eq_true] at hn
  rw [putAll,putAll,putAll_put ds _ (k + 1) i d hn.2 (by simpa using h),show k + 1 + i = k + (i + 1) by omega,upd_ne x v (by omega)]
theorem putAll_self (a:Act):∀ (ds:List (Option Tmp)) (x:Nat → Value) (k:Nat),(∀ j e,ds[j]? = some (some e) → x (k + j) = a.tmps.getD e undef) → a = putAll a ds x k
 | [],_,_,_ => rfl
 | d :: ds,x,k,h => by
  have e:a.put d (x k) = a:=by
   cases d with
   | none => rfl
   | some e =>
    have:=h 0 e rfl
    rw [Nat.add_zero] at this
    rw [this]
    have h2:a.tmps.setIfInBounds e (a.tmps.getD e undef) = a.tmps:=by
     apply Array.ext_getElem?
     intro j
     by_cases hj:j = e
     ·subst hj
      by_cases hs:j < a.tmps.size
      ·simp [hs]
      ·simp [hs]
     ·rw [Array.getElem?_setIfInBounds_ne (Ne.symm hj)]
    show ({ a with tmps:=a.tmps.setIfInBounds e (a.tmps.getD e undef) }:Act) = a
    rw [h2]
  rw [putAll,e]
  exact putAll_self a ds x (k + 1) (fun j e' hj => by rw [show k + 1 + j = k + (j + 1) by omega]; exact h (j + 1) e' (by simpa using hj))
theorem wp_region_frames {id:Nat} {Q':Exit → Act → World → Prop} {a:Act} {w:World} {l:List Oper} (hmo:P.follows .mixedOrders = true) (hlex:lexOrd .any l.toArray = true) (hnd:nodupB (l.map (·.dst)) = true) (F:Array Bool → (Nat → Value) → World → Prop)
  (h0:∀ x,F (Array.replicate l.length false) x w.drew)
  (hs:∀ V x b w',b = putAll a (l.map (·.dst)) x 0 → V.size = l.length → F V x w' → ∀ i,i < l.length → V.getD i true = false → Afters .any l.toArray i V → Closed .any l.toArray V →
   wpOp P l.toArray Q' i (fun b' w'' => ∃ o v,l[i]? = some o ∧ b' = b.put o.dst v ∧ F (V.setIfInBounds i true) (upd x i v) w'') b w')
  (he:∀ V x w',(∀ i,i < l.length → V.getD i true = true) → F V x w' → Q' .normal (putAll a (l.map (·.dst)) x 0) w'):(Code.region id l.toArray true).wp P Q' a w:=by
 refine wp_region_facts hmo hlex (fun V b w' => ∃ x,b = putAll a (l.map (·.dst)) x 0 ∧ F V x w') ?_ ?_ ?_
 ·refine ⟨fun k => match (l.map (·.dst))[k]? with | some (some e) => a.tmps.getD e undef | _ => undef,?_,h0 _⟩
  exact putAll_self a _ _ 0 (fun j e hj => by simp only [Nat.zero_add,hj])
 ·rintro i hi V b w' hsz hun haf hcl ⟨x,hb,hF⟩
  refine wpOp_mono ?_ (hs V x b w' hb hsz hF i hi hun haf hcl)
  rintro b' w'' ⟨o,v,ho,rfl,hF'⟩
  refine ⟨upd x i v,?_,hF'⟩
  rw [hb,putAll_put _ a 0 i o.dst hnd (by simp [ho]),Nat.zero_add]
 ·rintro V b w' hall ⟨x,rfl,hF⟩
  exact he V x w' hall hF
end
end Go.Proofs.YtjldgcebadojiaaGreatDoor
namespace Go.Proofs.YtjldgcebadojiaaGreatDoor
open Go.Sort Go.RowKit
set_option linter.unusedSimpArgs false
set_option linter.unusedVariables false
theorem getD_ft {V:Array Bool} {i:Nat} (h:V.getD i false = true):V.getD i true = true:=by
 unfold Array.getD at *
 split <;> simp_all
theorem gen_frame {P:Program} {c:Code} {Q:Exit → Act → World → Prop} {a:Act} {w:World} (h:∀ a0,a0 = a → Code.wp P c Q a0 w):Code.wp P c Q a w:=h a rfl
theorem eval_out {x:Nat → Value} {e:Tmp}:∀ (ds:List (Option Tmp)) (a:Act) (k:Nat),ds.contains (some e) = false → (putAll a ds x k).eval (.tmp e) = a.eval (.tmp e)
 | [],_,_,_ => rfl
 | d :: ds,a,k,h => by
  simp only [List.contains_cons,Bool.or_eq_false_iff] at h
  rw [putAll,eval_out ds _ (k + 1) h.2]
  have hne:d ≠ some e:=fun he => by rw [he] at h; simp at h
  have:=put_tmps a d (x k) e hne
  simp only [Act.eval,Array.getD_eq_getD_getElem?,this]
theorem eval_in {x:Nat → Value} {e:Tmp}:∀ (ds:List (Option Tmp)) (a:Act) (k i:Nat),nodupB ds = true → ds[i]? = some (some e) → e < a.tmps.size → (putAll a ds x k).eval (.tmp e) = x (k + i)
 | [],_,_,_,_,h,_ => by simp at h
 | d :: ds,a,k,0,hn,h,hs => by
  have hd:d = some e:=by simpa using h
  subst hd
  simp only [nodupB,Bool.and_eq_true,Bool.or_eq_true] at hn
  have hc:ds.contains (some e) = false:=by
   rcases hn.1 with h1 | h1
   ·cases h1
   ·simpa using h1
  rw [putAll,eval_out ds _ (k + 1) hc]
  simp [Act.eval,Act.put,Array.getD_eq_getD_getElem?,hs]
 | d :: ds,a,k,i + 1,hn,h,hs => by
  simp only [nodupB,Bool.and_eq_true] at hn
  rw [putAll,eval_in ds _ (k + 1) i hn.2 (by simpa using h) (by rw [put_size]; exact hs),show k + 1 + i = k + (i + 1) by omega]
end Go.Proofs.YtjldgcebadojiaaGreatDoor
namespace Go.Proofs.YtjldgcebadojiaaGreatDoor
open Go.ChangeShapes Go.WideShapes Go.ChangeAt Go.RowKit Go.Sort
set_option linter.unusedSimpArgs false
set_option linter.unusedVariables false
structure AdvLen (x y:Pl) (g:List Int):Prop where
 len:y.cs.length + g.length = x.cs.length
theorem adv_len (p:Pl) (now:Int):AdvLen p (advP p now) (advG p now):=by
 constructor
 unfold advP advG
 split
 ·show (Kc.leftC p.cs now).length + _ = _
  rw [sortI_len]
  exact leftC_gone p.cs now
 ·simp
theorem adv_right {p:Pl} {now:Int} (h:p.right = true):(advP p now).right = true:=Pl.right_spec.2 (advP_right (Pl.right_spec.1 h))
theorem adv_same {p:Pl} {now:Int} (hq:advQ p now ≠ 0):advP p now = p:=by
 have hin:¬ inB now p.clk 2147483647 = true:=fun hi => hq (by unfold advQ; rw [if_pos hi])
 unfold advP
 rw [if_neg hin]
end Go.Proofs.YtjldgcebadojiaaGreatDoor
