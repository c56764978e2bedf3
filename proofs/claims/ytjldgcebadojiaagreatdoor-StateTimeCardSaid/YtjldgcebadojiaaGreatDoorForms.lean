/- The forms of directives (package direct): the map that direct.forms makes. It makes new memory alone. -/
import Derived.Test.YtjldgcebadojiaaGreatDoorGQ8
import Derived.Test.YtjldgcebadojiaaGreatDoorGQ9
import Derived.DeepKeys4
namespace Go.Proofs.YtjldgcebadojiaaGreatDoor
open Go.ChangeShapes Go.WideShapes Go.ChangeAt Go.RowKit Go.Sort
set_option linter.unusedSimpArgs false
set_option linter.unusedVariables false
open Go.Maps (Keyed)
set_option maxRecDepth 100000
def keyD (a b:Int):Lit:=.string (keyBytes [.int .i64 a,.int .i64 b])
theorem keyD_is (a b:Int):WideAt.IsKeyLit (keyD a b):=trivial
theorem keyOf_pair {P:Program} {k:TypeId} {f0 f1:Field} {a b:Int} (hk:P.underlying k = some (.struct #[f0,f1])) (hkt:P.keyType k = true) (hc:P.cellsOf k = 2) (hf:(f0.offset == 0 && P.cellsOf f0.type == 1 && f1.offset == 1 && P.cellsOf f1.type == 1) = true) (hu0:P.underlying f0.type = some (.int .i64)) (hu1:P.underlying f1.type = some (.int .i64))
  (hn : (#[f0, f1].all (·.name != "_")) = true) (hs : 0 < P.types.size) (ha : (Lit.int .i64 a).wf = true) (hb : (Lit.int .i64 b).wf = true) : keyOf P k (.agg #[.int .i64 a, .int .i64 b]) = some (keyD a b) := by
 simp only [Bool.and_eq_true,beq_iff_eq] at hf
 obtain ⟨⟨⟨o0,c0⟩,o1⟩,c1⟩:=hf
 obtain ⟨m,hm⟩:∃ m,P.types.size = m + 1:=⟨P.types.size - 1,by omega⟩
 have h2:(Value.agg #[.int .i64 a,.int .i64 b]).formed P k = true:=by simp [Value.formed,hk,hc]
 have e0:P.keyLits (m + 1) f0.type [.int .i64 a] = some [.int .i64 a]:=by simp [Program.keyLits,hu0,ha]
 have e1:P.keyLits (m + 1) f1.type [.int .i64 b] = some [.int .i64 b]:=by simp [Program.keyLits,hu1,hb]
 have h3:P.keyLits (P.types.size + 1) k [.int .i64 a,.int .i64 b] = some [.int .i64 a,.int .i64 b]:=by
  rw [hm]
  have hu : P.keyLits (m + 1 + 1) k [.int .i64 a, .int .i64 b] = if [Value.int .i64 a, .int .i64 b].length = P.cellsOf k ∧ (#[f0, f1].all (·.name != "_")) = true then (#[f0, f1].toList.mapM fun f => P.keyLits (m + 1) f.type (([Value.int .i64 a, .int .i64 b].drop f.offset).take (P.cellsOf f.type))).map List.flatten else none := by
   conv => lhs; unfold Program.keyLits
   rw [hk]
  rw [hu,if_pos ⟨by rw [hc]; rfl,hn⟩]
  simp only [List.mapM_cons,List.mapM_nil,o0,c0,o1,c1,List.drop_zero,List.take_succ_cons,List.take_zero,List.drop_succ_cons,e0,e1]
  rfl
 unfold keyOf
 rw [hk]
 simp only [hkt,h2,Bool.and_self,if_true]
 show Option.map _ (P.keyLits _ _ [.int .i64 a,.int .i64 b]) = _
 rw [h3]
 rfl
theorem keyOfD {a b:Int} (ha:(Lit.int .i64 a).wf = true) (hb:(Lit.int .i64 b).wf = true):keyOf Tryz.prog 131 (.agg #[.int .i64 a,.int .i64 b]) = some (keyD a b):=
 keyOf_pair Tryz.underlying131 (by kernel_rfl) (by kernel_rfl) (by kernel_rfl) Tryz.underlying3 Tryz.underlying3 (by kernel_rfl) (by decide +kernel) ha hb
theorem lawD:WideMaps.KeyLaw Tryz.prog 131:=deep_law_laid (by kernel_rfl) (m:=3) (by omega) (by decide +kernel) (by kernel_rfl) (by simp only [Tryz.underlying131])
theorem keyedD:Keyed Tryz.prog 131:=Keyed.of_law lawD
theorem keyD_inj {a b a' b':Int} (ha:(Lit.int .i64 a).wf = true) (hb:(Lit.int .i64 b).wf = true) (ha':(Lit.int .i64 a').wf = true) (hb':(Lit.int .i64 b').wf = true) (h:keyD a b = keyD a' b'):a = a' ∧ b = b':=by
 have h1:=keyedD.inj (keyOfD ha hb) (by rw [h]; exact keyOfD ha' hb')
 injection h1 with h1
 injection h1 with h1
 injection h1 with h2 h3
 injection h3 with h3
 injection h2 with _ h2
 injection h3 with _ h3
 exact ⟨h2,h3⟩
theorem makeMap_step {P:Program} {ops:Array Oper} {Q:Exit → Act → World → Prop} {i:Nat} {o:Oper} {K:Act → World → Prop} {a:Act} {w:World} (ho:ops[i]? = some o) (hg:o.guard = none) (t:TypeId) (hop:o.op = Op.makeMap t none) (k e:TypeId) (ht:P.underlying t = some (.map k e))
  (hK:K (a.put o.dst (.map (some w.heap.size))) (w.alloc (.map #[] 0))):wpOp P ops Q i K a w:=by
 have hrun:(Instr.makeMap t none).run P w = .ok (.map (some w.heap.size)) (w.alloc (.map #[] 0)):=by
  simp [Instr.makeMap,run_underlying ht]
 unfold wpOp
 simp only [ho]
 rw [if_pos (by unfold Region.wanted; rw [hg])]
 refine .inl ?_
 unfold Oper.wp
 simp [execOp,hop,hrun,Result.andThen,Oper.upon]
 exact hK
theorem wpList_move {P:Program} {ops:Array Oper} {rest:List Oper} {o:Oper} {a:Act} {w:World} {Q:Exit → Act → World → Prop} (hg:o.guard = none) (x:Operand) (hop:o.op = Op.move x) (hK:wpList P ops Q rest (a.put o.dst (a.eval x)) w):wpList P ops Q (o :: rest) a w:=by
 refine wpList_plain hg fun K' hK' => ?_
 unfold Oper.wp
 simp [execOp,hop]
 exact hK' _ _ hK
theorem wpList_assign {P:Program} {ops:Array Oper} {rest:List Oper} {o:Oper} {a:Act} {w:World} {Q:Exit → Act → World → Prop} (hg:o.guard = none) (x:Operand) (hop:o.op = Op.assign x) (hK:wpList P ops Q rest (a.put o.dst (a.eval x)) w):wpList P ops Q (o :: rest) a w:=by
 refine wpList_plain hg fun K' hK' => ?_
 unfold Oper.wp
 simp [execOp,hop]
 exact hK' _ _ hK
theorem wpList_end {P:Program} {ops:Array Oper} {a:Act} {w:World} {Q:Exit → Act → World → Prop} (h:Q .normal a w):wpList P ops Q [] a w:=h
def fnV (f:FuncId):Value:=.func (.func f) #[] #[]
def formOf (f g h:FuncId):Value:=.agg #[fnV f,fnV g,fnV h]
/-- The form of what is done, to what. -/
def formV (a b:Int):Option Value:=
 if a = 1 ∧ b = 1 then some (formOf 157 158 159)
 else if a = 2 ∧ b = 1 then some (formOf 160 161 162)
 else if a = 3 ∧ b = 1 then some (formOf 164 165 166)
 else if a = 1 ∧ b = 2 then some (formOf 167 168 169)
 else if a = 2 ∧ b = 2 then some (formOf 170 171 172)
 else if a = 3 ∧ b = 2 then some (formOf 174 175 176)
 else none
def fkey:Nat → Int × Int
 | 0 => (1,1)
 | 1 => (2,1)
 | 2 => (3,1)
 | 3 => (1,2)
 | 4 => (2,2)
 | _ => (3,2)
def fval:Nat → Value
 | 0 => formOf 157 158 159
 | 1 => formOf 160 161 162
 | 2 => formOf 164 165 166
 | 3 => formOf 167 168 169
 | 4 => formOf 170 171 172
 | _ => formOf 174 175 176
def fK (i:Nat):Lit:=keyD (fkey i).1 (fkey i).2
theorem fkey_wf:∀ i,i < 6 → (Lit.int .i64 (fkey i).1).wf = true ∧ (Lit.int .i64 (fkey i).2).wf = true:=by
 intro i hi
 match i,hi with
 | 0,_ | 1,_ | 2,_ | 3,_ | 4,_ | 5,_ => exact ⟨by decide,by decide⟩
theorem fkey_inj:∀ i j,i < 6 → j < 6 → (fkey i).1 = (fkey j).1 → (fkey i).2 = (fkey j).2 → i = j:=by
 intro i j hi hj
 match i,j,hi,hj with
 | 0,0,_,_ => exact fun _ _ => rfl
 | 0,1,_,_ => intro h1 h2; exact absurd (And.intro h1 h2) (by decide)
 | 0,2,_,_ => intro h1 h2; exact absurd (And.intro h1 h2) (by decide)
 | 0,3,_,_ => intro h1 h2; exact absurd (And.intro h1 h2) (by decide)
 | 0,4,_,_ => intro h1 h2; exact absurd (And.intro h1 h2) (by decide)
 | 0,5,_,_ => intro h1 h2; exact absurd (And.intro h1 h2) (by decide)
 | 1,0,_,_ => intro h1 h2; exact absurd (And.intro h1 h2) (by decide)
 | 1,1,_,_ => exact fun _ _ => rfl
 | 1,2,_,_ => intro h1 h2; exact absurd (And.intro h1 h2) (by decide)
 | 1,3,_,_ => intro h1 h2; exact absurd (And.intro h1 h2) (by decide)
 | 1,4,_,_ => intro h1 h2; exact absurd (And.intro h1 h2) (by decide)
 | 1,5,_,_ => intro h1 h2; exact absurd (And.intro h1 h2) (by decide)
 | 2,0,_,_ => intro h1 h2; exact absurd (And.intro h1 h2) (by decide)
 | 2,1,_,_ => intro h1 h2; exact absurd (And.intro h1 h2) (by decide)
 | 2,2,_,_ => exact fun _ _ => rfl
 | 2,3,_,_ => intro h1 h2; exact absurd (And.intro h1 h2) (by decide)
 | 2,4,_,_ => intro h1 h2; exact absurd (And.intro h1 h2) (by decide)
 | 2,5,_,_ => intro h1 h2; exact absurd (And.intro h1 h2) (by decide)
 | 3,0,_,_ => intro h1 h2; exact absurd (And.intro h1 h2) (by decide)
 | 3,1,_,_ => intro h1 h2; exact absurd (And.intro h1 h2) (by decide)
 | 3,2,_,_ => intro h1 h2; exact absurd (And.intro h1 h2) (by decide)
 | 3,3,_,_ => exact fun _ _ => rfl
 | 3,4,_,_ => intro h1 h2; exact absurd (And.intro h1 h2) (by decide)
 | 3,5,_,_ => intro h1 h2; exact absurd (And.intro h1 h2) (by decide)
 | 4,0,_,_ => intro h1 h2; exact absurd (And.intro h1 h2) (by decide)
 | 4,1,_,_ => intro h1 h2; exact absurd (And.intro h1 h2) (by decide)
 | 4,2,_,_ => intro h1 h2; exact absurd (And.intro h1 h2) (by decide)
 | 4,3,_,_ => intro h1 h2; exact absurd (And.intro h1 h2) (by decide)
 | 4,4,_,_ => exact fun _ _ => rfl
 | 4,5,_,_ => intro h1 h2; exact absurd (And.intro h1 h2) (by decide)
 | 5,0,_,_ => intro h1 h2; exact absurd (And.intro h1 h2) (by decide)
 | 5,1,_,_ => intro h1 h2; exact absurd (And.intro h1 h2) (by decide)
 | 5,2,_,_ => intro h1 h2; exact absurd (And.intro h1 h2) (by decide)
 | 5,3,_,_ => intro h1 h2; exact absurd (And.intro h1 h2) (by decide)
 | 5,4,_,_ => intro h1 h2; exact absurd (And.intro h1 h2) (by decide)
 | 5,5,_,_ => exact fun _ _ => rfl
theorem fK_inj {i j:Nat} (hi:i < 6) (hj:j < 6) (h:fK i = fK j):i = j:=by
 obtain ⟨a1,a2⟩:=fkey_wf i hi
 obtain ⟨b1,b2⟩:=fkey_wf j hj
 obtain ⟨e1,e2⟩:=keyD_inj a1 a2 b1 b2 h
 exact fkey_inj i j hi hj e1 e2
/-- S holds the forms of the mask, and no other. -/
def IsS (m:Nat → Bool) (S:Lit → Option Value):Prop:=(∀ i,i < 6 → m i = true → S (fK i) = some (fval i)) ∧ ∀ kl,(∀ i,i < 6 → m i = true → kl ≠ fK i) → S kl = none
theorem IsS.put {m m':Nat → Bool} {S:Lit → Option Value} {j:Nat} (hj:j < 6) (h:IsS m S) (hm:∀ i,i < 6 → m' i = (decide (i = j) || m i)):IsS m' (setS S (fK j) (fval j)):=by
 refine ⟨fun i hi h1 => ?_,fun kl hk => ?_⟩
 ·by_cases e:i = j
  ·subst e; exact setS_same _ _ _
  ·rw [setS_other _ _ (fun h2 => e (fK_inj hi hj h2))]
   rw [hm i hi] at h1
   simp [e] at h1
   exact h.1 i hi h1
 ·rw [setS_other _ _ (hk j hj (by rw [hm j hj]; simp))]
  exact h.2 kl fun i hi h1 => hk i hi (by rw [hm i hi,h1]; simp)
theorem formS_at {S:Lit → Option Value} (h:IsS (fun _ => true) S) {a b:Int} (ha:(Lit.int .i64 a).wf = true) (hb:(Lit.int .i64 b).wf = true):S (keyD a b) = formV a b:=by
 by_cases hc:∃ i,i < 6 ∧ a = (fkey i).1 ∧ b = (fkey i).2
 ·obtain ⟨i,hi,rfl,rfl⟩:=hc
  rw [show S (keyD (fkey i).1 (fkey i).2) = some (fval i) from h.1 i hi rfl]
  match i,hi with
  | 0,_ | 1,_ | 2,_ | 3,_ | 4,_ | 5,_ => rfl
 ·rw [h.2 _ fun i hi _ e => hc ⟨i,hi,keyD_inj ha hb (fkey_wf i hi).1 (fkey_wf i hi).2 e⟩]
  have k (i:Nat) (hi:i < 6):¬ (a = (fkey i).1 ∧ b = (fkey i).2):=fun e => hc ⟨i,hi,e⟩
  have k0:¬ (a = 1 ∧ b = 1):=k 0 (by omega)
  have k1:¬ (a = 2 ∧ b = 1):=k 1 (by omega)
  have k2:¬ (a = 3 ∧ b = 1):=k 2 (by omega)
  have k3:¬ (a = 1 ∧ b = 2):=k 3 (by omega)
  have k4:¬ (a = 2 ∧ b = 2):=k 4 (by omega)
  have k5:¬ (a = 3 ∧ b = 2):=k 5 (by omega)
  unfold formV
  rw [if_neg k0,if_neg k1,if_neg k2,if_neg k3,if_neg k4,if_neg k5]
def mask (m0 m1 m2 m3 m4 m5:Bool):Nat → Bool
 | 0 => m0
 | 1 => m1
 | 2 => m2
 | 3 => m3
 | 4 => m4
 | _ => m5
def Lm (m0 m1 m2 m3 m4 m5:Bool):Array Bool:=#[true,true,true,m0,true,true,m1,true,true,m2,true,true,m3,true,true,m4,true,true,m5,false,false]
def cnt (b:Bool):Nat:=if b = true then 0 else 1
def readyB (md:Region.Mode) (ops:Array Oper) (m0 m1 m2 m3 m4 m5:Bool):Bool:=
 !(Region.ready md ops (Lm m0 m1 m2 m3 m4 m5)).isEmpty && (Region.ready md ops (Lm m0 m1 m2 m3 m4 m5)).all fun i => (i == 3 && !m0) || (i == 6 && !m1) || (i == 9 && !m2) || (i == 12 && !m3) || (i == 15 && !m4) || (i == 18 && !m5) || (i == 19 && m0 && m1 && m2 && m3 && m4 && m5)
theorem wpAny_one {P:Program} {md:Region.Mode} {ops:Array Oper} {Q:Exit → Act → World → Prop} {f k:Nat} {listed:Array Bool} {a:Act} {w:World} (hr:Region.ready md ops listed = [k]) (h:wpOp P ops Q k (wpAny P md ops Q f (listed.setIfInBounds k true)) a w):wpAny P md ops Q (f + 1) listed a w:=by
 refine ⟨fun h0 => (by rw [hr] at h0; cases h0),fun i hi => ?_⟩
 rw [hr] at hi
 have:i = k:=by simpa using hi
 subst this
 exact h
theorem insert_step {ops:Array Oper} {Q:Exit → Act → World → Prop} {i x y j b n:Nat} {o:Oper} {K:Act → World → Prop} {a:Act} {w:World} {S:Lit → Option Value} (ho:ops[i]? = some o) (hg:o.guard = none) (hd:o.dst = none) (hop:o.op = .insert 128 (.tmp 1) (.tmp x) (.tmp y))
  (hm:a.eval (.tmp 1) = .map (some b)) (hx:a.eval (.tmp x) = .agg #[.int .i64 (fkey j).1,.int .i64 (fkey j).2]) (hy:a.eval (.tmp y) = fval j) (hj:j < 6) (hn:n < 100) (hM:MapV w 131 b n S)
  (hK:∀ w',MapV w' 131 b (n + 1) (setS S (fK j) (fval j)) → w.grownBy w' (some b) → K a w'):wpOp Tryz.prog ops Q i K a w:=by
 obtain ⟨k1,k2⟩:=fkey_wf j hj
 obtain ⟨w',hrun,h1,h2⟩:=hM.put keyedD Tryz.underlying128 (by unfold maxLen; omega) (keyOfD k1 k2) (keyD_is _ _) (fval j)
 have hk:=hK w' h1 h2
 unfold wpOp
 simp only [ho]
 rw [if_pos (by unfold Region.wanted; rw [hg])]
 refine .inl ?_
 unfold Oper.wp
 simp [execOp,hop,hm,hx,hy,hrun,Result.andThen,Oper.upon,hd,Act.put]
 exact hk
theorem six_inserts {ops:Array Oper} {Q:Exit → Act → World → Prop} {b:Nat} {a:Act} {w0:World} {o0 o1 o2 o3 o4 o5:Oper} (hr:∀ m0 m1 m2 m3 m4 m5,readyB .any ops m0 m1 m2 m3 m4 m5 = true)
  (ho0:ops[3]? = some o0) (ho1:ops[6]? = some o1) (ho2:ops[9]? = some o2) (ho3:ops[12]? = some o3) (ho4:ops[15]? = some o4) (ho5:ops[18]? = some o5)
  (hg0:o0.guard = none) (hg1:o1.guard = none) (hg2:o2.guard = none) (hg3:o3.guard = none) (hg4:o4.guard = none) (hg5:o5.guard = none) (hd0:o0.dst = none) (hd1:o1.dst = none) (hd2:o2.dst = none) (hd3:o3.dst = none) (hd4:o4.dst = none) (hd5:o5.dst = none)
  (hop0:o0.op = .insert 128 (.tmp 1) (.tmp 2) (.tmp 3)) (hop1:o1.op = .insert 128 (.tmp 1) (.tmp 4) (.tmp 5)) (hop2:o2.op = .insert 128 (.tmp 1) (.tmp 6) (.tmp 7)) (hop3:o3.op = .insert 128 (.tmp 1) (.tmp 8) (.tmp 9)) (hop4:o4.op = .insert 128 (.tmp 1) (.tmp 10) (.tmp 11)) (hop5:o5.op = .insert 128 (.tmp 1) (.tmp 12) (.tmp 13))
  (hm:a.eval (.tmp 1) = .map (some b)) (hx0:a.eval (.tmp 2) = .agg #[.int .i64 (fkey 0).1,.int .i64 (fkey 0).2]) (hy0:a.eval (.tmp 3) = fval 0) (hx1:a.eval (.tmp 4) = .agg #[.int .i64 (fkey 1).1,.int .i64 (fkey 1).2]) (hy1:a.eval (.tmp 5) = fval 1) (hx2:a.eval (.tmp 6) = .agg #[.int .i64 (fkey 2).1,.int .i64 (fkey 2).2]) (hy2:a.eval (.tmp 7) = fval 2) (hx3:a.eval (.tmp 8) = .agg #[.int .i64 (fkey 3).1,.int .i64 (fkey 3).2]) (hy3:a.eval (.tmp 9) = fval 3) (hx4:a.eval (.tmp 10) = .agg #[.int .i64 (fkey 4).1,.int .i64 (fkey 4).2]) (hy4:a.eval (.tmp 11) = fval 4) (hx5:a.eval (.tmp 12) = .agg #[.int .i64 (fkey 5).1,.int .i64 (fkey 5).2]) (hy5:a.eval (.tmp 13) = fval 5)
  (hQ:∀ w' S n,MapV w' 131 b n S → IsS (fun _ => true) S → w0.grownBy w' (some b) → wpAny Tryz.prog .any ops Q 2 (Lm true true true true true true) a w') :
  ∀ (f:Nat) (m0 m1 m2 m3 m4 m5:Bool) (n:Nat) (S:Lit → Option Value) (w:World),cnt m0 + cnt m1 + cnt m2 + cnt m3 + cnt m4 + cnt m5 = f → n + f = 6 → MapV w 131 b n S → IsS (mask m0 m1 m2 m3 m4 m5) S → w0.grownBy w (some b) → wpAny Tryz.prog .any ops Q (f + 2) (Lm m0 m1 m2 m3 m4 m5) a w:=by
 intro f
 induction f with
 | zero =>
  intro m0 m1 m2 m3 m4 m5 n S w hc hn hM hS hG
  have e (b:Bool) (h:cnt b = 0):b = true:=by cases b <;> simp [cnt] at h ⊢
  obtain rfl:=e m0 (by omega)
  obtain rfl:=e m1 (by omega)
  obtain rfl:=e m2 (by omega)
  obtain rfl:=e m3 (by omega)
  obtain rfl:=e m4 (by omega)
  obtain rfl:=e m5 (by omega)
  refine hQ w S n hM ⟨fun i hi _ => hS.1 i hi ?_,fun kl hk => hS.2 kl fun i hi _ => hk i hi rfl⟩ hG
  match i,hi with
  | 0,_ | 1,_ | 2,_ | 3,_ | 4,_ | 5,_ => rfl
 | succ f ih =>
  intro m0 m1 m2 m3 m4 m5 n S w hc hn hM hS hG
  have h1:=hr m0 m1 m2 m3 m4 m5
  unfold readyB at h1
  rw [Bool.and_eq_true] at h1
  obtain ⟨hne,hall⟩:=h1
  refine ⟨fun h0 => (by rw [h0] at hne; cases hne),fun i hi => ?_⟩
  have h2:=List.all_eq_true.1 hall i hi
  simp only [Bool.or_eq_true,Bool.and_eq_true,beq_iff_eq,Bool.not_eq_true'] at h2
  rcases h2 with (((((⟨rfl,rfl⟩ | ⟨rfl,rfl⟩) | ⟨rfl,rfl⟩) | ⟨rfl,rfl⟩) | ⟨rfl,rfl⟩) | ⟨rfl,rfl⟩) | ⟨⟨⟨⟨⟨⟨rfl,rfl⟩,rfl⟩,rfl⟩,rfl⟩,rfl⟩,rfl⟩
  ·refine insert_step (j:=0) ho0 hg0 hd0 hop0 hm hx0 hy0 (by omega) (by omega) hM fun w' hM' hg' => ?_
   refine ih true m1 m2 m3 m4 m5 (n + 1) _ w' (by simp [cnt] at hc ⊢; omega) (by omega) hM' (hS.put (by omega) fun i hi => ?_) (grown_trans hG hg')
   match i,hi with
   | 0,_ | 1,_ | 2,_ | 3,_ | 4,_ | 5,_ => simp [mask]
  ·refine insert_step (j:=1) ho1 hg1 hd1 hop1 hm hx1 hy1 (by omega) (by omega) hM fun w' hM' hg' => ?_
   refine ih m0 true m2 m3 m4 m5 (n + 1) _ w' (by simp [cnt] at hc ⊢; omega) (by omega) hM' (hS.put (by omega) fun i hi => ?_) (grown_trans hG hg')
   match i,hi with
   | 0,_ | 1,_ | 2,_ | 3,_ | 4,_ | 5,_ => simp [mask]
  ·refine insert_step (j:=2) ho2 hg2 hd2 hop2 hm hx2 hy2 (by omega) (by omega) hM fun w' hM' hg' => ?_
   refine ih m0 m1 true m3 m4 m5 (n + 1) _ w' (by simp [cnt] at hc ⊢; omega) (by omega) hM' (hS.put (by omega) fun i hi => ?_) (grown_trans hG hg')
   match i,hi with
   | 0,_ | 1,_ | 2,_ | 3,_ | 4,_ | 5,_ => simp [mask]
  ·refine insert_step (j:=3) ho3 hg3 hd3 hop3 hm hx3 hy3 (by omega) (by omega) hM fun w' hM' hg' => ?_
   refine ih m0 m1 m2 true m4 m5 (n + 1) _ w' (by simp [cnt] at hc ⊢; omega) (by omega) hM' (hS.put (by omega) fun i hi => ?_) (grown_trans hG hg')
   match i,hi with
   | 0,_ | 1,_ | 2,_ | 3,_ | 4,_ | 5,_ => simp [mask]
  ·refine insert_step (j:=4) ho4 hg4 hd4 hop4 hm hx4 hy4 (by omega) (by omega) hM fun w' hM' hg' => ?_
   refine ih m0 m1 m2 m3 true m5 (n + 1) _ w' (by simp [cnt] at hc ⊢; omega) (by omega) hM' (hS.put (by omega) fun i hi => ?_) (grown_trans hG hg')
   match i,hi with
   | 0,_ | 1,_ | 2,_ | 3,_ | 4,_ | 5,_ => simp [mask]
  ·refine insert_step (j:=5) ho5 hg5 hd5 hop5 hm hx5 hy5 (by omega) (by omega) hM fun w' hM' hg' => ?_
   refine ih m0 m1 m2 m3 m4 true (n + 1) _ w' (by simp [cnt] at hc ⊢; omega) (by omega) hM' (hS.put (by omega) fun i hi => ?_) (grown_trans hG hg')
   match i,hi with
   | 0,_ | 1,_ | 2,_ | 3,_ | 4,_ | 5,_ => simp [mask]
  ·simp [cnt] at hc
set_option maxHeartbeats 4000000 in
theorem forms_any (w:World):Calls Tryz.prog 109 #[] w fun e w' => ∃ b n S,e = .returned (.map (some b)) ∧ w.heap.size ≤ b ∧ MapV w' 131 b n S ∧ IsS (fun _ => true) S ∧ Below w.heap.size w w':=by
 go_enter Tryz.func109,Tryz.ntmps109
 go_wp2_with fail
 try simp only [List.append]
 refine wp_region_any (by kernel_rfl) ?_
 have hBd:Below w.heap.size w w.drew:=(Below.refl _ _).drew
 have hsd:w.drew.heap.size = w.heap.size:=rfl
 change wpAny _ _ _ _ _ _ _ (World.drew w)
 generalize w.drew = wd at *
 refine wpAny_take (i:=1) (v:=?_) rfl (by kernel_rfl) (by kernel_rfl) (by kernel_rfl) (fun _ _ _ h => h) (Or.inl ⟨by rfl,?_⟩) ?_
 rotate_left
 ·(intro w; go_simp; try with_reducible rfl)
 refine wpAny_take (i:=2) (v:=?_) rfl (by kernel_rfl) (by kernel_rfl) (by kernel_rfl) (fun _ _ _ h => h) (Or.inl ⟨by rfl,?_⟩) ?_
 rotate_left
 ·(intro w; go_simp; try with_reducible rfl)
 refine wpAny_take (i:=4) (v:=?_) rfl (by kernel_rfl) (by kernel_rfl) (by kernel_rfl) (fun _ _ _ h => h) (Or.inl ⟨by rfl,?_⟩) ?_
 rotate_left
 ·(intro w; go_simp; try with_reducible rfl)
 refine wpAny_take (i:=5) (v:=?_) rfl (by kernel_rfl) (by kernel_rfl) (by kernel_rfl) (fun _ _ _ h => h) (Or.inl ⟨by rfl,?_⟩) ?_
 rotate_left
 ·(intro w; go_simp; try with_reducible rfl)
 refine wpAny_take (i:=7) (v:=?_) rfl (by kernel_rfl) (by kernel_rfl) (by kernel_rfl) (fun _ _ _ h => h) (Or.inl ⟨by rfl,?_⟩) ?_
 rotate_left
 ·(intro w; go_simp; try with_reducible rfl)
 refine wpAny_take (i:=8) (v:=?_) rfl (by kernel_rfl) (by kernel_rfl) (by kernel_rfl) (fun _ _ _ h => h) (Or.inl ⟨by rfl,?_⟩) ?_
 rotate_left
 ·(intro w; go_simp; try with_reducible rfl)
 refine wpAny_take (i:=10) (v:=?_) rfl (by kernel_rfl) (by kernel_rfl) (by kernel_rfl) (fun _ _ _ h => h) (Or.inl ⟨by rfl,?_⟩) ?_
 rotate_left
 ·(intro w; go_simp; try with_reducible rfl)
 refine wpAny_take (i:=11) (v:=?_) rfl (by kernel_rfl) (by kernel_rfl) (by kernel_rfl) (fun _ _ _ h => h) (Or.inl ⟨by rfl,?_⟩) ?_
 rotate_left
 ·(intro w; go_simp; try with_reducible rfl)
 refine wpAny_take (i:=13) (v:=?_) rfl (by kernel_rfl) (by kernel_rfl) (by kernel_rfl) (fun _ _ _ h => h) (Or.inl ⟨by rfl,?_⟩) ?_
 rotate_left
 ·(intro w; go_simp; try with_reducible rfl)
 refine wpAny_take (i:=14) (v:=?_) rfl (by kernel_rfl) (by kernel_rfl) (by kernel_rfl) (fun _ _ _ h => h) (Or.inl ⟨by rfl,?_⟩) ?_
 rotate_left
 ·(intro w; go_simp; try with_reducible rfl)
 refine wpAny_take (i:=16) (v:=?_) rfl (by kernel_rfl) (by kernel_rfl) (by kernel_rfl) (fun _ _ _ h => h) (Or.inl ⟨by rfl,?_⟩) ?_
 rotate_left
 ·(intro w; go_simp; try with_reducible rfl)
 refine wpAny_take (i:=17) (v:=?_) rfl (by kernel_rfl) (by kernel_rfl) (by kernel_rfl) (fun _ _ _ h => h) (Or.inl ⟨by rfl,?_⟩) ?_
 rotate_left
 ·(intro w; go_simp; try with_reducible rfl)
 refine wpAny_one (k:=0) (by kernel_rfl) ?_
 refine makeMap_step rfl rfl 128 rfl 131 126 Tryz.underlying128 ?_
 have hM:=MapV.made wd 131
 have hB:Below w.heap.size w (wd.alloc (.map #[] 0)):=hBd.alloc (by omega) _
 generalize wd.alloc (.map #[] 0) = w0 at *
 refine six_inserts (w0:=w0) (b:=wd.heap.size) (by intro m0 m1 m2 m3 m4 m5; cases m0 <;> cases m1 <;> cases m2 <;> cases m3 <;> cases m4 <;> cases m5 <;> kernel_rfl) rfl rfl rfl rfl rfl rfl rfl rfl rfl rfl rfl rfl rfl rfl rfl rfl rfl rfl rfl rfl rfl rfl rfl rfl rfl rfl rfl rfl rfl rfl rfl rfl rfl rfl rfl rfl rfl ?_ 6 false false false false false false 0 _ w0 rfl rfl hM ⟨fun i hi h => ?_,fun _ _ => rfl⟩ (grown_refl _ _)
 ·intro w1 S n hM1 hS1 hg1
  have hB6:Below w.heap.size w w1:=hB.grown hg1 (by have:=hB.size; omega) (fun k hk => by injection hk with hk; omega)
  refine wpAny_of_idx [19,20] _ _ _ (by kernel_rfl) ?_
  simp only [pickL,List.flatMap_cons,List.flatMap_nil,List.drop_succ_cons,List.drop_zero,List.take_succ_cons,List.take_zero,List.append_nil,List.cons_append,List.nil_append]
  refine wpList_move rfl (.tmp 1) rfl ?_
  refine wpList_assign rfl (.tmp 14) rfl ?_
  refine wpList_end ?_
  go_simp
  go_wp2_with fail
  go_ret
  rw [hsd] at hM1
  exact ⟨_,n,S,rfl,by omega,hM1,hS1,hB6⟩
 ·match i,hi with
  | 0,_ | 1,_ | 2,_ | 3,_ | 4,_ | 5,_ => cases h
end Go.Proofs.YtjldgcebadojiaaGreatDoor
