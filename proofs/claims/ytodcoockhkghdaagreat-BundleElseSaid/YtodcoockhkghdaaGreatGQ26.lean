/- Several texts of mine in one: Facts6, Facts7, BHeapMath, BHeap. No condition. -/
import Derived.Test.YtodcoockhkghdaaGreatGQ24
import Derived.Test.YtodcoockhkghdaaGreatGQ30
import Derived.Test.YtodcoockhkghdaaGreatGQ7
namespace Go.Proofs.YtodcoockhkghdaaGreat
open Go.Sort Go.RowKit
set_option linter.unusedSimpArgs false
set_option linter.unusedVariables false
def TF (l:List (Nat × Value)) (V:Array Bool) (x:Nat → Value):Prop:=∀ p ∈ l,V.getD p.1 true = true → x p.1 = p.2
theorem TF.get {l:List (Nat × Value)} {V:Array Bool} {x:Nat → Value} (h:TF l V x) (k:Nat) {j:Nat} {v:Value} (hk:l[k]? = some (j,v)) (hv:V.getD j true = true):x j = v:=h (j,v) (List.mem_of_getElem? hk) hv
theorem TF.off {l:List (Nat × Value)} {V:Array Bool} {x:Nat → Value} (h:TF l V x) {i:Nat} {v:Value} (hi:(l.all fun p => !(i == p.1)) = true):TF l (V.setIfInBounds i true) (upd x i v):=fun p hp hv => by
 have hne:=List.all_eq_true.1 hi p hp
 have hne2:i ≠ p.1:=by simpa using hne
 rw [upd_ne x v (fun e => hne2 e.symm)]
 exact h p hp (by rw [← getD_set_ne true hne2]; exact hv)
theorem TF.on {l:List (Nat × Value)} {V:Array Bool} {x:Nat → Value} (h:TF l V x) {i:Nat} {v:Value} (k:Nat) (hk:l[k]? = some (i,v)) (hi:((l.eraseIdx k).all fun p => !(i == p.1)) = true):TF l (V.setIfInBounds i true) (upd x i v):=fun p hp hv => by
 obtain ⟨j,hj⟩:=List.getElem?_of_mem hp
 by_cases e:j = k
 ·subst e
  rw [hj] at hk
  injection hk with hk
  subst hk
  exact upd_same _ _ _
 ·have hm:p ∈ l.eraseIdx k:=List.mem_eraseIdx_iff_getElem?.2 ⟨j,e,hj⟩
  have hne:=List.all_eq_true.1 hi p hm
  have hne2:i ≠ p.1:=by simpa using hne
  rw [upd_ne x v (fun e => hne2 e.symm)]
  exact h p hp (by rw [← getD_set_ne true hne2]; exact hv)
theorem TF.none {l:List (Nat × Value)} {n:Nat} {x:Nat → Value} (h:(l.all fun p => decide (p.1 < n)) = true):TF l (Array.replicate n false) x:=fun p hp hv => by
 have h1:=of_decide_eq_true (List.all_eq_true.1 h p hp)
 simp [h1] at hv
variable {V:Array Bool} {x:Nat → Value} {i j k a b:Nat} {v:Value}
theorem un_set (h:(i == j) = false) (hv:(V.setIfInBounds i true).getD j true = true):V.getD j true = true:=by
 have hne:i ≠ j:=by simpa using h
 rw [← getD_set_ne true hne]; exact hv
theorem upd_off (x:Nat → Value) (v:Value) (h:(i == a) = false):upd x i v a = x a:=upd_ne x v (fun e => by subst e; simp at h)
theorem ku2 {P:Value → Value → Prop} (f:V.getD j true = true → P (x a) (x b)) (h1:(i == j) = false) (h2:(i == a) = false) (h3:(i == b) = false) (hv:(V.setIfInBounds i true).getD j true = true):P (upd x i v a) (upd x i v b):=by
 rw [upd_off x v h2,upd_off x v h3]; exact f (un_set h1 hv)
end Go.Proofs.YtodcoockhkghdaaGreat
namespace Go.Proofs.YtodcoockhkghdaaGreat
open Go.Sort Go.RowKit
set_option linter.unusedSimpArgs false
set_option linter.unusedVariables false
variable {V:Array Bool} {x:Nat → Value} {i j k m s:Nat} {v:Value} {w w':World}
theorem set_up (V:Array Bool) (i:Nat):(V.setIfInBounds i true).getD i true = true:=by
 by_cases hs:i < V.size
 ·simp [hs]
 ·simp [hs]
theorem un_setF (h:(i == j) = false) (hv:(V.setIfInBounds i true).getD j true = false):V.getD j true = false:=by
 have hne:i ≠ j:=by simpa using h
 rw [← getD_set_ne true hne]; exact hv
theorem ne_of_down (q:(V.setIfInBounds i true).getD k true = false):(i == k) = false:=by
 cases hc:(i == k) with
 | false => rfl
 | true =>
  have e:i = k:=by simpa using hc
  subst e
  rw [set_up] at q; cases q
theorem kM {P:World → Value → Prop} (f:V.getD j true = true → P w (x j)) (h:(i == j) = false) (hup:∀ u,P w u → P w' u):(V.setIfInBounds i true).getD j true = true → P w' (upd x i v j):=fun q => by
 rw [upd_off x v h]; exact hup _ (f (un_set h q))
theorem kD {P:World → Value → Prop} (f:V.getD j true = true → V.getD k true = false → P w (x j)) (h:(i == j) = false) (hup:∀ u,P w u → P w' u):(V.setIfInBounds i true).getD j true = true → (V.setIfInBounds i true).getD k true = false → P w' (upd x i v j):=fun q q2 => by
 rw [upd_off x v h]; exact hup _ (f (un_set h q) (un_setF (ne_of_down q2) q2))
def Fin1 (sh:Value → Value) (base:Nat) (T:TypeId) (K n:Nat) (xs:List Value) (w:World) (X:Value):Prop:=∃ u,X = sh u ∧ w.ownsRow base T K u n xs
theorem Fin1.up {sh:Value → Value} {base:Nat} {T:TypeId} {K n:Nat} {xs:List Value} (hb:Below w.heap.size w w'):∀ X,Fin1 sh base T K n xs w X → Fin1 sh base T K n xs w' X:=fun _ ⟨u,h1,h2⟩ =>
 ⟨u,h1,h2.kept (grown_of_below (row:=some w.heap.size) hb) (.inr (fun e => by have:=(h2.lt _ e).2; omega))⟩
def Off1 (sh:Value → Value) (b:Nat) (X:Value):Prop:=∀ u,X = sh u → u.ownBlock ≠ some b
def VarP (base:Nat) (T:TypeId) (z:Array Value) (w:World) (xm:Value) (Q:Nat → Prop):Prop:=∃ b,xm = .pointer (some ⟨b,0,none⟩) ∧ base ≤ b ∧ Blok w b T z ∧ Q b
def StoP (base:Nat) (T:TypeId) (w:World) (p a:Value):Prop:=∃ (b:Nat) (cs:Array Value),p = .pointer (some ⟨b,0,none⟩) ∧ base ≤ b ∧ a = .agg cs ∧ Blok w b T cs
section
variable {sh:Value → Value} {base base1:Nat} {T T1:TypeId} {z:Array Value} {K n:Nat} {xs:List Value}
theorem kV (f:V.getD m true = true → V.getD s true = false → VarP base T z w (x m) (fun b => V.getD j true = true → Off1 sh b (x j))) (h1:(i == m) = false) (h2:(i == j) = false) (hb:Below w.heap.size w w') :
  (V.setIfInBounds i true).getD m true = true → (V.setIfInBounds i true).getD s true = false → VarP base T z w' (upd x i v m) (fun b => (V.setIfInBounds i true).getD j true = true → Off1 sh b (upd x i v j)):=fun q q2 => by
 obtain ⟨b,e1,e2,e3,e4⟩:=f (un_set h1 q) (un_setF (ne_of_down q2) q2)
 rw [upd_off x v h1,upd_off x v h2]
 exact ⟨b,e1,e2,e3.below hb e3.lt,fun q3 => e4 (un_set h2 q3)⟩
theorem kVi (f:V.getD m true = true → V.getD s true = false → VarP base T z w (x m) (fun b => V.getD i true = true → Off1 sh b (x i))) (h1:(i == m) = false) (hb:Below w.heap.size w w') (hinj:∀ a c,sh a = sh c → a = c) {u:Value} (hown:w'.ownsRow w.heap.size T1 K u n xs) :
  (V.setIfInBounds i true).getD m true = true → (V.setIfInBounds i true).getD s true = false → VarP base T z w' (upd x i (sh u) m) (fun b => (V.setIfInBounds i true).getD i true = true → Off1 sh b (upd x i (sh u) i)):=fun q q2 => by
 obtain ⟨b,e1,e2,e3,e4⟩:=f (un_set h1 q) (un_setF (ne_of_down q2) q2)
 rw [upd_off x _ h1,upd_same]
 refine ⟨b,e1,e2,e3.below hb e3.lt,fun _ u' hu hc => ?_⟩
 obtain rfl:=hinj _ _ hu
 have h4:=(hown.lt b hc).1
 have h5:=e3.lt
 omega
theorem kVm (g:V.getD j true = true → Fin1 sh base1 T1 K n xs w (x j)) (hbs:base ≤ w.heap.size) (h:(m == j) = false) (hinj:∀ a c,sh a = sh c → a = c) :
  (V.setIfInBounds m true).getD m true = true → (V.setIfInBounds m true).getD s true = false → VarP base T z (w.alloc (.cells z T)) (upd x m (.pointer (some ⟨w.heap.size,0,none⟩)) m) (fun b => (V.setIfInBounds m true).getD j true = true → Off1 sh b (upd x m (.pointer (some ⟨w.heap.size,0,none⟩)) j)):=fun q q2 => by
 rw [upd_same,upd_off x _ h]
 refine ⟨w.heap.size,rfl,hbs,Blok.new w T z,fun q3 u hu hc => ?_⟩
 obtain ⟨u',h1,h2⟩:=g (un_set h q3)
 obtain rfl:=hinj _ _ (h1.symm.trans hu)
 have:=(h2.lt _ hc).2
 omega
theorem kS (f:V.getD s true = true → StoP base T w (x m) (x j)) (h1:(i == s) = false) (h2:(i == m) = false) (h3:(i == j) = false) (hb:Below w.heap.size w w') :
  (V.setIfInBounds i true).getD s true = true → StoP base T w' (upd x i v m) (upd x i v j):=fun q => by
 obtain ⟨b,cs,e1,e2,e3,e4⟩:=f (un_set h1 q)
 rw [upd_off x v h2,upd_off x v h3]
 exact ⟨b,cs,e1,e2,e3,e4.below hb e4.lt⟩
end
theorem kfF {sh:Value → Value} {base:Nat} {T:TypeId} {K n:Nat} {xs:List Value} (f:V.getD j true = true → Fin1 sh base T K n xs w (x j)) (h:(i == j) = false) (hb:Below w.heap.size w w'):(V.setIfInBounds i true).getD j true = true → Fin1 sh base T K n xs w' (upd x i v j):=kM f h (Fin1.up hb)
theorem kfD {sh:Value → Value} {base:Nat} {T:TypeId} {K n:Nat} {xs:List Value} (f:V.getD j true = true → V.getD k true = false → Fin1 sh base T K n xs w (x j)) (h:(i == j) = false) (hb:Below w.heap.size w w'):(V.setIfInBounds i true).getD j true = true → (V.setIfInBounds i true).getD k true = false → Fin1 sh base T K n xs w' (upd x i v j):=kD f h (Fin1.up hb)
theorem kfE (f:V.getD j true = true → x k = x m) (h1:(i == j) = false) (h2:(i == k) = false) (h3:(i == m) = false):(V.setIfInBounds i true).getD j true = true → upd x i v k = upd x i v m:=ku2 (P:=Eq) f h1 h2 h3
theorem kfX {sh cm:Value → Value} (f:V.getD j true = true → ∀ u,x k = sh u → x m = cm u) (h1:(i == j) = false) (h2:(i == k) = false) (h3:(i == m) = false):(V.setIfInBounds i true).getD j true = true → ∀ u,upd x i v k = sh u → upd x i v m = cm u:=ku2 (P:=fun a c => ∀ u,a = sh u → c = cm u) f h1 h2 h3
theorem tev {b:Act} {e:Tmp} {u:Value} (h:b.eval (.tmp e) = u):b.tmps[e]?.getD undef = u:=by simpa [Act.eval] using h
end Go.Proofs.YtodcoockhkghdaaGreat
namespace Go.Proofs.YtodcoockhkghdaaGreat.Bp
open Go.Proofs.YtodcoockhkghdaaGreat
set_option linter.unusedSimpArgs false
set_option linter.unusedVariables false
abbrev Rd:=Bx
def ahd (a b:Rd):Bool:=decide (cmpR a.t a.H b.t b.H < 0)
theorem ahd_iff {a b:Rd}:ahd a b = true ↔ cmpR a.t a.H b.t b.H < 0:=by simp [ahd]
theorem ahd_no {a b:Rd}:ahd a b = false ↔ 0 ≤ cmpR a.t a.H b.t b.H:=by simp [ahd]
theorem cmpR_anti2 (a b:Rd):cmpR a.t a.H b.t b.H = - cmpR b.t b.H a.t a.H:=by rw [cmpR_key,cmpR_key]; exact cmpL_anti _ _
theorem ahd_irr (a:Rd):ahd a a = false:=by rw [ahd_no,cmpR_key,cmpL_self]; exact Int.le_refl _
theorem nle_trans {a b c:Rd} (h1:ahd b a = false) (h2:ahd c b = false):ahd c a = false:=by
 rw [ahd_no] at *
 have e1:=cmpR_anti2 b a
 have e2:=cmpR_anti2 c b
 have e3:=cmpR_anti2 c a
 have h3:cmpR a.t a.H b.t b.H ≤ 0:=by omega
 have h4:cmpR b.t b.H c.t c.H ≤ 0:=by omega
 rw [cmpR_key] at h3 h4
 have h5:=cmpL_trans h3 h4
 rw [← cmpR_key] at h5
 omega
theorem nle_of_ahd {a b:Rd} (h:ahd a b = true):ahd b a = false:=by
 rw [ahd_iff] at h; rw [ahd_no]
 have:=cmpR_anti2 a b
 omega
def gt (d:List Rd) (i:Nat):Rd:=d.getD i default
def swp (d:List Rd) (i j:Nat):List Rd:=(d.set i (gt d j)).set j (gt d i)
theorem swp_length (d:List Rd) (i j:Nat):(swp d i j).length = d.length:=by simp [swp]
theorem gt_set (d:List Rd) (i k:Nat) (x:Rd) (hi:i < d.length):gt (d.set i x) k = if k = i then x else gt d k:=by
 unfold gt
 rw [List.getD_eq_getElem?_getD,List.getD_eq_getElem?_getD,List.getElem?_set]
 by_cases h:k = i
 ·subst h; simp [hi]
 ·rw [if_neg (fun e => h e.symm),if_neg h]
theorem gt_swp (d:List Rd) (i j k:Nat) (hi:i < d.length) (hj:j < d.length):gt (swp d i j) k = if k = j then gt d i else if k = i then gt d j else gt d k:=by
 unfold swp
 rw [gt_set _ _ _ _ (by simpa using hj),gt_set _ _ _ _ hi]
theorem gt_mem {d:List Rd} {i:Nat} (h:i < d.length):gt d i ∈ d:=by
 unfold gt; rw [List.getD_eq_getElem?_getD,List.getElem?_eq_getElem h]; simp
theorem swp_perm (d:List Rd) (i j:Nat) (hi:i < d.length) (hj:j < d.length):(swp d i j).Perm d:=by
 have h:=Array.swap_perm (xs:=d.toArray) (i:=i) (j:=j) (by simpa using hi) (by simpa using hj)
 rw [Array.perm_iff_toList_perm] at h
 have e:(d.toArray.swap i j (by simpa using hi) (by simpa using hj)).toList = swp d i j:=by
  unfold swp gt
  simp [Array.swap,hi,hj]
 rw [e] at h
 exact h
def isHeap (d:List Rd):Prop:=∀ j,0 < j → j < d.length → ahd (gt d j) (gt d ((j - 1) / 2)) = false
structure upInv (d:List Rd) (i:Nat):Prop where
 lt:i < d.length
 rest:∀ j,0 < j → j < d.length → j ≠ i → ahd (gt d j) (gt d ((j - 1) / 2)) = false
 kids:∀ j,0 < j → j < d.length → (j - 1) / 2 = i → 0 < i → ahd (gt d j) (gt d ((i - 1) / 2)) = false
theorem up_start {d:List Rd} (h:isHeap d) (r:Rd):upInv (d ++ [r]) d.length:=by
 have hg:∀ k,k < d.length → gt (d ++ [r]) k = gt d k:=by
  intro k hk; unfold gt; simp [List.getD_eq_getElem?_getD,List.getElem?_append_left hk]
 refine ⟨by simp,fun j h0 h1 h2 => ?_,fun j h0 h1 h2 _ => ?_⟩
 ·simp at h1
  rw [hg _ (by omega),hg _ (by omega)]
  exact h j h0 (by omega)
 ·simp at h1; omega
theorem up_end {d:List Rd} {i:Nat} (h:upInv d i) (he:i = 0 ∨ ahd (gt d i) (gt d ((i - 1) / 2)) = false):isHeap d:=by
 intro j h0 h1
 by_cases e:j = i
 ·subst e
  rcases he with he | he
  ·omega
  ·exact he
 ·exact h.rest j h0 h1 e
theorem up_step {d:List Rd} {i:Nat} (h:upInv d i) (h0:0 < i) (ha:ahd (gt d i) (gt d ((i - 1) / 2)) = true):upInv (swp d i ((i - 1) / 2)) ((i - 1) / 2):=by
 have hi:=h.lt
 have hp:(i - 1) / 2 < d.length:=by omega
 have hpi:(i - 1) / 2 < i:=by omega
 have G:=fun k => gt_swp d i ((i - 1) / 2) k hi hp
 refine ⟨by rw [swp_length]; exact hp,fun j j0 j1 j2 => ?_,fun j j0 j1 j2 p0 => ?_⟩
 ·rw [swp_length] at j1
  rw [G,G]
  rw [if_neg j2]
  by_cases e1:j = i
  ·subst e1
   rw [if_pos rfl,if_pos rfl]
   exact nle_of_ahd ha
  ·rw [if_neg e1]
   by_cases e2:(j - 1) / 2 = (i - 1) / 2
   ·rw [if_pos e2]
    have:=h.rest j j0 j1 e1
    rw [e2] at this
    exact nle_trans (nle_of_ahd ha) this
   ·rw [if_neg e2]
    by_cases e3:(j - 1) / 2 = i
    ·rw [if_pos e3]
     exact h.kids j j0 j1 e3 h0
    ·rw [if_neg e3]
     exact h.rest j j0 j1 e1
 ·rw [swp_length] at j1
  rw [G,G]
  rw [if_neg (by omega:¬ ((i - 1) / 2 - 1) / 2 = (i - 1) / 2),if_neg (by omega:¬ ((i - 1) / 2 - 1) / 2 = i)]
  have hpp:=h.rest ((i - 1) / 2) p0 hp (by omega)
  by_cases e0:j = (i - 1) / 2
  ·omega
  ·rw [if_neg e0]
   by_cases e1:j = i
   ·subst e1; rw [if_pos rfl]; exact hpp
   ·rw [if_neg e1]
    have:=h.rest j j0 j1 e1
    rw [j2] at this
    exact nle_trans hpp this
structure downInv (d:List Rd) (i:Nat):Prop where
 rest:∀ j,0 < j → j < d.length → (j - 1) / 2 ≠ i → ahd (gt d j) (gt d ((j - 1) / 2)) = false
 kids:∀ j,0 < j → j < d.length → (j - 1) / 2 = i → 0 < i → ahd (gt d j) (gt d ((i - 1) / 2)) = false
def pick (d:List Rd) (i:Nat):Nat:=
 let a:=if 2 * i + 1 < d.length ∧ ahd (gt d (2 * i + 1)) (gt d i) = true then 2 * i + 1 else i
 if 2 * i + 2 < d.length ∧ ahd (gt d (2 * i + 2)) (gt d a) = true then 2 * i + 2 else a
theorem pick_kid (d:List Rd) (i j:Nat) (j0:0 < j) (j1:j < d.length) (j2:(j - 1) / 2 = i):ahd (gt d j) (gt d (pick d i)) = false:=by
 have hj:j = 2 * i + 1 ∨ j = 2 * i + 2:=by omega
 unfold pick
 dsimp only
 rcases hj with rfl | rfl
 ·have key:∀ a,ahd (gt d (2 * i + 1)) (gt d a) = false → ahd (gt d (2 * i + 1)) (gt d (if 2 * i + 2 < d.length ∧ ahd (gt d (2 * i + 2)) (gt d a) = true then 2 * i + 2 else a)) = false:=by
   intro a ha
   split
   ·rename_i h; exact nle_trans (nle_of_ahd h.2) ha
   ·exact ha
  apply key
  split
  ·exact ahd_irr _
  ·rename_i h
   have:¬ ahd (gt d (2 * i + 1)) (gt d i) = true:=fun hh => h ⟨j1,hh⟩
   simpa using this
 ·by_cases a1:2 * i + 1 < d.length ∧ ahd (gt d (2 * i + 1)) (gt d i) = true
  ·rw [if_pos a1]
   split
   ·exact ahd_irr _
   ·rename_i h
    have:¬ ahd (gt d (2 * i + 2)) (gt d (2 * i + 1)) = true:=fun hh => h ⟨j1,hh⟩
    simpa using this
  ·rw [if_neg a1]
   split
   ·exact ahd_irr _
   ·rename_i h
    have:¬ ahd (gt d (2 * i + 2)) (gt d i) = true:=fun hh => h ⟨j1,hh⟩
    simpa using this
theorem pick_self (d:List Rd) (i:Nat):ahd (gt d i) (gt d (pick d i)) = false:=by
 unfold pick
 dsimp only
 by_cases a1:2 * i + 1 < d.length ∧ ahd (gt d (2 * i + 1)) (gt d i) = true
 ·rw [if_pos a1]
  split
  ·rename_i h; exact nle_trans (nle_of_ahd h.2) (nle_of_ahd a1.2)
  ·exact nle_of_ahd a1.2
 ·rw [if_neg a1]
  split
  ·rename_i h; exact nle_of_ahd h.2
  ·exact ahd_irr _
theorem pick_cases (d:List Rd) (i:Nat):pick d i = i ∨ (2 * i + 1 < d.length ∧ pick d i = 2 * i + 1) ∨ (2 * i + 2 < d.length ∧ pick d i = 2 * i + 2):=by
 unfold pick
 dsimp only
 by_cases a1:2 * i + 1 < d.length ∧ ahd (gt d (2 * i + 1)) (gt d i) = true
 ·rw [if_pos a1]
  split
  ·rename_i h; exact .inr (.inr ⟨h.1,rfl⟩)
  ·exact .inr (.inl ⟨a1.1,rfl⟩)
 ·rw [if_neg a1]
  split
  ·rename_i h; exact .inr (.inr ⟨h.1,rfl⟩)
  ·exact .inl rfl
theorem down_end {d:List Rd} {i:Nat} (h:downInv d i) (he:pick d i = i):isHeap d:=by
 intro j h0 h1
 by_cases e:(j - 1) / 2 = i
 ·have:=pick_kid d i j h0 h1 e
  rw [he,← e] at this
  exact this
 ·exact h.rest j h0 h1 e
theorem down_step {d:List Rd} {i:Nat} (h:downInv d i) (hi:i < d.length) (he:pick d i ≠ i):downInv (swp d i (pick d i)) (pick d i) ∧ i < pick d i ∧ pick d i < d.length ∧ (pick d i - 1) / 2 = i:=by
 have hc:=pick_cases d i
 have hk:=fun j j0 j1 j2 => pick_kid d i j j0 j1 j2
 have hs:=pick_self d i
 generalize pick d i = p at *
 have hp:p < d.length:=by omega
 have hpp:(p - 1) / 2 = i:=by omega
 have hip:i < p:=by omega
 have G:=fun k => gt_swp d i p k hi hp
 refine ⟨⟨fun j j0 j1 j2 => ?_,fun j j0 j1 j2 _ => ?_⟩,hip,hp,hpp⟩
 ·rw [swp_length] at j1
  rw [G,G]
  rw [if_neg j2]
  by_cases e1:j = p
  ·subst e1
   rw [if_pos rfl,if_pos hpp]
   exact hs
  ·rw [if_neg e1]
   by_cases e2:j = i
   ·subst e2
    rw [if_pos rfl,if_neg (by omega)]
    exact h.kids p (by omega) hp hpp j0
   ·rw [if_neg e2]
    by_cases e3:(j - 1) / 2 = i
    ·rw [if_pos e3]
     exact hk j j0 j1 e3
    ·rw [if_neg e3]
     exact h.rest j j0 j1 e3
 ·rw [swp_length] at j1
  rw [G,G,hpp]
  rw [if_neg (by omega:¬ i = p),if_pos rfl,if_neg (by omega:¬ j = p),if_neg (by omega:¬ j = i)]
  have:=h.rest j j0 j1 (by omega)
  rw [j2] at this
  exact this
theorem heap_min {d:List Rd} (h:isHeap d):∀ j,j < d.length → ahd (gt d j) (gt d 0) = false:=by
 intro j
 induction j using Nat.strongRecOn with
 | _ j ih =>
  intro hj
  by_cases e:j = 0
  ·subst e; exact ahd_irr _
  ·exact nle_trans (ih ((j - 1) / 2) (by omega) (by omega)) (h j (by omega) hj)
theorem heap_least {d:List Rd} (h:isHeap d) {x:Rd} (hx:x ∈ d):ahd x (gt d 0) = false:=by
 obtain ⟨i,hi,rfl⟩:=List.getElem_of_mem hx
 have:=heap_min h i hi
 have e:gt d i = d[i]:=by unfold gt; rw [List.getD_eq_getElem?_getD,List.getElem?_eq_getElem hi]; rfl
 rw [e] at this
 exact this
def cutF (d:List Rd):List Rd:=(d.set 0 (gt d (d.length - 1))).take (d.length - 1)
theorem cut_length (d:List Rd):(cutF d).length = d.length - 1:=by simp [cutF]
theorem gt_cut (d:List Rd) (k:Nat) (hk:k < d.length - 1):gt (cutF d) k = if k = 0 then gt d (d.length - 1) else gt d k:=by
 rw [← gt_set d 0 k _ (by omega)]
 unfold cutF gt
 rw [List.getD_eq_getElem?_getD,List.getElem?_take_of_lt hk,← List.getD_eq_getElem?_getD]
theorem cut_down {d:List Rd} (h:isHeap d):downInv (cutF d) 0:=by
 refine ⟨fun j j0 j1 j2 => ?_,fun j j0 j1 j2 p => by omega⟩
 rw [cut_length] at j1
 rw [gt_cut d j j1,gt_cut d _ (by omega),if_neg (by omega),if_neg j2]
 exact h j j0 (by omega)
theorem cut_perm {d:List Rd} (h:0 < d.length):(gt d 0 :: cutF d).Perm d:=by
 match d,h with
 | a :: l,_ =>
  rcases List.eq_nil_or_concat l with rfl | ⟨m,b,rfl⟩
  ·simp [cutF,gt]
  ·have e1:gt (a :: m.concat b) 0 = a:=rfl
   have e2:cutF (a :: m.concat b) = b :: m:=by
    unfold cutF gt
    simp [List.getD_eq_getElem?_getD]
   rw [e1,e2]
   refine List.Perm.cons _ ?_
   rw [List.concat_eq_append]
   exact (List.perm_append_singleton b m).symm
def kidC (d:List Rd) (i:Nat):Nat:=if 2 * i + 2 < d.length ∧ ahd (gt d (2 * i + 2)) (gt d (2 * i + 1)) = true then 2 * i + 2 else 2 * i + 1
theorem pick_none {d:List Rd} {i:Nat} (h:¬ 2 * i + 1 < d.length):pick d i = i:=by
 have h2:¬ 2 * i + 2 < d.length:=by omega
 unfold pick
 simp [h,h2]
theorem pick_kidC {d:List Rd} {i:Nat} (h:2 * i + 1 < d.length):pick d i = if ahd (gt d (kidC d i)) (gt d i) = true then kidC d i else i:=by
 unfold pick kidC
 dsimp only
 by_cases h2:2 * i + 2 < d.length
 ·cases p:ahd (gt d (2 * i + 1)) (gt d i) with
  | true =>
   cases q:ahd (gt d (2 * i + 2)) (gt d (2 * i + 1)) with
   | true =>
    have s:ahd (gt d (2 * i + 2)) (gt d i) = true:=by
     cases s:ahd (gt d (2 * i + 2)) (gt d i) with
     | true => rfl
     | false =>
      have:=nle_trans (nle_of_ahd p) s
      rw [q] at this
      cases this
    simp [h,h2,p,q,s]
   | false => simp [h,h2,p,q]
  | false =>
   cases q:ahd (gt d (2 * i + 2)) (gt d (2 * i + 1)) with
   | true => simp [h,h2,p]
   | false =>
    have s:ahd (gt d (2 * i + 2)) (gt d i) = false:=nle_trans p q
    simp [h,h2,p,s]
 ·cases p:ahd (gt d (2 * i + 1)) (gt d i) <;> simp [h,h2,p]
theorem swp_take (d:List Rd) (i j n:Nat) (hi:i < n) (hj:j < n) (hn:n ≤ d.length):(swp d i j).take n = swp (d.take n) i j:=by
 unfold swp gt
 rw [List.take_set,List.take_set]
 rw [List.getD_eq_getElem?_getD,List.getD_eq_getElem?_getD,List.getD_eq_getElem?_getD,List.getD_eq_getElem?_getD,List.getElem?_take_of_lt hi,List.getElem?_take_of_lt hj]
theorem swp_drop (d:List Rd) (i j n:Nat) (hi:i < n) (hj:j < n):(swp d i j).drop n = d.drop n:=by
 unfold swp
 rw [List.drop_set_of_lt hj,List.drop_set_of_lt hi]
theorem gt_take {d:List Rd} {n k:Nat} (h:k < n):gt (d.take n) k = gt d k:=by
 unfold gt
 rw [List.getD_eq_getElem?_getD,List.getD_eq_getElem?_getD,List.getElem?_take_of_lt h]
theorem swp_cut {d:List Rd} (h:0 < d.length):(swp d 0 (d.length - 1)).take (d.length - 1) = cutF d ∧ gt (swp d 0 (d.length - 1)) (d.length - 1) = gt d 0:=by
 constructor
 ·unfold swp cutF
  rw [List.take_set_of_le (Nat.le_refl _)]
 ·rw [gt_swp _ _ _ _ h (by omega),if_pos rfl]
end Go.Proofs.YtodcoockhkghdaaGreat.Bp
namespace Go.Proofs.YtodcoockhkghdaaGreat
open Go.ChangeShapes Go.WideShapes Go.ChangeAt Go.RowKit Go.Sort Bp
set_option linter.unusedSimpArgs false
set_option linter.unusedVariables false
theorem own_keptK {S:Nat → Prop} {w w':World} {base:Nat} {e:TypeId} {size n:Nat} {v:Value} {xs:List Value} (h:w.ownsRow base e size v n xs) (hk:Kept S w w') (hv:∀ g,v.ownBlock = some g → ¬ S g):w'.ownsRow base e size v n xs:=by
 refine ⟨h.1,?_⟩
 rcases h.2 with hn | ⟨g,cap,cur,rfl,hb,hgg,rest⟩
 ·exact .inl hn
 ·refine .inr ⟨g,cap,cur,rfl,hb,?_,rest⟩
  rw [hk.block g (Array.getElem?_eq_some_iff.1 hgg).1 (hv g rfl)]
  exact hgg
structure BrRow (w:World) (base:Nat) (v:Value) (d:List Bx):Prop where
 row:w.ownsRow base 122 4 v d.length (flatBx d)
 ok:∀ x ∈ d,x.ok w
 off:∀ x ∈ d,∀ g,v.ownBlock = some g → x.off g
theorem BrRow.kept {S:Nat → Prop} {w w':World} {base:Nat} {v:Value} {d:List Bx} (h:BrRow w base v d) (hk:Kept S w w') (ho:∀ x ∈ d,∀ g,S g → x.off g) (hv:∀ g,v.ownBlock = some g → ¬ S g):BrRow w' base v d:=
 ⟨own_keptK h.row hk hv,fun x hx => (h.ok x hx).kept hk (ho x hx),h.off⟩
theorem BrRow.below {w w':World} {base:Nat} {v:Value} {d:List Bx} (h:BrRow w base v d) (hb:Below w.heap.size w w'):BrRow w' base v d:=
 ⟨h.row.kept (grown_of_below (row:=some w.heap.size) hb) (.inr (fun e => by have:=(h.row.lt _ e).2; omega)),fun x hx => (h.ok x hx).below hb,h.off⟩
theorem BrRow.cell {w:World} {base g c:Nat} {d:List Bx} (h:BrRow w base (.slice (some ⟨g,0,none⟩) d.length c) d) {k j:Nat} (hk:k < d.length) (hj:j < 4):w.cell? ⟨g,k * 4 + j,none⟩ = (gt d k).cs[j]?:=by
 rw [h.row.cellAt (k * 4 + j) (by omega),flatBx_at d k j hk hj]; rfl
theorem BrRow.store {w:World} {base g n c:Nat} {d:List Bx} (hn:d.length = n) (h:BrRow w base (.slice (some ⟨g,0,none⟩) n c) d) {k:Nat} (hk:k < d.length) {x:Bx} (hx:x.ok w) (ho:x.off g) :
  BrRow ((((w.setCell ⟨g,k * 4,none⟩ (.slice x.A x.n x.c)).setCell ⟨g,k * 4 + 1,none⟩ (.int .i64 x.t)).setCell ⟨g,k * 4 + 2,none⟩ (.int .i64 (x.r:Int))).setCell ⟨g,k * 4 + 3,none⟩ (.slice x.Ab x.nb x.cb)) base (.slice (some ⟨g,0,none⟩) n c) (d.set k x) ∧ w.grownBy ((((w.setCell ⟨g,k * 4,none⟩ (.slice x.A x.n x.c)).setCell ⟨g,k * 4 + 1,none⟩ (.int .i64 x.t)).setCell ⟨g,k * 4 + 2,none⟩ (.int .i64 (x.r:Int))).setCell ⟨g,k * 4 + 3,none⟩ (.slice x.Ab x.nb x.cb)) (some g):=by
 subst hn
 obtain ⟨r1,g1⟩:=h.row.stored (k * 4) (.slice x.A x.n x.c)
 obtain ⟨r2,g2⟩:=r1.stored (k * 4 + 1) (.int .i64 x.t)
 obtain ⟨r3,g3⟩:=r2.stored (k * 4 + 2) (.int .i64 (x.r:Int))
 obtain ⟨r4,g4⟩:=r3.stored (k * 4 + 3) (.slice x.Ab x.nb x.cb)
 have hg:=grown_trans g1 (grown_trans g2 (grown_trans g3 g4))
 have hK:Kept (fun k => k = g) w _:=Kept.of_grown hg (fun k e _ => by simpa using e.symm)
 have hmem:∀ y ∈ d.set k x,y.ok w ∧ y.off g:=fun y hm => by
  rcases List.mem_or_eq_of_mem_set hm with hm | rfl
  ·exact ⟨h.ok y hm,h.off y hm g rfl⟩
  ·exact ⟨hx,ho⟩
 refine ⟨⟨?_,fun y hm => (hmem y hm).1.kept hK (fun g' e => by subst e; exact (hmem y hm).2),fun y hm g' e => by simp only [Value.ownBlock,Option.some.injEq] at e; subst e; exact (hmem y hm).2⟩,hg⟩
 rw [List.length_set,flatBx_set d k x hk]
 exact r4
theorem blen_any (A:Option Addr) (n c:Nat) (w:World):Calls Tryz.prog 216 #[.slice A n c] w fun e w' => e = .returned (.int .i64 (n:Int)) ∧ w' = w:=by
 go_enter Tryz.func216,Tryz.ntmps216
 go_wp2
 go_ret
 exact ⟨rfl,rfl⟩
set_option maxHeartbeats 4000000 in
set_option maxRecDepth 100000 in
theorem bless_any (g c n ki kj:Nat) (d:List Bx) (base:Nat) (w:World) (hd:d.length = n) (hn:n ≤ 10000000) (h:BrRow w base (.slice (some ⟨g,0,none⟩) n c) d) (hi:ki < n) (hj:kj < n) (bb:Bool) (hb:ahd (gt d ki) (gt d kj) = bb) :
  Calls Tryz.prog 217 #[.slice (some ⟨g,0,none⟩) n c,.int .i64 (ki:Int),.int .i64 (kj:Int)] w fun e w' => e = .returned (.bool bb) ∧ Below w.heap.size w w':=by
 subst hd
 obtain ⟨u,hx⟩:∃ u,gt d ki = u:=⟨_,rfl⟩
 obtain ⟨v,hy⟩:∃ v,gt d kj = v:=⟨_,rfl⟩
 have c0:w.cell? ⟨g,ki * 4,none⟩ = some (.slice u.A u.n u.c):=by rw [← hx]; exact h.cell (j:=0) hi (by omega)
 have c1:w.cell? ⟨g,ki * 4 + 1,none⟩ = some (.int .i64 u.t):=by rw [← hx]; exact h.cell (j:=1) hi (by omega)
 have d0:w.cell? ⟨g,kj * 4,none⟩ = some (.slice v.A v.n v.c):=by rw [← hy]; exact h.cell (j:=0) hj (by omega)
 have d1:w.cell? ⟨g,kj * 4 + 1,none⟩ = some (.int .i64 v.t):=by rw [← hy]; exact h.cell (j:=1) hj (by omega)
 have hg:g < w.heap.size:=(h.row.lt g rfl).2
 have HX:=Lib.hid (h.ok u (by rw [← hx]; exact gt_mem hi))
 have HY:=Lib.hid (h.ok v (by rw [← hy]; exact gt_mem hj))
 have HBV:Hid (decide (cmpR u.t u.H v.t v.H < 0) = bb):=by show _ = bb; rw [← hb,hx,hy]; rfl
 obtain ⟨n,hn2⟩:∃ n,d.length = n:=⟨_,rfl⟩
 rw [hn2] at hi hj hn ⊢
 have hiI:(ki:Int) < (n:Int):=by omega
 have hjI:(kj:Int) < (n:Int):=by omega
 have HC:Hid (∀ w',Below w.heap.size w w' → w'.cell? ⟨g,ki * 4,none⟩ = some (.slice u.A u.n u.c) ∧ w'.cell? ⟨g,ki * 4 + 1,none⟩ = some (.int .i64 u.t) ∧ w'.cell? ⟨g,kj * 4,none⟩ = some (.slice v.A v.n v.c) ∧ w'.cell? ⟨g,kj * 4 + 1,none⟩ = some (.int .i64 v.t)):=fun w' hb => ⟨(hb.cell (p:=⟨g,ki * 4,none⟩) hg).trans c0,(hb.cell (p:=⟨g,ki * 4 + 1,none⟩) hg).trans c1,(hb.cell (p:=⟨g,kj * 4,none⟩) hg).trans d0,(hb.cell (p:=⟨g,kj * 4 + 1,none⟩) hg).trans d1⟩
 clear c0 c1 d0 d1 h hb hx hy hn2
 go_enter Tryz.func217,Tryz.ntmps217
 go_upto_region 1 with fail
 refine gen_frame ?_
 intro a0 ha0
 try simp only [List.append]
 refine wp_region_frames rfl (by kernel_rfl) (by kernel_rfl) (fun V x w' => Below w.heap.size w w' ∧ TF [(0,.slice (some ⟨g,0,none⟩) n c),(1,.int .i64 (ki:Int)),(2,.pointer (some ⟨g,ki * 4,none⟩)),(3,.pointer (some ⟨g,ki * 4,none⟩)),(4,.agg #[.slice u.A u.n u.c,.int .i64 u.t]),(5,.slice (some ⟨g,0,none⟩) n c),(6,.int .i64 (kj:Int)),(7,.pointer (some ⟨g,kj * 4,none⟩)),(8,.pointer (some ⟨g,kj * 4,none⟩)),(9,.agg #[.slice v.A v.n v.c,.int .i64 v.t]),(10,.bool bb),(11,.bool bb)] V x) ?_ ?_ ?_
 ·intro x
  refine ⟨(Below.refl _ _).drew,TF.none rfl⟩ <;> exact fun h => by simp at h
 ·intro V x b w' hbq hsz hF i hi hun haf hcl
  obtain ⟨hBw,hT⟩:=hF
  have hbe:b = putAll a0 [some 7,some 8,some 9,some 10,some 11,some 12,some 13,some 14,some 15,some 16,some 17,some 6] x 0:=hbq
  have hz0:a0.tmps.size = 18:=by rw [ha0]; rfl
  have e0:b.eval (.tmp 0) = .slice (some ⟨g,0,none⟩) n c:=by rw [hbe,eval_out _ _ _ (by decide),ha0]; rfl
  have t0:b.tmps[0]?.getD undef = .slice (some ⟨g,0,none⟩) n c:=by simpa [Act.eval] using e0
  have e1:b.eval (.tmp 1) = .int .i64 (ki:Int):=by rw [hbe,eval_out _ _ _ (by decide),ha0]; rfl
  have t1:b.tmps[1]?.getD undef = .int .i64 (ki:Int):=by simpa [Act.eval] using e1
  have e2:b.eval (.tmp 2) = .int .i64 (kj:Int):=by rw [hbe,eval_out _ _ _ (by decide),ha0]; rfl
  have t2:b.tmps[2]?.getD undef = .int .i64 (kj:Int):=by simpa [Act.eval] using e2
  have evc:∀ v,b.eval (.const v) = v:=fun _ => rfl
  clear hbq
  have hi':i < 12:=hi
  clear hi
  obtain rfl | rfl | rfl | rfl | rfl | rfl | rfl | rfl | rfl | rfl | rfl | rfl:i = 0 ∨ i = 1 ∨ i = 2 ∨ i = 3 ∨ i = 4 ∨ i = 5 ∨ i = 6 ∨ i = 7 ∨ i = 8 ∨ i = 9 ∨ i = 10 ∨ i = 11:=by omega
  ·refine wpOp_runs (v:=.slice (some ⟨g,0,none⟩) n c) rfl rfl (by simp [execOp,go_sem,t0]) ⟨_,_,rfl,rfl,⟨hBw,hT.on 0 rfl rfl⟩⟩
  ·refine wpOp_runs (v:=.int .i64 (ki:Int)) rfl rfl (by simp [execOp,go_sem,t1]) ⟨_,_,rfl,rfl,⟨hBw,hT.on 1 rfl rfl⟩⟩
  ·have d0:=getD_ft (haf _ rfl ⟨0,.data⟩ (by simp) rfl)
   have e7:b.eval (.tmp 7) = .slice (some ⟨g,0,none⟩) n c:=by rw [hbe,eval_in _ _ _ 0 (by decide) rfl (by rw [hz0]; decide)]; exact hT.get 0 rfl d0
   have t7:=e7; simp only [Act.eval,Array.getD_eq_getD_getElem?] at t7
   have d1:=getD_ft (haf _ rfl ⟨1,.data⟩ (by simp) rfl)
   have e8:b.eval (.tmp 8) = .int .i64 (ki:Int):=by rw [hbe,eval_in _ _ _ 1 (by decide) rfl (by rw [hz0]; decide)]; exact hT.get 1 rfl d1
   have t8:=e8; simp only [Act.eval,Array.getD_eq_getD_getElem?] at t8
   refine wpOp_runs (v:=.pointer (some ⟨g,ki * 4,none⟩)) rfl rfl (by simp [execOp,go_sem,t7,t8,hiI,hi]) ⟨_,_,rfl,rfl,⟨hBw,hT.on 2 rfl rfl⟩⟩
  ·have d2:=getD_ft (haf _ rfl ⟨2,.data⟩ (by simp) rfl)
   have e9:b.eval (.tmp 9) = .pointer (some ⟨g,ki * 4,none⟩):=by rw [hbe,eval_in _ _ _ 2 (by decide) rfl (by rw [hz0]; decide)]; exact hT.get 2 rfl d2
   have t9:=e9; simp only [Act.eval,Array.getD_eq_getD_getElem?] at t9
   refine wpOp_runs (v:=.pointer (some ⟨g,ki * 4,none⟩)) rfl rfl (by simp [execOp,go_sem,t9]) ⟨_,_,rfl,rfl,⟨hBw,hT.on 3 rfl rfl⟩⟩
  ·have d3:=getD_ft (haf _ rfl ⟨3,.data⟩ (by simp) rfl)
   have e10:b.eval (.tmp 10) = .pointer (some ⟨g,ki * 4,none⟩):=by rw [hbe,eval_in _ _ _ 3 (by decide) rfl (by rw [hz0]; decide)]; exact hT.get 3 rfl d3
   have t10:=e10; simp only [Act.eval,Array.getD_eq_getD_getElem?] at t10
   obtain ⟨q0,q1,q2,q3⟩:=HC.out _ hBw
   refine wpOp_runs (v:=.agg #[.slice u.A u.n u.c,.int .i64 u.t]) rfl rfl (by simp [execOp,go_sem,t10,q0,q1]) ⟨_,_,rfl,rfl,⟨hBw,hT.on 4 rfl rfl⟩⟩
  ·refine wpOp_runs (v:=.slice (some ⟨g,0,none⟩) n c) rfl rfl (by simp [execOp,go_sem,t0]) ⟨_,_,rfl,rfl,⟨hBw,hT.on 5 rfl rfl⟩⟩
  ·refine wpOp_runs (v:=.int .i64 (kj:Int)) rfl rfl (by simp [execOp,go_sem,t2]) ⟨_,_,rfl,rfl,⟨hBw,hT.on 6 rfl rfl⟩⟩
  ·have d5:=getD_ft (haf _ rfl ⟨5,.data⟩ (by simp) rfl)
   have e12:b.eval (.tmp 12) = .slice (some ⟨g,0,none⟩) n c:=by rw [hbe,eval_in _ _ _ 5 (by decide) rfl (by rw [hz0]; decide)]; exact hT.get 5 rfl d5
   have t12:=e12; simp only [Act.eval,Array.getD_eq_getD_getElem?] at t12
   have d6:=getD_ft (haf _ rfl ⟨6,.data⟩ (by simp) rfl)
   have e13:b.eval (.tmp 13) = .int .i64 (kj:Int):=by rw [hbe,eval_in _ _ _ 6 (by decide) rfl (by rw [hz0]; decide)]; exact hT.get 6 rfl d6
   have t13:=e13; simp only [Act.eval,Array.getD_eq_getD_getElem?] at t13
   refine wpOp_runs (v:=.pointer (some ⟨g,kj * 4,none⟩)) rfl rfl (by simp [execOp,go_sem,t12,t13,hjI,hj]) ⟨_,_,rfl,rfl,⟨hBw,hT.on 7 rfl rfl⟩⟩
  ·have d7:=getD_ft (haf _ rfl ⟨7,.data⟩ (by simp) rfl)
   have e14:b.eval (.tmp 14) = .pointer (some ⟨g,kj * 4,none⟩):=by rw [hbe,eval_in _ _ _ 7 (by decide) rfl (by rw [hz0]; decide)]; exact hT.get 7 rfl d7
   have t14:=e14; simp only [Act.eval,Array.getD_eq_getD_getElem?] at t14
   refine wpOp_runs (v:=.pointer (some ⟨g,kj * 4,none⟩)) rfl rfl (by simp [execOp,go_sem,t14]) ⟨_,_,rfl,rfl,⟨hBw,hT.on 8 rfl rfl⟩⟩
  ·have d8:=getD_ft (haf _ rfl ⟨8,.data⟩ (by simp) rfl)
   have e15:b.eval (.tmp 15) = .pointer (some ⟨g,kj * 4,none⟩):=by rw [hbe,eval_in _ _ _ 8 (by decide) rfl (by rw [hz0]; decide)]; exact hT.get 8 rfl d8
   have t15:=e15; simp only [Act.eval,Array.getD_eq_getD_getElem?] at t15
   obtain ⟨q0,q1,q2,q3⟩:=HC.out _ hBw
   refine wpOp_runs (v:=.agg #[.slice v.A v.n v.c,.int .i64 v.t]) rfl rfl (by simp [execOp,go_sem,t15,q2,q3]) ⟨_,_,rfl,rfl,⟨hBw,hT.on 9 rfl rfl⟩⟩
  ·have d4:=getD_ft (haf _ rfl ⟨4,.data⟩ (by simp) rfl)
   have e11:b.eval (.tmp 11) = .agg #[.slice u.A u.n u.c,.int .i64 u.t]:=by rw [hbe,eval_in _ _ _ 4 (by decide) rfl (by rw [hz0]; decide)]; exact hT.get 4 rfl d4
   have t11:=e11; simp only [Act.eval,Array.getD_eq_getD_getElem?] at t11
   have d9:=getD_ft (haf _ rfl ⟨9,.data⟩ (by simp) rfl)
   have e16:b.eval (.tmp 16) = .agg #[.slice v.A v.n v.c,.int .i64 v.t]:=by rw [hbe,eval_in _ _ _ 9 (by decide) rfl (by rw [hz0]; decide)]; exact hT.get 9 rfl d9
   have t16:=e16; simp only [Act.eval,Array.getD_eq_getD_getElem?] at t16
   refine wpOp_of rfl ?_
   refine step_call rfl 25 #[.tmp 11,.tmp 16] _ rfl #[.agg #[.slice u.A u.n u.c,.int .i64 u.t],.agg #[.slice v.A v.n v.c,.int .i64 v.t]] (by simp [e11,e16]) Tryz.func25 rfl rfl ?_
   refine (oless_any u.A v.A u.n u.c v.n v.c u.H v.H u.t v.t w' HX.out.hl HY.out.hl (by have:=HX.out.hn; omega) (by have:=HY.out.hn; omega) (HX.out.hs.up hBw) (HY.out.hs.up hBw) bb HBV.out).mono ?_
   rintro e w'' ⟨rfl,hb⟩
   exact ⟨_,rfl,_,_,rfl,rfl,⟨hBw.trans (hb.mono hBw.size),hT.on 10 rfl rfl⟩⟩
  ·have d10:=getD_ft (haf _ rfl ⟨10,.data⟩ (by simp) rfl)
   have e17:b.eval (.tmp 17) = .bool bb:=by rw [hbe,eval_in _ _ _ 10 (by decide) rfl (by rw [hz0]; decide)]; exact hT.get 10 rfl d10
   have t17:=e17; simp only [Act.eval,Array.getD_eq_getD_getElem?] at t17
   refine wpOp_runs (v:=.bool bb) rfl rfl (by simp [execOp,go_sem,t17]) ⟨_,_,rfl,rfl,⟨hBw,hT.on 11 rfl rfl⟩⟩
 intro V x w5 hall hF
 obtain ⟨hBw,hT⟩:=hF
 have hx0:=hT.get 0 rfl (hall 0 (by decide))
 have hx1:=hT.get 1 rfl (hall 1 (by decide))
 have hx2:=hT.get 2 rfl (hall 2 (by decide))
 have hx3:=hT.get 3 rfl (hall 3 (by decide))
 have hx4:=hT.get 4 rfl (hall 4 (by decide))
 have hx5:=hT.get 5 rfl (hall 5 (by decide))
 have hx6:=hT.get 6 rfl (hall 6 (by decide))
 have hx7:=hT.get 7 rfl (hall 7 (by decide))
 have hx8:=hT.get 8 rfl (hall 8 (by decide))
 have hx9:=hT.get 9 rfl (hall 9 (by decide))
 have hx10:=hT.get 10 rfl (hall 10 (by decide))
 have hx11:=hT.get 11 rfl (hall 11 (by decide))
 clear hall  hT
 subst ha0
 simp only [List.map_cons,List.map_nil,putAll,hx0,hx1,hx2,hx3,hx4,hx5,hx6,hx7,hx8,hx9,hx10,hx11]
 clear hx0 hx1 hx2 hx3 hx4 hx5 hx6 hx7 hx8 hx9 hx10 hx11
 go_simp
 go_wp2_with fail
 go_ret
 exact ⟨rfl,hBw⟩
set_option maxHeartbeats 4000000 in
set_option maxRecDepth 100000 in
theorem bswap_any (g c n ki kj:Nat) (d:List Bx) (base:Nat) (w:World) (hd:d.length = n) (hn:n ≤ 10000000) (h:BrRow w base (.slice (some ⟨g,0,none⟩) n c) d) (hi:ki < n) (hj:kj < n) :
  Calls Tryz.prog 218 #[.slice (some ⟨g,0,none⟩) n c,.int .i64 (ki:Int),.int .i64 (kj:Int)] w fun e w' => e = .returned (.tuple #[]) ∧ BrRow w' base (.slice (some ⟨g,0,none⟩) n c) (Bp.swp d ki kj) ∧ Kept (fun k => k = g) w w':=by
 subst hd
 obtain ⟨u,hx⟩:∃ u,gt d ki = u:=⟨_,rfl⟩
 obtain ⟨v,hy⟩:∃ v,gt d kj = v:=⟨_,rfl⟩
 have c0:w.cell? ⟨g,ki * 4,none⟩ = some (.slice u.A u.n u.c):=by rw [← hx]; exact h.cell (j:=0) hi (by omega)
 have c1:w.cell? ⟨g,ki * 4 + 1,none⟩ = some (.int .i64 u.t):=by rw [← hx]; exact h.cell (j:=1) hi (by omega)
 have c2:w.cell? ⟨g,ki * 4 + 2,none⟩ = some (.int .i64 (u.r:Int)):=by rw [← hx]; exact h.cell (j:=2) hi (by omega)
 have c3:w.cell? ⟨g,ki * 4 + 3,none⟩ = some (.slice u.Ab u.nb u.cb):=by rw [← hx]; exact h.cell (j:=3) hi (by omega)
 have d0:w.cell? ⟨g,kj * 4,none⟩ = some (.slice v.A v.n v.c):=by rw [← hy]; exact h.cell (j:=0) hj (by omega)
 have d1:w.cell? ⟨g,kj * 4 + 1,none⟩ = some (.int .i64 v.t):=by rw [← hy]; exact h.cell (j:=1) hj (by omega)
 have d2:w.cell? ⟨g,kj * 4 + 2,none⟩ = some (.int .i64 (v.r:Int)):=by rw [← hy]; exact h.cell (j:=2) hj (by omega)
 have d3:w.cell? ⟨g,kj * 4 + 3,none⟩ = some (.slice v.Ab v.nb v.cb):=by rw [← hy]; exact h.cell (j:=3) hj (by omega)
 have z0:=h.row.frozenAt (ki * 4)
 have z1:=h.row.frozenAt (ki * 4 + 1)
 have z2:=h.row.frozenAt (ki * 4 + 2)
 have z3:=h.row.frozenAt (ki * 4 + 3)
 have y0:=h.row.frozenAt (kj * 4)
 have y1:=h.row.frozenAt (kj * 4 + 1)
 have y2:=h.row.frozenAt (kj * 4 + 2)
 have y3:=h.row.frozenAt (kj * 4 + 3)
 have hiI:(ki:Int) < (d.length:Int):=by omega
 have hjI:(kj:Int) < (d.length:Int):=by omega
 have hfin:∀ w':World,w' = ((((((((w.setCell ⟨g,ki * 4,none⟩ (.slice v.A v.n v.c)).setCell ⟨g,ki * 4 + 1,none⟩ (.int .i64 v.t)).setCell ⟨g,ki * 4 + 2,none⟩ (.int .i64 (v.r:Int))).setCell ⟨g,ki * 4 + 3,none⟩ (.slice v.Ab v.nb v.cb)).setCell ⟨g,kj * 4,none⟩ (.slice u.A u.n u.c)).setCell ⟨g,kj * 4 + 1,none⟩ (.int .i64 u.t)).setCell ⟨g,kj * 4 + 2,none⟩ (.int .i64 (u.r:Int))).setCell ⟨g,kj * 4 + 3,none⟩ (.slice u.Ab u.nb u.cb)).drew → BrRow w' base (.slice (some ⟨g,0,none⟩) d.length c) (Bp.swp d ki kj) ∧ Kept (fun k => k = g) w w':=by
  rintro w' rfl
  have hu:u ∈ d:=hx ▸ gt_mem hi
  have hv:v ∈ d:=hy ▸ gt_mem hj
  obtain ⟨h1,k1⟩:=h.store rfl hi (h.ok v hv) (h.off v hv g rfl)
  have K1:Kept (fun k => k = g) w _:=Kept.of_grown k1 (fun k e _ => by simpa using e.symm)
  obtain ⟨h2,k2⟩:=h1.store (by simp) (k:=kj) (x:=u) (by simpa using hj) ((h.ok u hu).kept K1 (fun g' e => by subst e; exact h.off u hu _ rfl)) (h.off u hu g rfl)
  have K2:Kept (fun k => k = g) w _:=Kept.of_grown (grown_drew (grown_trans k1 k2)) (fun k e _ => by simpa using e.symm)
  refine ⟨?_,K2⟩
  have e:Bp.swp d ki kj = (d.set ki v).set kj u:=by unfold Bp.swp; rw [hx,hy]
  rw [e]
  exact h2.kept (S:=fun _ => False) (Kept.refl _ _).drew (fun x _ g' f => f.elim) (fun _ _ f => f)
 have H:=Lib.hid hfin
 have HUV:Hid (ki = kj → u = v):=fun e => by subst e; exact hx.symm.trans hy
 clear h hx hy hfin
 go_enter Tryz.func218,Tryz.ntmps218
 rcases Nat.lt_trichotomy ki kj with hlt | heq | hlt
 ·go_region
  go_end0
  exact ⟨rfl,H.out _ rfl⟩
 ·subst heq
  obtain rfl:=HUV.out rfl
  go_region
  go_end0
  exact ⟨rfl,H.out _ rfl⟩
 ·go_region
  go_end0
  exact ⟨rfl,H.out _ rfl⟩

end Go.Proofs.YtodcoockhkghdaaGreat
