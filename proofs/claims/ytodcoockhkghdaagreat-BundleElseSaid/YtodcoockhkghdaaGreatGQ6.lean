/- Several texts of mine in one: Mem, HeapMath, Heap, HeapR. No condition. -/
import Derived.Test.YtodcoockhkghdaaGreatGQ4
import Derived.Test.YtodcoockhkghdaaGreatChecked
namespace Go.Proofs.YtodcoockhkghdaaGreat
open Go.ChangeShapes Go.WideShapes Go.ChangeAt Go.RowKit Go.Sort
set_option linter.unusedSimpArgs false
set_option linter.unusedVariables false

def Blok (w:World) (g:Nat) (t:TypeId) (cs:Array Value):Prop:=w.heap[g]? = some (.cells cs t (0,0))
section
variable {w w':World} {g:Nat} {t:TypeId} {cs:Array Value}
theorem Blok.lt (h:Blok w g t cs):g < w.heap.size:=lt_of_block h
theorem Blok.cell (h:Blok w g t cs) (i:Nat):w.cell? ⟨g,i,none⟩ = cs[i]?:=cell_of_row w g i cs t (0,0) h
theorem Blok.free (h:Blok w g t cs) (i:Nat):w.frozen? ⟨g,i,none⟩ = false:=by
 unfold Blok at h; simp [World.frozen?,h]
theorem Blok.grown {row:Option Nat} (h:Blok w g t cs) (hb:w.grownBy w' row) (hg:some g ≠ row):Blok w' g t cs:=(hb.block g h.lt hg).trans h
theorem Blok.below {B:Nat} (h:Blok w g t cs) (hb:Below B w w') (hg:g < B):Blok w' g t cs:=(hb.block g hg).trans h
theorem Blok.ne_own {base:Nat} {e:TypeId} {size n:Nat} {v:Value} {xs:List Value} (h:w.ownsRow base e size v n xs) (hg:Blok w g t cs) (hne:e ≠ t):v.ownBlock ≠ some g:=by
 rcases h.2 with ⟨rfl,_⟩ | ⟨g',cap,cur,rfl,_,hh,_⟩
 ·simp [Value.ownBlock]
 ·intro he
  have:g' = g:=by simpa [Value.ownBlock] using he
  subst this
  unfold Blok at hg
  rw [hg] at hh
  injection hh with hh
  injection hh with _ ht
  exact hne ht.symm
theorem Blok.over {W:World} {row:Option Nat} (h:Blok w g t cs) (hg:W.grownBy w' row) (hr:row ≠ some g) (hb:Below w.heap.size w W):Blok w' g t cs:=(h.below hb h.lt).grown hg (fun e => hr e.symm)
theorem grown_of_below {row:Option Nat} (hb:Below w.heap.size w w'):w.grownBy w' row:=⟨hb.os,hb.tape,hb.output,hb.size,fun k hk _ => hb.block k hk⟩
theorem grown_refl (w:World) (row:Option Nat):w.grownBy w row:=⟨rfl,rfl,rfl,Nat.le_refl _,fun _ _ _ => rfl⟩
theorem grown_trans {w'':World} {row:Option Nat} (h:w.grownBy w' row) (k:w'.grownBy w'' row):w.grownBy w'' row:=
 ⟨k.os.trans h.os,k.tape.trans h.tape,k.output.trans h.output,Nat.le_trans h.size k.size,fun i hi hr => (k.block i (Nat.lt_of_lt_of_le hi h.size) hr).trans (h.block i hi hr)⟩
theorem grown_drew {row:Option Nat} (h:w.grownBy w' row):w.grownBy w'.drew row:=⟨h.os,h.tape,h.output,h.size,h.block⟩
theorem grown_set {g:Nat} (w:World) (i:Nat) (u:Value):w.grownBy (w.setCell ⟨g,i,none⟩ u) (some g):=
 ⟨rfl,rfl,rfl,by simp,fun k _ hne => Below.heap_setCell w ⟨g,i,none⟩ u k (fun e => hne (by simp at e; rw [e]))⟩
end
theorem slice_of_own {w:World} {base:Nat} {e:TypeId} {size n:Nat} {v:Value} {xs:List Value} (h:w.ownsRow base e size v n xs):∃ A c,v = .slice A n c:=by
 rcases h.2 with ⟨rfl,rfl⟩ | ⟨g',cap,cur,rfl,_,_,_⟩
 ·exact ⟨_,_,rfl⟩
 ·exact ⟨_,_,rfl⟩
theorem lit_cells (w:World) (cs:Array Value) (t:TypeId) (g:Nat) (hg:g = w.heap.size):∀ j u,cs.toList[j]? = some u → (w.alloc (.cells cs t)).cell? ((⟨g,0,none⟩:Addr).add j) = some u:=by
 intro j u hj
 subst hg
 have e:((⟨w.heap.size,0,none⟩:Addr).add j) = ⟨w.heap.size,j,none⟩:=by
  unfold Addr.add; split <;> simp_all
 rw [e]
 rw [cell_of_block (cs:=cs) (t:=t) (fr:=(0,0)) (by show (w.heap.push _)[w.heap.size]? = _; simp)]
 simpa using hj
def flat2 (d:List (Int × Int)):List Value:=d.flatMap fun p => [.int .i64 p.1,.int .i64 p.2]
theorem flat2_cons (p:Int × Int) (d:List (Int × Int)):flat2 (p :: d) = .int .i64 p.1 :: .int .i64 p.2 :: flat2 d:=rfl
theorem flat2_append (d e:List (Int × Int)):flat2 (d ++ e) = flat2 d ++ flat2 e:=by simp [flat2]
theorem flat2_fst:∀ (d:List (Int × Int)) (i:Nat),i < d.length → (flat2 d)[i * 2]? = some (.int .i64 (d.getD i (0,0)).1)
 | p :: d,0,_ => rfl
 | p :: d,i + 1,h => by
  rw [flat2_cons,show (i + 1) * 2 = i * 2 + 1 + 1 from by omega,List.getElem?_cons_succ,List.getElem?_cons_succ,flat2_fst d i (by simpa using h)]
  rfl
theorem flat2_snd:∀ (d:List (Int × Int)) (i:Nat),i < d.length → (flat2 d)[i * 2 + 1]? = some (.int .i64 (d.getD i (0,0)).2)
 | p :: d,0,_ => rfl
 | p :: d,i + 1,h => by
  rw [flat2_cons,show (i + 1) * 2 + 1 = i * 2 + 1 + 1 + 1 from by omega,List.getElem?_cons_succ,List.getElem?_cons_succ,flat2_snd d i (by simpa using h)]
  rfl
theorem flat2_set:∀ (d:List (Int × Int)) (i:Nat) (p:Int × Int),((flat2 d).set (i * 2) (.int .i64 p.1)).set (i * 2 + 1) (.int .i64 p.2) = flat2 (d.set i p)
 | [],i,p => by simp [flat2]
 | q :: d,0,p => rfl
 | q :: d,i + 1,p => by
  rw [flat2_cons,show (i + 1) * 2 = i * 2 + 1 + 1 from by omega,List.set_cons_succ,List.set_cons_succ,List.set_cons_succ,List.set_cons_succ,flat2_set d i p]
  rfl
theorem flat2_take:∀ (d:List (Int × Int)) (n:Nat),(flat2 d).take (n * 2) = flat2 (d.take n)
 | _,0 => by simp [flat2]
 | [],n + 1 => by simp [flat2]
 | p :: d,n + 1 => by
  rw [flat2_cons,show (n + 1) * 2 = n * 2 + 1 + 1 from by omega,List.take_succ_cons,List.take_succ_cons,flat2_take d n]
  rfl
end Go.Proofs.YtodcoockhkghdaaGreat
namespace Go.Proofs.YtodcoockhkghdaaGreat.Hp
abbrev Rd:=Int × Int
def ahd (a b:Rd):Bool:=decide (a.2 < b.2 ∨ a.2 = b.2 ∧ a.1 < b.1)
theorem ahd_iff {a b:Rd}:ahd a b = true ↔ a.2 < b.2 ∨ a.2 = b.2 ∧ a.1 < b.1:=by simp [ahd]
theorem ahd_no {a b:Rd}:ahd a b = false ↔ ¬ (a.2 < b.2 ∨ a.2 = b.2 ∧ a.1 < b.1):=by rw [← ahd_iff]; simp
theorem ahd_irr (a:Rd):ahd a a = false:=by rw [ahd_no]; omega
theorem nle_trans {a b c:Rd} (h1:ahd b a = false) (h2:ahd c b = false):ahd c a = false:=by
 rw [ahd_no] at *; omega
theorem nle_of_ahd {a b:Rd} (h:ahd a b = true):ahd b a = false:=by
 rw [ahd_iff] at h; rw [ahd_no]; omega
theorem ahd_antisymm {a b:Rd} (h1:ahd b a = false) (h2:ahd a b = false):a = b:=by
 rw [ahd_no] at *; exact Prod.ext (by omega) (by omega)
def gt (d:List Rd) (i:Nat):Rd:=d.getD i (0,0)
def swp (d:List Rd) (i j:Nat):List Rd:=(d.set i (gt d j)).set j (gt d i)
theorem swp_length (d:List Rd) (i j:Nat):(swp d i j).length = d.length:=by simp [swp]
theorem gt_set (d:List Rd) (i k:Nat) (x:Rd) (hi:i < d.length):gt (d.set i x) k = if k = i then x else gt d k:=by
 unfold gt
 rw [List.getD_eq_getElem?_getD,List.getD_eq_getElem?_getD,List.getElem?_set]
 by_cases h:k = i
 ·subst h; simp [hi]
 ·rw [if_neg (fun e => h e.symm),if_neg h]
theorem gt_swp (d:List Rd) (i j k:Nat) (hi:i < d.length) (hj:j < d.length):gt (swp d i j) k = if k = j then gt d i else if k = i then gt d j else gt d k:=by
 unfold swp
 rw [gt_set _ _ _ _ (by simpa using hj),gt_set _ _ _ _ hi]
theorem gt_mem {d:List Rd} {i:Nat} (h:i < d.length):gt d i ∈ d:=by
 unfold gt; rw [List.getD_eq_getElem?_getD,List.getElem?_eq_getElem h]; simp
theorem swp_perm (d:List Rd) (i j:Nat) (hi:i < d.length) (hj:j < d.length):(swp d i j).Perm d:=by
 have h:=Array.swap_perm (xs:=d.toArray) (i:=i) (j:=j) (by simpa using hi) (by simpa using hj)
 rw [Array.perm_iff_toList_perm] at h
 have e:(d.toArray.swap i j (by simpa using hi) (by simpa using hj)).toList = swp d i j:=by
  unfold swp gt
  simp [Array.swap,hi,hj]
 rw [e] at h
 exact h
def isHeap (d:List Rd):Prop:=∀ j,0 < j → j < d.length → ahd (gt d j) (gt d ((j - 1) / 2)) = false
structure upInv (d:List Rd) (i:Nat):Prop where
 lt:i < d.length
 rest:∀ j,0 < j → j < d.length → j ≠ i → ahd (gt d j) (gt d ((j - 1) / 2)) = false
 kids:∀ j,0 < j → j < d.length → (j - 1) / 2 = i → 0 < i → ahd (gt d j) (gt d ((i - 1) / 2)) = false
theorem up_start {d:List Rd} (h:isHeap d) (r:Rd):upInv (d ++ [r]) d.length:=by
 have hg:∀ k,k < d.length → gt (d ++ [r]) k = gt d k:=by
  intro k hk; unfold gt; simp [List.getD_eq_getElem?_getD,List.getElem?_append_left hk]
 refine ⟨by simp,fun j h0 h1 h2 => ?_,fun j h0 h1 h2 _ => ?_⟩
 ·simp at h1
  rw [hg _ (by omega),hg _ (by omega)]
  exact h j h0 (by omega)
 ·simp at h1; omega
theorem up_end {d:List Rd} {i:Nat} (h:upInv d i) (he:i = 0 ∨ ahd (gt d i) (gt d ((i - 1) / 2)) = false):isHeap d:=by
 intro j h0 h1
 by_cases e:j = i
 ·subst e
  rcases he with he | he
  ·omega
  ·exact he
 ·exact h.rest j h0 h1 e
theorem up_step {d:List Rd} {i:Nat} (h:upInv d i) (h0:0 < i) (ha:ahd (gt d i) (gt d ((i - 1) / 2)) = true):upInv (swp d i ((i - 1) / 2)) ((i - 1) / 2):=by
 have hi:=h.lt
 have hp:(i - 1) / 2 < d.length:=by omega
 have hpi:(i - 1) / 2 < i:=by omega
 have G:=fun k => gt_swp d i ((i - 1) / 2) k hi hp
 refine ⟨by rw [swp_length]; exact hp,fun j j0 j1 j2 => ?_,fun j j0 j1 j2 p0 => ?_⟩
 ·rw [swp_length] at j1
  rw [G,G]
  rw [if_neg j2]
  by_cases e1:j = i
  ·subst e1
   rw [if_pos rfl,if_pos rfl]
   exact nle_of_ahd ha
  ·rw [if_neg e1]
   by_cases e2:(j - 1) / 2 = (i - 1) / 2
   ·rw [if_pos e2]
    have:=h.rest j j0 j1 e1
    rw [e2] at this
    exact nle_trans (nle_of_ahd ha) this
   ·rw [if_neg e2]
    by_cases e3:(j - 1) / 2 = i
    ·rw [if_pos e3]
     exact h.kids j j0 j1 e3 h0
    ·rw [if_neg e3]
     exact h.rest j j0 j1 e1
 ·rw [swp_length] at j1
  rw [G,G]
  rw [if_neg (by omega:¬ ((i - 1) / 2 - 1) / 2 = (i - 1) / 2),if_neg (by omega:¬ ((i - 1) / 2 - 1) / 2 = i)]
  have hpp:=h.rest ((i - 1) / 2) p0 hp (by omega)
  by_cases e0:j = (i - 1) / 2
  ·omega
  ·rw [if_neg e0]
   by_cases e1:j = i
   ·subst e1; rw [if_pos rfl]; exact hpp
   ·rw [if_neg e1]
    have:=h.rest j j0 j1 e1
    rw [j2] at this
    exact nle_trans hpp this
structure downInv (d:List Rd) (i:Nat):Prop where
 rest:∀ j,0 < j → j < d.length → (j - 1) / 2 ≠ i → ahd (gt d j) (gt d ((j - 1) / 2)) = false
 kids:∀ j,0 < j → j < d.length → (j - 1) / 2 = i → 0 < i → ahd (gt d j) (gt d ((i - 1) / 2)) = false
def pick (d:List Rd) (i:Nat):Nat:=
 let a:=if 2 * i + 1 < d.length ∧ ahd (gt d (2 * i + 1)) (gt d i) = true then 2 * i + 1 else i
 if 2 * i + 2 < d.length ∧ ahd (gt d (2 * i + 2)) (gt d a) = true then 2 * i + 2 else a
theorem pick_kid (d:List Rd) (i j:Nat) (j0:0 < j) (j1:j < d.length) (j2:(j - 1) / 2 = i):ahd (gt d j) (gt d (pick d i)) = false:=by
 have hj:j = 2 * i + 1 ∨ j = 2 * i + 2:=by omega
 unfold pick
 dsimp only
 rcases hj with rfl | rfl
 ·have key:∀ a,ahd (gt d (2 * i + 1)) (gt d a) = false → ahd (gt d (2 * i + 1)) (gt d (if 2 * i + 2 < d.length ∧ ahd (gt d (2 * i + 2)) (gt d a) = true then 2 * i + 2 else a)) = false:=by
   intro a ha
   split
   ·rename_i h; exact nle_trans (nle_of_ahd h.2) ha
   ·exact ha
  apply key
  split
  ·exact ahd_irr _
  ·rename_i h
   have:¬ ahd (gt d (2 * i + 1)) (gt d i) = true:=fun hh => h ⟨j1,hh⟩
   simpa using this
 ·by_cases a1:2 * i + 1 < d.length ∧ ahd (gt d (2 * i + 1)) (gt d i) = true
  ·rw [if_pos a1]
   split
   ·exact ahd_irr _
   ·rename_i h
    have:¬ ahd (gt d (2 * i + 2)) (gt d (2 * i + 1)) = true:=fun hh => h ⟨j1,hh⟩
    simpa using this
  ·rw [if_neg a1]
   split
   ·exact ahd_irr _
   ·rename_i h
    have:¬ ahd (gt d (2 * i + 2)) (gt d i) = true:=fun hh => h ⟨j1,hh⟩
    simpa using this
theorem pick_self (d:List Rd) (i:Nat):ahd (gt d i) (gt d (pick d i)) = false:=by
 unfold pick
 dsimp only
 by_cases a1:2 * i + 1 < d.length ∧ ahd (gt d (2 * i + 1)) (gt d i) = true
 ·rw [if_pos a1]
  split
  ·rename_i h; exact nle_trans (nle_of_ahd h.2) (nle_of_ahd a1.2)
  ·exact nle_of_ahd a1.2
 ·rw [if_neg a1]
  split
  ·rename_i h; exact nle_of_ahd h.2
  ·exact ahd_irr _
theorem pick_cases (d:List Rd) (i:Nat):pick d i = i ∨ (2 * i + 1 < d.length ∧ pick d i = 2 * i + 1) ∨ (2 * i + 2 < d.length ∧ pick d i = 2 * i + 2):=by
 unfold pick
 dsimp only
 by_cases a1:2 * i + 1 < d.length ∧ ahd (gt d (2 * i + 1)) (gt d i) = true
 ·rw [if_pos a1]
  split
  ·rename_i h; exact .inr (.inr ⟨h.1,rfl⟩)
  ·exact .inr (.inl ⟨a1.1,rfl⟩)
 ·rw [if_neg a1]
  split
  ·rename_i h; exact .inr (.inr ⟨h.1,rfl⟩)
  ·exact .inl rfl
theorem down_end {d:List Rd} {i:Nat} (h:downInv d i) (he:pick d i = i):isHeap d:=by
 intro j h0 h1
 by_cases e:(j - 1) / 2 = i
 ·have:=pick_kid d i j h0 h1 e
  rw [he,← e] at this
  exact this
 ·exact h.rest j h0 h1 e
theorem down_step {d:List Rd} {i:Nat} (h:downInv d i) (hi:i < d.length) (he:pick d i ≠ i):downInv (swp d i (pick d i)) (pick d i) ∧ i < pick d i ∧ pick d i < d.length ∧ (pick d i - 1) / 2 = i:=by
 have hc:=pick_cases d i
 have hk:=fun j j0 j1 j2 => pick_kid d i j j0 j1 j2
 have hs:=pick_self d i
 generalize pick d i = p at *
 have hp:p < d.length:=by omega
 have hpp:(p - 1) / 2 = i:=by omega
 have hip:i < p:=by omega
 have G:=fun k => gt_swp d i p k hi hp
 refine ⟨⟨fun j j0 j1 j2 => ?_,fun j j0 j1 j2 _ => ?_⟩,hip,hp,hpp⟩
 ·rw [swp_length] at j1
  rw [G,G]
  rw [if_neg j2]
  by_cases e1:j = p
  ·subst e1
   rw [if_pos rfl,if_pos hpp]
   exact hs
  ·rw [if_neg e1]
   by_cases e2:j = i
   ·subst e2
    rw [if_pos rfl,if_neg (by omega)]
    exact h.kids p (by omega) hp hpp j0
   ·rw [if_neg e2]
    by_cases e3:(j - 1) / 2 = i
    ·rw [if_pos e3]
     exact hk j j0 j1 e3
    ·rw [if_neg e3]
     exact h.rest j j0 j1 e3
 ·rw [swp_length] at j1
  rw [G,G,hpp]
  rw [if_neg (by omega:¬ i = p),if_pos rfl,if_neg (by omega:¬ j = p),if_neg (by omega:¬ j = i)]
  have:=h.rest j j0 j1 (by omega)
  rw [j2] at this
  exact this
theorem heap_min {d:List Rd} (h:isHeap d):∀ j,j < d.length → ahd (gt d j) (gt d 0) = false:=by
 intro j
 induction j using Nat.strongRecOn with
 | _ j ih =>
  intro hj
  by_cases e:j = 0
  ·subst e; exact ahd_irr _
  ·exact nle_trans (ih ((j - 1) / 2) (by omega) (by omega)) (h j (by omega) hj)
theorem heap_least {d:List Rd} (h:isHeap d) {x:Rd} (hx:x ∈ d):ahd x (gt d 0) = false:=by
 obtain ⟨i,hi,rfl⟩:=List.getElem_of_mem hx
 have:=heap_min h i hi
 have e:gt d i = d[i]:=by unfold gt; rw [List.getD_eq_getElem?_getD,List.getElem?_eq_getElem hi]; rfl
 rw [e] at this
 exact this
def cutF (d:List Rd):List Rd:=(d.set 0 (gt d (d.length - 1))).take (d.length - 1)
theorem cut_length (d:List Rd):(cutF d).length = d.length - 1:=by simp [cutF]
theorem gt_cut (d:List Rd) (k:Nat) (hk:k < d.length - 1):gt (cutF d) k = if k = 0 then gt d (d.length - 1) else gt d k:=by
 rw [← gt_set d 0 k _ (by omega)]
 unfold cutF gt
 rw [List.getD_eq_getElem?_getD,List.getElem?_take_of_lt hk,← List.getD_eq_getElem?_getD]
theorem cut_down {d:List Rd} (h:isHeap d):downInv (cutF d) 0:=by
 refine ⟨fun j j0 j1 j2 => ?_,fun j j0 j1 j2 p => by omega⟩
 rw [cut_length] at j1
 rw [gt_cut d j j1,gt_cut d _ (by omega),if_neg (by omega),if_neg j2]
 exact h j j0 (by omega)
theorem cut_perm {d:List Rd} (h:0 < d.length):(gt d 0 :: cutF d).Perm d:=by
 match d,h with
 | a :: l,_ =>
  rcases List.eq_nil_or_concat l with rfl | ⟨m,b,rfl⟩
  ·simp [cutF,gt]
  ·have e1:gt (a :: m.concat b) 0 = a:=rfl
   have e2:cutF (a :: m.concat b) = b :: m:=by
    unfold cutF gt
    simp [List.getD_eq_getElem?_getD]
   rw [e1,e2]
   refine List.Perm.cons _ ?_
   rw [List.concat_eq_append]
   exact (List.perm_append_singleton b m).symm
end Go.Proofs.YtodcoockhkghdaaGreat.Hp
namespace Go.Proofs.YtodcoockhkghdaaGreat
open Go.ChangeShapes Go.WideShapes Go.ChangeAt Go.RowKit Go.Sort Hp
set_option linter.unusedSimpArgs false
set_option linter.unusedVariables false

theorem ahead_any (a b:Int × Int) (w:World) :
  Calls Tryz.prog 186 #[.agg #[.int .i64 a.1,.int .i64 a.2],.agg #[.int .i64 b.1,.int .i64 b.2]] w fun e w' => e = .returned (.bool (ahd a b)) ∧ Below w.heap.size w w':=by
 obtain ⟨an,aa⟩:=a
 obtain ⟨bn,ba⟩:=b
 by_cases h1:aa < ba
 ·go_enter Tryz.func186,Tryz.ntmps186
  go_wp2
  all_goals go_ret
  all_goals exact ⟨by simp [ahd,h1],by (repeat (first | exact Below.refl _ _ | refine Below.alloc ?_ (by first | omega | (simp; done) | (simp; omega)) _ | refine Below.setCell ?_ (by first | omega | (simp; done) | (simp; omega)) _ | refine Below.drew ?_))⟩
 ·by_cases h2:aa = ba
  ·subst h2
   by_cases h3:an < bn
   all_goals
    go_enter Tryz.func186,Tryz.ntmps186
    go_wp2
    all_goals go_ret
    all_goals exact ⟨by simp [ahd,h3],by (repeat (first | exact Below.refl _ _ | refine Below.alloc ?_ (by first | omega | (simp; done) | (simp; omega)) _ | refine Below.setCell ?_ (by first | omega | (simp; done) | (simp; omega)) _ | refine Below.drew ?_))⟩
  ·have h2':(aa == ba) = false:=by simpa using h2
   go_enter Tryz.func186,Tryz.ntmps186
   go_wp2
   all_goals go_ret
   all_goals exact ⟨by simp [ahd,h1,h2],by (repeat (first | exact Below.refl _ _ | refine Below.alloc ?_ (by first | omega | (simp; done) | (simp; omega)) _ | refine Below.setCell ?_ (by first | omega | (simp; done) | (simp; omega)) _ | refine Below.drew ?_))⟩
structure HeapAt (w:World) (hb g cap:Nat) (d:List (Int × Int)):Prop where
 head:Blok w hb 223 #[.slice (some ⟨g,0,none⟩) d.length cap]
 row:w.ownsRow 0 150 2 (.slice (some ⟨g,0,none⟩) d.length cap) d.length (flat2 d)
theorem HeapAt.fst {w:World} {hb g cap:Nat} {d:List (Int × Int)} (h:HeapAt w hb g cap d) {k:Nat} (hk:k < d.length):w.cell? ⟨g,k * 2,none⟩ = some (.int .i64 (gt d k).1):=by
 rw [h.row.cellAt (k * 2) (by omega),flat2_fst d k hk]; rfl
theorem HeapAt.snd {w:World} {hb g cap:Nat} {d:List (Int × Int)} (h:HeapAt w hb g cap d) {k:Nat} (hk:k < d.length):w.cell? ⟨g,k * 2 + 1,none⟩ = some (.int .i64 (gt d k).2):=by
 rw [h.row.cellAt (k * 2 + 1) (by omega),flat2_snd d k hk]; rfl

theorem HeapAt.grown {w w':World} {hb g cap:Nat} {row:Option Nat} {d:List (Int × Int)} (h:HeapAt w hb g cap d) (hg:w.grownBy w' row) (h1:row ≠ some hb) (h2:row ≠ some g):HeapAt w' hb g cap d:=
 ⟨h.head.grown hg (fun e => h1 e.symm),h.row.kept hg (.inr (by simp only [Value.ownBlock]; exact fun e => h2 e.symm))⟩
theorem HeapAt.ne_ {w:World} {hb g cap:Nat} {d:List (Int × Int)} (h:HeapAt w hb g cap d):hb ≠ g:=by
 have:=Blok.ne_own h.row h.head (by decide)
 simp only [Value.ownBlock] at this
 exact fun e => this (by rw [e])

theorem HeapAt.drew {w:World} {hb g cap:Nat} {d:List (Int × Int)} (h:HeapAt w hb g cap d):HeapAt w.drew hb g cap d:=
 h.grown (row:=none) (grown_drew (grown_refl _ _)) (by simp) (by simp)
theorem HeapAt.store {w:World} {hb g cap:Nat} {d:List (Int × Int)} (h:HeapAt w hb g cap d) (k:Nat) (x:Int × Int) :
  HeapAt ((w.setCell ⟨g,k * 2,none⟩ (.int .i64 x.1)).setCell ⟨g,k * 2 + 1,none⟩ (.int .i64 x.2)) hb g cap (d.set k x) ∧ w.grownBy ((w.setCell ⟨g,k * 2,none⟩ (.int .i64 x.1)).setCell ⟨g,k * 2 + 1,none⟩ (.int .i64 x.2)) (some g):=by
 obtain ⟨r1,g1⟩:=h.row.stored (k * 2) (.int .i64 x.1)
 obtain ⟨r2,g2⟩:=r1.stored (k * 2 + 1) (.int .i64 x.2)
 have hg:=grown_trans g1 g2
 refine ⟨⟨?_,?_⟩,hg⟩
 ·rw [List.length_set]
  exact h.head.grown hg (fun e => h.ne_ (by simpa using e))
 ·rw [List.length_set,← flat2_set]
  exact r2
theorem HeapAt.swap {w:World} {hb g cap:Nat} {d:List (Int × Int)} (h:HeapAt w hb g cap d) {k p:Nat} (hk:k < d.length) (hp:p < d.length) :
  HeapAt ((((w.setCell ⟨g,k * 2,none⟩ (.int .i64 (gt d p).1)).setCell ⟨g,k * 2 + 1,none⟩ (.int .i64 (gt d p).2)).setCell ⟨g,p * 2,none⟩ (.int .i64 (gt d k).1)).setCell ⟨g,p * 2 + 1,none⟩ (.int .i64 (gt d k).2)) hb g cap (swp d k p) ∧
   w.grownBy ((((w.setCell ⟨g,k * 2,none⟩ (.int .i64 (gt d p).1)).setCell ⟨g,k * 2 + 1,none⟩ (.int .i64 (gt d p).2)).setCell ⟨g,p * 2,none⟩ (.int .i64 (gt d k).1)).setCell ⟨g,p * 2 + 1,none⟩ (.int .i64 (gt d k).2)) (some g):=by
 obtain ⟨h1,g1⟩:=h.store k (gt d p)
 obtain ⟨h2,g2⟩:=h1.store p (gt d k)
 exact ⟨h2,grown_trans g1 g2⟩

set_option maxHeartbeats 2000000 in
set_option maxRecDepth 100000 in
theorem rise_any (hb g cap i:Nat) (d0:List (Int × Int)) (w:World) (hcap:d0.length ≤ cap) (hsz:d0.length ≤ 1000000) (h0:HeapAt w hb g cap d0) (hu:upInv d0 i) :
  Calls Tryz.prog 180 #[.pointer (some ⟨hb,0,none⟩),.int .i64 i] w fun e w' => e = .returned (.tuple #[]) ∧ ∃ d',d'.length = d0.length ∧ d'.Perm d0 ∧ isHeap d' ∧ HeapAt w' hb g cap d' ∧ w.grownBy w' (some g):=by
  go_enter Tryz.func180,Tryz.ntmps180
  go_wp2
  refine wp_scope_label (fun a' w' => ∃ (k:Nat) (d:List (Int × Int)),d.length = d0.length ∧ d.Perm d0 ∧ upInv d k ∧ HeapAt w' hb g cap d ∧ w.grownBy w' (some g) ∧ ∃ u2 u3 u4 u5 u6 u7 u8 u9 u10 u11 u12 u13 u14 u15 u16 u17 u18 u19 u20 u21 u22 u23 u24 u25 u26 u27 u28 u29 u30 u31 u32 u33 u34 u35 u36 u37 u38 u39 u40 u41 u42 u43 u44 u45 u46 u47 u48 u49 u50 u51 u52 u53:Value,a' = { tmps:=#[.pointer (some ⟨hb,0,none⟩),.int .i64 k,u2,u3,u4,u5,u6,u7,u8,u9,u10,u11,u12,u13,u14,u15,u16,u17,u18,u19,u20,u21,u22,u23,u24,u25,u26,u27,u28,u29,u30,u31,u32,u33,u34,u35,u36,u37,u38,u39,u40,u41,u42,u43,u44,u45,u46,u47,u48,u49,u50,u51,u52,u53],defers:=[] })
   (fun a' _ => (intOf (a'.tmps.getD 1 undef)).toNat) ?_ ?_
  ·exact ⟨i,d0,rfl,List.Perm.refl _,hu,h0,grown_refl _ _,_,_,_,_,_,_,_,_,_,_,_,_,_,_,_,_,_,_,_,_,_,_,_,_,_,_,_,_,_,_,_,_,_,_,_,_,_,_,_,_,_,_,_,_,_,_,_,_,_,_,_,_,rfl⟩
  ·rintro a' wr ⟨k,d,hd,hp,hi,hA,hg,⟨u2,u3,u4,u5,u6,u7,u8,u9,u10,u11,u12,u13,u14,u15,u16,u17,u18,u19,u20,u21,u22,u23,u24,u25,u26,u27,u28,u29,u30,u31,u32,u33,u34,u35,u36,u37,u38,u39,u40,u41,u42,u43,u44,u45,u46,u47,u48,u49,u50,u51,u52,u53,rfl⟩⟩
   have cb:wr.cell? ⟨hb,0,none⟩ = some (.slice (some ⟨g,0,none⟩) d.length cap):=hA.head.cell 0
   have hk:=hi.lt
   have hne:=hA.ne_
   by_cases k0:0 < k
   ·obtain ⟨p,hpe⟩:∃ p:Nat,(k - 1) / 2 = p:=⟨_,rfl⟩
    have hpi:((k:Int) - 1) / 2 = (p:Int):=by omega
    have HPI:=Lib.hid hpi
    have HPE:=Lib.hid hpe
    have hpk:p < d.length:=by omega
    have hdc:d.length ≤ cap:=by omega
    have hdm:d.length ≤ 1000000:=by omega
    have hkp:p < k:=by omega
    have ck0:=hA.fst hk
    have ck1:=hA.snd hk
    have cp0:=hA.fst hpk
    have cp1:=hA.snd hpk
    have hdh:=Lib.hid hd
    clear hpi hpe hd
    go_wp2
    rw [HPI.out]
    go_wp2_with fail
    have q_cb:=fun d os => cell_regrown cb d os
    have q_ck0:=fun d os => cell_regrown ck0 d os
    have q_ck1:=fun d os => cell_regrown ck1 d os
    have q_cp0:=fun d os => cell_regrown cp0 d os
    have q_cp1:=fun d os => cell_regrown cp1 d os
    cases ha:ahd (gt d k) (gt d p)
    ·have HA:=Lib.hid ha
     clear ha
     try simp only [List.append]
     first | refine wp_region_text_below ?_ | refine wp_region_quiet_below (by kernel_rfl) (by kernel_rfl) ?_
     repeat (go_big_quiet_step ((go_at_call 186; with_reducible exact Calls.regrown_of (HA.out ▸ ahead_any (gt d k) (gt d p) _))))
     refine wpQuiet_nil ?_
     intro _ hqw
     obtain ⟨pq,hqw⟩:=hqw
     subst hqw
     clear q_cb q_ck0 q_ck1 q_cp0 q_cp1
     have hbel:=below_regrown wr pq.d pq.os
     generalize hwq:grow (redrawn wr pq.d) pq.os = wq at *
     have hA2:=hA.grown (grown_of_below (row:=none) hbel) (by simp) (by simp)
     have hg2:=grown_trans hg (grown_of_below (row:=some g) hbel)
     clear hwq cb ck0 ck1 cp0 cp1 hbel
     go_wp2
     simp only [Exit.jump]
     go_end0
     exact ⟨rfl,d,hdh.out,hp,up_end hi (.inr (by rw [HPE.out]; exact HA.out)),hA2,hg2⟩
    ·have HA:=Lib.hid ha
     clear ha
     try simp only [List.append]
     first | refine wp_region_text_below ?_ | refine wp_region_quiet_below (by kernel_rfl) (by kernel_rfl) ?_
     repeat (go_big_quiet_step ((go_at_call 186; with_reducible exact Calls.regrown_of (HA.out ▸ ahead_any (gt d k) (gt d p) _))))
     refine wpQuiet_nil ?_
     intro _ hqw
     obtain ⟨pq,hqw⟩:=hqw
     subst hqw
     clear q_cb q_ck0 q_ck1 q_cp0 q_cp1
     have hbel:=below_regrown wr pq.d pq.os
     generalize hwq:grow (redrawn wr pq.d) pq.os = wq at *
     have hA2:=hA.grown (grown_of_below (row:=none) hbel) (by simp) (by simp)
     have hg2:=grown_trans hg (grown_of_below (row:=some g) hbel)
     clear hwq cb ck0 ck1 cp0 cp1 hbel
     have cb:wq.cell? ⟨hb,0,none⟩ = some (.slice (some ⟨g,0,none⟩) d.length cap):=hA2.head.cell 0
     have ck0:=hA2.fst hk
     have ck1:=hA2.snd hk
     have cp0:=hA2.fst hpk
     have cp1:=hA2.snd hpk
     have fk0:=hA2.row.frozenAt (k * 2)
     have fk1:=hA2.row.frozenAt (k * 2 + 1)
     have fp0:=hA2.row.frozenAt (p * 2)
     have fp1:=hA2.row.frozenAt (p * 2 + 1)
     go_wp2_with fail
     go_region
     go_wp2
     have hS:=hA2.swap hk hpk
     go_step3
     refine ⟨rfl,⟨p,swp d k p,by rw [swp_length]; exact hdh.out,(swp_perm d k p hk hpk).trans hp,by have:=up_step hi k0 (by rw [HPE.out]; exact HA.out); rw [HPE.out] at this; exact this,hS.1.drew,grown_trans hg2 (grown_drew hS.2),_,_,_,_,_,_,_,_,_,_,_,_,_,_,_,_,_,_,_,_,_,_,_,_,_,_,_,_,_,_,_,_,_,_,_,_,_,_,_,_,_,_,_,_,_,_,_,_,_,_,_,_,rfl⟩,?_⟩
     simp [intOf]
     omega
   ·obtain rfl:k = 0:=by omega
    go_wp2
    go_wp2_with fail
    try simp only [List.append]
    first | refine wp_region_text_below ?_ | refine wp_region_quiet_below (by kernel_rfl) (by kernel_rfl) ?_
    repeat (go_big_quiet_step ((fail)))
    refine wpQuiet_nil ?_
    intro _ hqw
    obtain ⟨pq,hqw⟩:=hqw
    subst hqw
    have hbel:=below_regrown wr pq.d pq.os
    generalize hwq:grow (redrawn wr pq.d) pq.os = wq at *
    have hA2:=hA.grown (grown_of_below (row:=none) hbel) (by simp) (by simp)
    have hg2:=grown_trans hg (grown_of_below (row:=some g) hbel)
    clear hwq cb hbel
    go_wp2
    simp only [Exit.jump]
    go_end0
    exact ⟨rfl,d,hd,hp,up_end hi (.inl rfl),hA2,hg2⟩
end Go.Proofs.YtodcoockhkghdaaGreat
