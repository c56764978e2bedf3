/- api.Contact: its cells, lists of it. No condition. -/
import Derived.Test.YtjldgcebadojiaaGreatDoorChecked
import Derived.Test.YtjldgcebadojiaaGreatDoorGQ8
namespace Go.Proofs.YtjldgcebadojiaaGreatDoor
open Go.ChangeShapes Go.WideShapes Go.ChangeAt Go.RowKit Go.Sort
set_option linter.unusedSimpArgs false
set_option linter.unusedVariables false
structure Co where
 id:Int
 fr:Int
 tn:Int
 st:Int
 en:Int
 rt:Int
theorem Co.ext_ {a b:Co} (h0:a.id = b.id) (h1:a.fr = b.fr) (h2:a.tn = b.tn) (h3:a.st = b.st) (h4:a.en = b.en) (h5:a.rt = b.rt):a = b:=by cases a; cases b; simp_all
instance:DecidableEq Co:=fun a b => if h:a.id = b.id ∧ a.fr = b.fr ∧ a.tn = b.tn ∧ a.st = b.st ∧ a.en = b.en ∧ a.rt = b.rt then isTrue (Co.ext_ h.1 h.2.1 h.2.2.1 h.2.2.2.1 h.2.2.2.2.1 h.2.2.2.2.2) else isFalse (by rintro rfl; simp at h)
def Co.cs (r:Co):List Value:=[.int .i64 r.id,.int .i64 r.fr,.int .i64 r.tn,.int .i64 r.st,.int .i64 r.en,.int .i64 r.rt]
def flatCo (d:List Co):List Value:=d.flatMap Co.cs
def gCo (d:List Co) (i:Nat):Co:=d.getD i ⟨0,0,0,0,0,0⟩
theorem flatCo_cons (p:Co) (d:List Co):flatCo (p :: d) = .int .i64 p.id :: .int .i64 p.fr :: .int .i64 p.tn :: .int .i64 p.st :: .int .i64 p.en :: .int .i64 p.rt :: flatCo d:=rfl
theorem flatCo_append (d e:List Co):flatCo (d ++ e) = flatCo d ++ flatCo e:=by simp [flatCo]
theorem flatCo_at0:∀ (d:List Co) (i:Nat),i < d.length → (flatCo d)[i * 6]? = some (.int .i64 (gCo d i).id)
 | p :: d,0,_ => rfl
 | p :: d,i + 1,h => by
  rw [flatCo_cons,show (i + 1) * 6 = i * 6 + 1 + 1 + 1 + 1 + 1 + 1 from by omega]
  simp only [List.getElem?_cons_succ]
  exact flatCo_at0 d i (by simpa using h)
theorem flatCo_at1:∀ (d:List Co) (i:Nat),i < d.length → (flatCo d)[i * 6 + 1]? = some (.int .i64 (gCo d i).fr)
 | p :: d,0,_ => rfl
 | p :: d,i + 1,h => by
  rw [flatCo_cons,show (i + 1) * 6 + 1 = i * 6 + 1 + 1 + 1 + 1 + 1 + 1 + 1 from by omega]
  simp only [List.getElem?_cons_succ]
  exact flatCo_at1 d i (by simpa using h)
theorem flatCo_at2:∀ (d:List Co) (i:Nat),i < d.length → (flatCo d)[i * 6 + 2]? = some (.int .i64 (gCo d i).tn)
 | p :: d,0,_ => rfl
 | p :: d,i + 1,h => by
  rw [flatCo_cons,show (i + 1) * 6 + 2 = i * 6 + 2 + 1 + 1 + 1 + 1 + 1 + 1 from by omega]
  simp only [List.getElem?_cons_succ]
  exact flatCo_at2 d i (by simpa using h)
theorem flatCo_at3:∀ (d:List Co) (i:Nat),i < d.length → (flatCo d)[i * 6 + 3]? = some (.int .i64 (gCo d i).st)
 | p :: d,0,_ => rfl
 | p :: d,i + 1,h => by
  rw [flatCo_cons,show (i + 1) * 6 + 3 = i * 6 + 3 + 1 + 1 + 1 + 1 + 1 + 1 from by omega]
  simp only [List.getElem?_cons_succ]
  exact flatCo_at3 d i (by simpa using h)
theorem flatCo_at4:∀ (d:List Co) (i:Nat),i < d.length → (flatCo d)[i * 6 + 4]? = some (.int .i64 (gCo d i).en)
 | p :: d,0,_ => rfl
 | p :: d,i + 1,h => by
  rw [flatCo_cons,show (i + 1) * 6 + 4 = i * 6 + 4 + 1 + 1 + 1 + 1 + 1 + 1 from by omega]
  simp only [List.getElem?_cons_succ]
  exact flatCo_at4 d i (by simpa using h)
theorem flatCo_at5:∀ (d:List Co) (i:Nat),i < d.length → (flatCo d)[i * 6 + 5]? = some (.int .i64 (gCo d i).rt)
 | p :: d,0,_ => rfl
 | p :: d,i + 1,h => by
  rw [flatCo_cons,show (i + 1) * 6 + 5 = i * 6 + 5 + 1 + 1 + 1 + 1 + 1 + 1 from by omega]
  simp only [List.getElem?_cons_succ]
  exact flatCo_at5 d i (by simpa using h)
theorem flatCo_set:∀ (d:List Co) (i:Nat) (p:Co),(((((((flatCo d).set (i * 6) (.int .i64 p.id)).set (i * 6 + 1) (.int .i64 p.fr)).set (i * 6 + 2) (.int .i64 p.tn)).set (i * 6 + 3) (.int .i64 p.st)).set (i * 6 + 4) (.int .i64 p.en)).set (i * 6 + 5) (.int .i64 p.rt)) = flatCo (d.set i p)
 | [],i,p => by simp [flatCo]
 | q :: d,0,p => rfl
 | q :: d,i + 1,p => by
  rw [flatCo_cons]
  rw [show (i + 1) * 6 = i * 6 + 1 + 1 + 1 + 1 + 1 + 1 from by omega]
  rw [show i * 6 + 1 + 1 + 1 + 1 + 1 + 1 + 1 = i * 6 + 1 + 1 + 1 + 1 + 1 + 1 + 1 from by omega]
  rw [show i * 6 + 1 + 1 + 1 + 1 + 1 + 1 + 2 = i * 6 + 2 + 1 + 1 + 1 + 1 + 1 + 1 from by omega]
  rw [show i * 6 + 1 + 1 + 1 + 1 + 1 + 1 + 3 = i * 6 + 3 + 1 + 1 + 1 + 1 + 1 + 1 from by omega]
  rw [show i * 6 + 1 + 1 + 1 + 1 + 1 + 1 + 4 = i * 6 + 4 + 1 + 1 + 1 + 1 + 1 + 1 from by omega]
  rw [show i * 6 + 1 + 1 + 1 + 1 + 1 + 1 + 5 = i * 6 + 5 + 1 + 1 + 1 + 1 + 1 + 1 from by omega]
  simp only [List.set_cons_succ]
  rw [flatCo_set d i p]
  rfl
theorem flatCo_take:∀ (d:List Co) (n:Nat),(flatCo d).take (n * 6) = flatCo (d.take n)
 | _,0 => by simp [flatCo]
 | [],n + 1 => by simp [flatCo]
 | p :: d,n + 1 => by
  rw [flatCo_cons,show (n + 1) * 6 = n * 6 + 1 + 1 + 1 + 1 + 1 + 1 from by omega]
  simp only [List.take_succ_cons]
  rw [flatCo_take d n]
  rfl
theorem flatCo_drop:∀ (d:List Co) (n:Nat),(flatCo d).drop (n * 6) = flatCo (d.drop n)
 | _,0 => by simp
 | [],n + 1 => by simp [flatCo]
 | p :: d,n + 1 => by
  rw [flatCo_cons,show (n + 1) * 6 = n * 6 + 1 + 1 + 1 + 1 + 1 + 1 from by omega]
  simp only [List.drop_succ_cons]
  rw [flatCo_drop d n]
theorem flatCo_one:∀ (l:List Co),∀ u ∈ flatCo l,u.oneCell' = true
 | [],u,h => by simp [flatCo] at h
 | p :: l,u,h => by
  rw [flatCo_cons] at h
  simp only [List.mem_cons] at h
  rcases h with rfl | rfl | rfl | rfl | rfl | rfl | h
  all_goals first | rfl | exact flatCo_one l u h
theorem rowsCo_of:∀ (n:Nat) (ns:List Int),ns.length = n * 6 → ∃ d:List Co,d.length = n ∧ ns.map (Value.int .i64) = flatCo d
 | 0,[],_ => ⟨[],rfl,rfl⟩
 | 0,_ :: _,h => by simp at h
 | n + 1,a0 :: a1 :: a2 :: a3 :: a4 :: a5 :: ns,h => by
  obtain ⟨d,h1,h2⟩:=rowsCo_of n ns (by simp at h; omega)
  exact ⟨⟨a0,a1,a2,a3,a4,a5⟩ :: d,by simp [h1],by simp [flatCo_cons,h2]⟩
 | n + 1,[],h => by simp at h <;> omega
 | n + 1,[_],h => by simp at h <;> omega
 | n + 1,[_,_],h => by simp at h <;> omega
 | n + 1,[_,_,_],h => by simp at h <;> omega
 | n + 1,[_,_,_,_],h => by simp at h <;> omega
 | n + 1,[_,_,_,_,_],h => by simp at h <;> omega

theorem Lst.atCo {w:World} {B:Nat} {A:Option Addr} {n:Nat} {l:List Co} (h:Lst w B 6 A n (flatCo l)) (hl:l.length = n) {k:Nat} (hk:k < n):∃ ad,A = some ad ∧ ad.block < B ∧ w.cell? (ad.add (k * 6)) = some (.int .i64 (gCo l k).id) ∧ w.cell? ⟨(ad.add (k * 6)).block,(ad.add (k * 6)).off + 1,none⟩ = some (.int .i64 (gCo l k).fr) ∧ w.cell? ⟨(ad.add (k * 6)).block,(ad.add (k * 6)).off + 2,none⟩ = some (.int .i64 (gCo l k).tn) ∧ w.cell? ⟨(ad.add (k * 6)).block,(ad.add (k * 6)).off + 3,none⟩ = some (.int .i64 (gCo l k).st) ∧ w.cell? ⟨(ad.add (k * 6)).block,(ad.add (k * 6)).off + 4,none⟩ = some (.int .i64 (gCo l k).en) ∧ w.cell? ⟨(ad.add (k * 6)).block,(ad.add (k * 6)).off + 5,none⟩ = some (.int .i64 (gCo l k).rt):=by
 obtain ⟨ad,e,hb,hc⟩:=h.at_ (by omega)
 exact ⟨ad,e,hb,hc _ _ (flatCo_at0 l k (by omega)),by rw [addr_next _ _ _ (by omega)]; exact hc _ _ (flatCo_at1 l k (by omega)),by rw [addr_next _ _ _ (by omega)]; exact hc _ _ (flatCo_at2 l k (by omega)),by rw [addr_next _ _ _ (by omega)]; exact hc _ _ (flatCo_at3 l k (by omega)),by rw [addr_next _ _ _ (by omega)]; exact hc _ _ (flatCo_at4 l k (by omega)),by rw [addr_next _ _ _ (by omega)]; exact hc _ _ (flatCo_at5 l k (by omega))⟩
theorem ownCo_at {w:World} {base:Nat} {t:TypeId} {g n c:Nat} {d:List Co} (h:w.ownsRow base t 6 (.slice (some ⟨g,0,none⟩) n c) n (flatCo d)) (hd:d.length = n) {k:Nat} (hk:k < n):w.cell? ⟨g,k * 6,none⟩ = some (.int .i64 (gCo d k).id) ∧ w.cell? ⟨g,k * 6 + 1,none⟩ = some (.int .i64 (gCo d k).fr) ∧ w.cell? ⟨g,k * 6 + 2,none⟩ = some (.int .i64 (gCo d k).tn) ∧ w.cell? ⟨g,k * 6 + 3,none⟩ = some (.int .i64 (gCo d k).st) ∧ w.cell? ⟨g,k * 6 + 4,none⟩ = some (.int .i64 (gCo d k).en) ∧ w.cell? ⟨g,k * 6 + 5,none⟩ = some (.int .i64 (gCo d k).rt):=
 ⟨(h.cellAt (k * 6) (by omega)).trans (flatCo_at0 d k (by omega)),(h.cellAt (k * 6 + 1) (by omega)).trans (flatCo_at1 d k (by omega)),(h.cellAt (k * 6 + 2) (by omega)).trans (flatCo_at2 d k (by omega)),(h.cellAt (k * 6 + 3) (by omega)).trans (flatCo_at3 d k (by omega)),(h.cellAt (k * 6 + 4) (by omega)).trans (flatCo_at4 d k (by omega)),(h.cellAt (k * 6 + 5) (by omega)).trans (flatCo_at5 d k (by omega))⟩
theorem ownCo_store {w:World} {base:Nat} {t:TypeId} {g n c:Nat} {d:List Co} (h:w.ownsRow base t 6 (.slice (some ⟨g,0,none⟩) n c) n (flatCo d)) (i:Nat) (p:Co):((((((w.setCell ⟨g,i * 6,none⟩ (.int .i64 p.id)).setCell ⟨g,i * 6 + 1,none⟩ (.int .i64 p.fr)).setCell ⟨g,i * 6 + 2,none⟩ (.int .i64 p.tn)).setCell ⟨g,i * 6 + 3,none⟩ (.int .i64 p.st)).setCell ⟨g,i * 6 + 4,none⟩ (.int .i64 p.en)).setCell ⟨g,i * 6 + 5,none⟩ (.int .i64 p.rt)).ownsRow base t 6 (.slice (some ⟨g,0,none⟩) n c) n (flatCo (d.set i p)) ∧ w.grownBy ((((((w.setCell ⟨g,i * 6,none⟩ (.int .i64 p.id)).setCell ⟨g,i * 6 + 1,none⟩ (.int .i64 p.fr)).setCell ⟨g,i * 6 + 2,none⟩ (.int .i64 p.tn)).setCell ⟨g,i * 6 + 3,none⟩ (.int .i64 p.st)).setCell ⟨g,i * 6 + 4,none⟩ (.int .i64 p.en)).setCell ⟨g,i * 6 + 5,none⟩ (.int .i64 p.rt)) (some g):=by
 obtain ⟨r0,g0⟩:=h.stored (i * 6) (.int .i64 p.id)
 obtain ⟨r1,g1⟩:=r0.stored (i * 6 + 1) (.int .i64 p.fr)
 obtain ⟨r2,g2⟩:=r1.stored (i * 6 + 2) (.int .i64 p.tn)
 obtain ⟨r3,g3⟩:=r2.stored (i * 6 + 3) (.int .i64 p.st)
 obtain ⟨r4,g4⟩:=r3.stored (i * 6 + 4) (.int .i64 p.en)
 obtain ⟨r5,g5⟩:=r4.stored (i * 6 + 5) (.int .i64 p.rt)
 rw [flatCo_set] at r5
 exact ⟨r5,grown_trans (grown_trans (grown_trans (grown_trans (grown_trans (g0) g1) g2) g3) g4) g5⟩
theorem gCo_mem {d:List Co} {i:Nat} (h:i < d.length):gCo d i ∈ d:=by
 unfold gCo; rw [List.getD_eq_getElem?_getD,List.getElem?_eq_getElem h]; simp
theorem gCo_eq {d:List Co} {i:Nat} (h:i < d.length):gCo d i = d[i]:=by
 unfold gCo; rw [List.getD_eq_getElem?_getD,List.getElem?_eq_getElem h]; rfl
theorem take_nextCo {l:List Co} {k:Nat} (h:k < l.length):l.take (k + 1) = l.take k ++ [gCo l k]:=by
 rw [List.take_succ_eq_append_getElem h,gCo_eq h]
theorem extCo {a b:List Co} (hl:a.length = b.length) (h:∀ i,i < a.length → gCo a i = gCo b i):a = b:=by
 refine List.ext_getElem hl fun i h1 h2 => ?_
 have:=h i h1
 rw [gCo_eq h1,gCo_eq h2] at this
 exact this
theorem neqCo (a b:Co) (w:World):(binOp .neq 34 (.agg #[.int .i64 a.id,.int .i64 a.fr,.int .i64 a.tn,.int .i64 a.st,.int .i64 a.en,.int .i64 a.rt]) (.agg #[.int .i64 b.id,.int .i64 b.fr,.int .i64 b.tn,.int .i64 b.st,.int .i64 b.en,.int .i64 b.rt])).run Tryz.prog w = .ok (.bool (!decide (a = b))) w:=by
 have u3:=Tryz.underlying3
 have a3:=Tryz.isAgg3
 have z3:=Tryz.sizeOf3
 have hS:Tryz.prog.underlying 34 = some (.struct (Tryz.prog.fieldsOf 34)):=by kernel_rfl
 have hp:Tryz.prog.stoodInHeld 34 = false:=by kernel_rfl
 rw [run_neq_struct,show (10000:Nat) = 9999 + 1 from rfl,run_equalIn_agg w 9999 34 _ _ hS hp]
 simp only [Program.fieldsOf,Tryz.underlying34]
 go_simp
 by_cases hab:a = b
 ·subst hab; simp
 ·simp only [hab,decide_false]
  have hx:¬ (a.id = b.id ∧ a.fr = b.fr ∧ a.tn = b.tn ∧ a.st = b.st ∧ a.en = b.en ∧ a.rt = b.rt):=fun h => hab (Co.ext_ h.1 h.2.1 h.2.2.1 h.2.2.2.1 h.2.2.2.2.1 h.2.2.2.2.2)
  by_cases h0:a.id = b.id <;> by_cases h1:a.fr = b.fr <;> by_cases h2:a.tn = b.tn <;> by_cases h3:a.st = b.st <;> by_cases h4:a.en = b.en <;> by_cases h5:a.rt = b.rt
  all_goals simp_all
theorem infoCo:(Tryz.prog.info? 34).map (fun i => (i.zero,i.size,i.bytes)) = some (some (.agg #[.int .i64 0,.int .i64 0,.int .i64 0,.int .i64 0,.int .i64 0,.int .i64 0]),6,48):=by kernel_rfl
end Go.Proofs.YtjldgcebadojiaaGreatDoor
