/- api.Range: its cells, lists of it. No condition. -/
import Derived.Test.YtjldgcebadojiaaGreatDoorChecked
import Derived.Test.YtjldgcebadojiaaGreatDoorGQ8
namespace Go.Proofs.YtjldgcebadojiaaGreatDoor
open Go.ChangeShapes Go.WideShapes Go.ChangeAt Go.RowKit Go.Sort
set_option linter.unusedSimpArgs false
set_option linter.unusedVariables false
structure Rg where
 fr:Int
 tn:Int
 st:Int
 en:Int
 ow:Int
theorem Rg.ext_ {a b:Rg} (h0:a.fr = b.fr) (h1:a.tn = b.tn) (h2:a.st = b.st) (h3:a.en = b.en) (h4:a.ow = b.ow):a = b:=by cases a; cases b; simp_all
instance:DecidableEq Rg:=fun a b => if h:a.fr = b.fr ∧ a.tn = b.tn ∧ a.st = b.st ∧ a.en = b.en ∧ a.ow = b.ow then isTrue (Rg.ext_ h.1 h.2.1 h.2.2.1 h.2.2.2.1 h.2.2.2.2) else isFalse (by rintro rfl; simp at h)
def Rg.cs (r:Rg):List Value:=[.int .i64 r.fr,.int .i64 r.tn,.int .i64 r.st,.int .i64 r.en,.int .i64 r.ow]
def flatRg (d:List Rg):List Value:=d.flatMap Rg.cs
def gRg (d:List Rg) (i:Nat):Rg:=d.getD i ⟨0,0,0,0,0⟩
theorem flatRg_cons (p:Rg) (d:List Rg):flatRg (p :: d) = .int .i64 p.fr :: .int .i64 p.tn :: .int .i64 p.st :: .int .i64 p.en :: .int .i64 p.ow :: flatRg d:=rfl
theorem flatRg_append (d e:List Rg):flatRg (d ++ e) = flatRg d ++ flatRg e:=by simp [flatRg]
theorem flatRg_at0:∀ (d:List Rg) (i:Nat),i < d.length → (flatRg d)[i * 5]? = some (.int .i64 (gRg d i).fr)
 | p :: d,0,_ => rfl
 | p :: d,i + 1,h => by
  rw [flatRg_cons,show (i + 1) * 5 = i * 5 + 1 + 1 + 1 + 1 + 1 from by omega]
  simp only [List.getElem?_cons_succ]
  exact flatRg_at0 d i (by simpa using h)
theorem flatRg_at1:∀ (d:List Rg) (i:Nat),i < d.length → (flatRg d)[i * 5 + 1]? = some (.int .i64 (gRg d i).tn)
 | p :: d,0,_ => rfl
 | p :: d,i + 1,h => by
  rw [flatRg_cons,show (i + 1) * 5 + 1 = i * 5 + 1 + 1 + 1 + 1 + 1 + 1 from by omega]
  simp only [List.getElem?_cons_succ]
  exact flatRg_at1 d i (by simpa using h)
theorem flatRg_at2:∀ (d:List Rg) (i:Nat),i < d.length → (flatRg d)[i * 5 + 2]? = some (.int .i64 (gRg d i).st)
 | p :: d,0,_ => rfl
 | p :: d,i + 1,h => by
  rw [flatRg_cons,show (i + 1) * 5 + 2 = i * 5 + 2 + 1 + 1 + 1 + 1 + 1 from by omega]
  simp only [List.getElem?_cons_succ]
  exact flatRg_at2 d i (by simpa using h)
theorem flatRg_at3:∀ (d:List Rg) (i:Nat),i < d.length → (flatRg d)[i * 5 + 3]? = some (.int .i64 (gRg d i).en)
 | p :: d,0,_ => rfl
 | p :: d,i + 1,h => by
  rw [flatRg_cons,show (i + 1) * 5 + 3 = i * 5 + 3 + 1 + 1 + 1 + 1 + 1 from by omega]
  simp only [List.getElem?_cons_succ]
  exact flatRg_at3 d i (by simpa using h)
theorem flatRg_at4:∀ (d:List Rg) (i:Nat),i < d.length → (flatRg d)[i * 5 + 4]? = some (.int .i64 (gRg d i).ow)
 | p :: d,0,_ => rfl
 | p :: d,i + 1,h => by
  rw [flatRg_cons,show (i + 1) * 5 + 4 = i * 5 + 4 + 1 + 1 + 1 + 1 + 1 from by omega]
  simp only [List.getElem?_cons_succ]
  exact flatRg_at4 d i (by simpa using h)
theorem flatRg_set:∀ (d:List Rg) (i:Nat) (p:Rg),((((((flatRg d).set (i * 5) (.int .i64 p.fr)).set (i * 5 + 1) (.int .i64 p.tn)).set (i * 5 + 2) (.int .i64 p.st)).set (i * 5 + 3) (.int .i64 p.en)).set (i * 5 + 4) (.int .i64 p.ow)) = flatRg (d.set i p)
 | [],i,p => by simp [flatRg]
 | q :: d,0,p => rfl
 | q :: d,i + 1,p => by
  rw [flatRg_cons]
  rw [show (i + 1) * 5 = i * 5 + 1 + 1 + 1 + 1 + 1 from by omega]
  rw [show i * 5 + 1 + 1 + 1 + 1 + 1 + 1 = i * 5 + 1 + 1 + 1 + 1 + 1 + 1 from by omega]
  rw [show i * 5 + 1 + 1 + 1 + 1 + 1 + 2 = i * 5 + 2 + 1 + 1 + 1 + 1 + 1 from by omega]
  rw [show i * 5 + 1 + 1 + 1 + 1 + 1 + 3 = i * 5 + 3 + 1 + 1 + 1 + 1 + 1 from by omega]
  rw [show i * 5 + 1 + 1 + 1 + 1 + 1 + 4 = i * 5 + 4 + 1 + 1 + 1 + 1 + 1 from by omega]
  simp only [List.set_cons_succ]
  rw [flatRg_set d i p]
  rfl
theorem flatRg_take:∀ (d:List Rg) (n:Nat),(flatRg d).take (n * 5) = flatRg (d.take n)
 | _,0 => by simp [flatRg]
 | [],n + 1 => by simp [flatRg]
 | p :: d,n + 1 => by
  rw [flatRg_cons,show (n + 1) * 5 = n * 5 + 1 + 1 + 1 + 1 + 1 from by omega]
  simp only [List.take_succ_cons]
  rw [flatRg_take d n]
  rfl
theorem flatRg_drop:∀ (d:List Rg) (n:Nat),(flatRg d).drop (n * 5) = flatRg (d.drop n)
 | _,0 => by simp
 | [],n + 1 => by simp [flatRg]
 | p :: d,n + 1 => by
  rw [flatRg_cons,show (n + 1) * 5 = n * 5 + 1 + 1 + 1 + 1 + 1 from by omega]
  simp only [List.drop_succ_cons]
  rw [flatRg_drop d n]
theorem flatRg_one:∀ (l:List Rg),∀ u ∈ flatRg l,u.oneCell' = true
 | [],u,h => by simp [flatRg] at h
 | p :: l,u,h => by
  rw [flatRg_cons] at h
  simp only [List.mem_cons] at h
  rcases h with rfl | rfl | rfl | rfl | rfl | h
  all_goals first | rfl | exact flatRg_one l u h
theorem rowsRg_of:∀ (n:Nat) (ns:List Int),ns.length = n * 5 → ∃ d:List Rg,d.length = n ∧ ns.map (Value.int .i64) = flatRg d
 | 0,[],_ => ⟨[],rfl,rfl⟩
 | 0,_ :: _,h => by simp at h
 | n + 1,a0 :: a1 :: a2 :: a3 :: a4 :: ns,h => by
  obtain ⟨d,h1,h2⟩:=rowsRg_of n ns (by simp at h; omega)
  exact ⟨⟨a0,a1,a2,a3,a4⟩ :: d,by simp [h1],by simp [flatRg_cons,h2]⟩
 | n + 1,[],h => by simp at h <;> omega
 | n + 1,[_],h => by simp at h <;> omega
 | n + 1,[_,_],h => by simp at h <;> omega
 | n + 1,[_,_,_],h => by simp at h <;> omega
 | n + 1,[_,_,_,_],h => by simp at h <;> omega

theorem Lst.atRg {w:World} {B:Nat} {A:Option Addr} {n:Nat} {l:List Rg} (h:Lst w B 5 A n (flatRg l)) (hl:l.length = n) {k:Nat} (hk:k < n):∃ ad,A = some ad ∧ ad.block < B ∧ w.cell? (ad.add (k * 5)) = some (.int .i64 (gRg l k).fr) ∧ w.cell? ⟨(ad.add (k * 5)).block,(ad.add (k * 5)).off + 1,none⟩ = some (.int .i64 (gRg l k).tn) ∧ w.cell? ⟨(ad.add (k * 5)).block,(ad.add (k * 5)).off + 2,none⟩ = some (.int .i64 (gRg l k).st) ∧ w.cell? ⟨(ad.add (k * 5)).block,(ad.add (k * 5)).off + 3,none⟩ = some (.int .i64 (gRg l k).en) ∧ w.cell? ⟨(ad.add (k * 5)).block,(ad.add (k * 5)).off + 4,none⟩ = some (.int .i64 (gRg l k).ow):=by
 obtain ⟨ad,e,hb,hc⟩:=h.at_ (by omega)
 exact ⟨ad,e,hb,hc _ _ (flatRg_at0 l k (by omega)),by rw [addr_next _ _ _ (by omega)]; exact hc _ _ (flatRg_at1 l k (by omega)),by rw [addr_next _ _ _ (by omega)]; exact hc _ _ (flatRg_at2 l k (by omega)),by rw [addr_next _ _ _ (by omega)]; exact hc _ _ (flatRg_at3 l k (by omega)),by rw [addr_next _ _ _ (by omega)]; exact hc _ _ (flatRg_at4 l k (by omega))⟩
theorem ownRg_at {w:World} {base:Nat} {t:TypeId} {g n c:Nat} {d:List Rg} (h:w.ownsRow base t 5 (.slice (some ⟨g,0,none⟩) n c) n (flatRg d)) (hd:d.length = n) {k:Nat} (hk:k < n):w.cell? ⟨g,k * 5,none⟩ = some (.int .i64 (gRg d k).fr) ∧ w.cell? ⟨g,k * 5 + 1,none⟩ = some (.int .i64 (gRg d k).tn) ∧ w.cell? ⟨g,k * 5 + 2,none⟩ = some (.int .i64 (gRg d k).st) ∧ w.cell? ⟨g,k * 5 + 3,none⟩ = some (.int .i64 (gRg d k).en) ∧ w.cell? ⟨g,k * 5 + 4,none⟩ = some (.int .i64 (gRg d k).ow):=
 ⟨(h.cellAt (k * 5) (by omega)).trans (flatRg_at0 d k (by omega)),(h.cellAt (k * 5 + 1) (by omega)).trans (flatRg_at1 d k (by omega)),(h.cellAt (k * 5 + 2) (by omega)).trans (flatRg_at2 d k (by omega)),(h.cellAt (k * 5 + 3) (by omega)).trans (flatRg_at3 d k (by omega)),(h.cellAt (k * 5 + 4) (by omega)).trans (flatRg_at4 d k (by omega))⟩
theorem ownRg_store {w:World} {base:Nat} {t:TypeId} {g n c:Nat} {d:List Rg} (h:w.ownsRow base t 5 (.slice (some ⟨g,0,none⟩) n c) n (flatRg d)) (i:Nat) (p:Rg):(((((w.setCell ⟨g,i * 5,none⟩ (.int .i64 p.fr)).setCell ⟨g,i * 5 + 1,none⟩ (.int .i64 p.tn)).setCell ⟨g,i * 5 + 2,none⟩ (.int .i64 p.st)).setCell ⟨g,i * 5 + 3,none⟩ (.int .i64 p.en)).setCell ⟨g,i * 5 + 4,none⟩ (.int .i64 p.ow)).ownsRow base t 5 (.slice (some ⟨g,0,none⟩) n c) n (flatRg (d.set i p)) ∧ w.grownBy (((((w.setCell ⟨g,i * 5,none⟩ (.int .i64 p.fr)).setCell ⟨g,i * 5 + 1,none⟩ (.int .i64 p.tn)).setCell ⟨g,i * 5 + 2,none⟩ (.int .i64 p.st)).setCell ⟨g,i * 5 + 3,none⟩ (.int .i64 p.en)).setCell ⟨g,i * 5 + 4,none⟩ (.int .i64 p.ow)) (some g):=by
 obtain ⟨r0,g0⟩:=h.stored (i * 5) (.int .i64 p.fr)
 obtain ⟨r1,g1⟩:=r0.stored (i * 5 + 1) (.int .i64 p.tn)
 obtain ⟨r2,g2⟩:=r1.stored (i * 5 + 2) (.int .i64 p.st)
 obtain ⟨r3,g3⟩:=r2.stored (i * 5 + 3) (.int .i64 p.en)
 obtain ⟨r4,g4⟩:=r3.stored (i * 5 + 4) (.int .i64 p.ow)
 rw [flatRg_set] at r4
 exact ⟨r4,grown_trans (grown_trans (grown_trans (grown_trans (g0) g1) g2) g3) g4⟩
theorem gRg_mem {d:List Rg} {i:Nat} (h:i < d.length):gRg d i ∈ d:=by
 unfold gRg; rw [List.getD_eq_getElem?_getD,List.getElem?_eq_getElem h]; simp
theorem gRg_eq {d:List Rg} {i:Nat} (h:i < d.length):gRg d i = d[i]:=by
 unfold gRg; rw [List.getD_eq_getElem?_getD,List.getElem?_eq_getElem h]; rfl
theorem take_nextRg {l:List Rg} {k:Nat} (h:k < l.length):l.take (k + 1) = l.take k ++ [gRg l k]:=by
 rw [List.take_succ_eq_append_getElem h,gRg_eq h]
theorem extRg {a b:List Rg} (hl:a.length = b.length) (h:∀ i,i < a.length → gRg a i = gRg b i):a = b:=by
 refine List.ext_getElem hl fun i h1 h2 => ?_
 have:=h i h1
 rw [gRg_eq h1,gRg_eq h2] at this
 exact this
theorem neqRg (a b:Rg) (w:World):(binOp .neq 36 (.agg #[.int .i64 a.fr,.int .i64 a.tn,.int .i64 a.st,.int .i64 a.en,.int .i64 a.ow]) (.agg #[.int .i64 b.fr,.int .i64 b.tn,.int .i64 b.st,.int .i64 b.en,.int .i64 b.ow])).run Tryz.prog w = .ok (.bool (!decide (a = b))) w:=by
 have u3:=Tryz.underlying3
 have a3:=Tryz.isAgg3
 have z3:=Tryz.sizeOf3
 have hS:Tryz.prog.underlying 36 = some (.struct (Tryz.prog.fieldsOf 36)):=by kernel_rfl
 have hp:Tryz.prog.stoodInHeld 36 = false:=by kernel_rfl
 rw [run_neq_struct,show (10000:Nat) = 9999 + 1 from rfl,run_equalIn_agg w 9999 36 _ _ hS hp]
 simp only [Program.fieldsOf,Tryz.underlying36]
 go_simp
 by_cases hab:a = b
 ·subst hab; simp
 ·simp only [hab,decide_false]
  have hx:¬ (a.fr = b.fr ∧ a.tn = b.tn ∧ a.st = b.st ∧ a.en = b.en ∧ a.ow = b.ow):=fun h => hab (Rg.ext_ h.1 h.2.1 h.2.2.1 h.2.2.2.1 h.2.2.2.2)
  by_cases h0:a.fr = b.fr <;> by_cases h1:a.tn = b.tn <;> by_cases h2:a.st = b.st <;> by_cases h3:a.en = b.en <;> by_cases h4:a.ow = b.ow
  all_goals simp_all
theorem infoRg:(Tryz.prog.info? 36).map (fun i => (i.zero,i.size,i.bytes)) = some (some (.agg #[.int .i64 0,.int .i64 0,.int .i64 0,.int .i64 0,.int .i64 0]),5,40):=by kernel_rfl
end Go.Proofs.YtjldgcebadojiaaGreatDoor
