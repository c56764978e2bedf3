/- Several texts of mine in one: TyDr, Tabs. No condition. -/
import Derived.Test.YtjldgcebadojiaaGreatDoorChecked
import Derived.Test.YtjldgcebadojiaaGreatDoorGQ8
import Derived.Test.YtjldgcebadojiaaGreatDoorGQ7
namespace Go.Proofs.YtjldgcebadojiaaGreatDoor
open Go.ChangeShapes Go.WideShapes Go.ChangeAt Go.RowKit Go.Sort
set_option linter.unusedSimpArgs false
set_option linter.unusedVariables false
structure Dr where
 op:Int
 kd:Int
 id:Int
 fr:Int
 tn:Int
 st:Int
 en:Int
 rt:Int
 rf:Int
 rn:Int
 rs:Int
 re:Int
 ro:Int
theorem Dr.ext_ {a b:Dr} (h0:a.op = b.op) (h1:a.kd = b.kd) (h2:a.id = b.id) (h3:a.fr = b.fr) (h4:a.tn = b.tn) (h5:a.st = b.st) (h6:a.en = b.en) (h7:a.rt = b.rt) (h8:a.rf = b.rf) (h9:a.rn = b.rn) (h10:a.rs = b.rs) (h11:a.re = b.re) (h12:a.ro = b.ro):a = b:=by cases a; cases b; simp_all
instance:DecidableEq Dr:=fun a b => if h:a.op = b.op ∧ a.kd = b.kd ∧ a.id = b.id ∧ a.fr = b.fr ∧ a.tn = b.tn ∧ a.st = b.st ∧ a.en = b.en ∧ a.rt = b.rt ∧ a.rf = b.rf ∧ a.rn = b.rn ∧ a.rs = b.rs ∧ a.re = b.re ∧ a.ro = b.ro then isTrue (Dr.ext_ h.1 h.2.1 h.2.2.1 h.2.2.2.1 h.2.2.2.2.1 h.2.2.2.2.2.1 h.2.2.2.2.2.2.1 h.2.2.2.2.2.2.2.1 h.2.2.2.2.2.2.2.2.1 h.2.2.2.2.2.2.2.2.2.1 h.2.2.2.2.2.2.2.2.2.2.1 h.2.2.2.2.2.2.2.2.2.2.2.1 h.2.2.2.2.2.2.2.2.2.2.2.2) else isFalse (by rintro rfl; simp at h)
def Dr.cs (r:Dr):List Value:=[.int .i64 r.op,.int .i64 r.kd,.int .i64 r.id,.int .i64 r.fr,.int .i64 r.tn,.int .i64 r.st,.int .i64 r.en,.int .i64 r.rt,.int .i64 r.rf,.int .i64 r.rn,.int .i64 r.rs,.int .i64 r.re,.int .i64 r.ro]
def flatDr (d:List Dr):List Value:=d.flatMap Dr.cs
def gDr (d:List Dr) (i:Nat):Dr:=d.getD i ⟨0,0,0,0,0,0,0,0,0,0,0,0,0⟩
theorem flatDr_cons (p:Dr) (d:List Dr):flatDr (p :: d) = .int .i64 p.op :: .int .i64 p.kd :: .int .i64 p.id :: .int .i64 p.fr :: .int .i64 p.tn :: .int .i64 p.st :: .int .i64 p.en :: .int .i64 p.rt :: .int .i64 p.rf :: .int .i64 p.rn :: .int .i64 p.rs :: .int .i64 p.re :: .int .i64 p.ro :: flatDr d:=rfl
theorem flatDr_append (d e:List Dr):flatDr (d ++ e) = flatDr d ++ flatDr e:=by simp [flatDr]
theorem flatDr_at0:∀ (d:List Dr) (i:Nat),i < d.length → (flatDr d)[i * 13]? = some (.int .i64 (gDr d i).op)
 | p :: d,0,_ => rfl
 | p :: d,i + 1,h => by
  rw [flatDr_cons,show (i + 1) * 13 = i * 13 + 1 + 1 + 1 + 1 + 1 + 1 + 1 + 1 + 1 + 1 + 1 + 1 + 1 from by omega]
  simp only [List.getElem?_cons_succ]
  exact flatDr_at0 d i (by simpa using h)
theorem flatDr_at1:∀ (d:List Dr) (i:Nat),i < d.length → (flatDr d)[i * 13 + 1]? = some (.int .i64 (gDr d i).kd)
 | p :: d,0,_ => rfl
 | p :: d,i + 1,h => by
  rw [flatDr_cons,show (i + 1) * 13 + 1 = i * 13 + 1 + 1 + 1 + 1 + 1 + 1 + 1 + 1 + 1 + 1 + 1 + 1 + 1 + 1 from by omega]
  simp only [List.getElem?_cons_succ]
  exact flatDr_at1 d i (by simpa using h)
theorem flatDr_at2:∀ (d:List Dr) (i:Nat),i < d.length → (flatDr d)[i * 13 + 2]? = some (.int .i64 (gDr d i).id)
 | p :: d,0,_ => rfl
 | p :: d,i + 1,h => by
  rw [flatDr_cons,show (i + 1) * 13 + 2 = i * 13 + 2 + 1 + 1 + 1 + 1 + 1 + 1 + 1 + 1 + 1 + 1 + 1 + 1 + 1 from by omega]
  simp only [List.getElem?_cons_succ]
  exact flatDr_at2 d i (by simpa using h)
theorem flatDr_at3:∀ (d:List Dr) (i:Nat),i < d.length → (flatDr d)[i * 13 + 3]? = some (.int .i64 (gDr d i).fr)
 | p :: d,0,_ => rfl
 | p :: d,i + 1,h => by
  rw [flatDr_cons,show (i + 1) * 13 + 3 = i * 13 + 3 + 1 + 1 + 1 + 1 + 1 + 1 + 1 + 1 + 1 + 1 + 1 + 1 + 1 from by omega]
  simp only [List.getElem?_cons_succ]
  exact flatDr_at3 d i (by simpa using h)
theorem flatDr_at4:∀ (d:List Dr) (i:Nat),i < d.length → (flatDr d)[i * 13 + 4]? = some (.int .i64 (gDr d i).tn)
 | p :: d,0,_ => rfl
 | p :: d,i + 1,h => by
  rw [flatDr_cons,show (i + 1) * 13 + 4 = i * 13 + 4 + 1 + 1 + 1 + 1 + 1 + 1 + 1 + 1 + 1 + 1 + 1 + 1 + 1 from by omega]
  simp only [List.getElem?_cons_succ]
  exact flatDr_at4 d i (by simpa using h)
theorem flatDr_at5:∀ (d:List Dr) (i:Nat),i < d.length → (flatDr d)[i * 13 + 5]? = some (.int .i64 (gDr d i).st)
 | p :: d,0,_ => rfl
 | p :: d,i + 1,h => by
  rw [flatDr_cons,show (i + 1) * 13 + 5 = i * 13 + 5 + 1 + 1 + 1 + 1 + 1 + 1 + 1 + 1 + 1 + 1 + 1 + 1 + 1 from by omega]
  simp only [List.getElem?_cons_succ]
  exact flatDr_at5 d i (by simpa using h)
theorem flatDr_at6:∀ (d:List Dr) (i:Nat),i < d.length → (flatDr d)[i * 13 + 6]? = some (.int .i64 (gDr d i).en)
 | p :: d,0,_ => rfl
 | p :: d,i + 1,h => by
  rw [flatDr_cons,show (i + 1) * 13 + 6 = i * 13 + 6 + 1 + 1 + 1 + 1 + 1 + 1 + 1 + 1 + 1 + 1 + 1 + 1 + 1 from by omega]
  simp only [List.getElem?_cons_succ]
  exact flatDr_at6 d i (by simpa using h)
theorem flatDr_at7:∀ (d:List Dr) (i:Nat),i < d.length → (flatDr d)[i * 13 + 7]? = some (.int .i64 (gDr d i).rt)
 | p :: d,0,_ => rfl
 | p :: d,i + 1,h => by
  rw [flatDr_cons,show (i + 1) * 13 + 7 = i * 13 + 7 + 1 + 1 + 1 + 1 + 1 + 1 + 1 + 1 + 1 + 1 + 1 + 1 + 1 from by omega]
  simp only [List.getElem?_cons_succ]
  exact flatDr_at7 d i (by simpa using h)
theorem flatDr_at8:∀ (d:List Dr) (i:Nat),i < d.length → (flatDr d)[i * 13 + 8]? = some (.int .i64 (gDr d i).rf)
 | p :: d,0,_ => rfl
 | p :: d,i + 1,h => by
  rw [flatDr_cons,show (i + 1) * 13 + 8 = i * 13 + 8 + 1 + 1 + 1 + 1 + 1 + 1 + 1 + 1 + 1 + 1 + 1 + 1 + 1 from by omega]
  simp only [List.getElem?_cons_succ]
  exact flatDr_at8 d i (by simpa using h)
theorem flatDr_at9:∀ (d:List Dr) (i:Nat),i < d.length → (flatDr d)[i * 13 + 9]? = some (.int .i64 (gDr d i).rn)
 | p :: d,0,_ => rfl
 | p :: d,i + 1,h => by
  rw [flatDr_cons,show (i + 1) * 13 + 9 = i * 13 + 9 + 1 + 1 + 1 + 1 + 1 + 1 + 1 + 1 + 1 + 1 + 1 + 1 + 1 from by omega]
  simp only [List.getElem?_cons_succ]
  exact flatDr_at9 d i (by simpa using h)
theorem flatDr_at10:∀ (d:List Dr) (i:Nat),i < d.length → (flatDr d)[i * 13 + 10]? = some (.int .i64 (gDr d i).rs)
 | p :: d,0,_ => rfl
 | p :: d,i + 1,h => by
  rw [flatDr_cons,show (i + 1) * 13 + 10 = i * 13 + 10 + 1 + 1 + 1 + 1 + 1 + 1 + 1 + 1 + 1 + 1 + 1 + 1 + 1 from by omega]
  simp only [List.getElem?_cons_succ]
  exact flatDr_at10 d i (by simpa using h)
theorem flatDr_at11:∀ (d:List Dr) (i:Nat),i < d.length → (flatDr d)[i * 13 + 11]? = some (.int .i64 (gDr d i).re)
 | p :: d,0,_ => rfl
 | p :: d,i + 1,h => by
  rw [flatDr_cons,show (i + 1) * 13 + 11 = i * 13 + 11 + 1 + 1 + 1 + 1 + 1 + 1 + 1 + 1 + 1 + 1 + 1 + 1 + 1 from by omega]
  simp only [List.getElem?_cons_succ]
  exact flatDr_at11 d i (by simpa using h)
theorem flatDr_at12:∀ (d:List Dr) (i:Nat),i < d.length → (flatDr d)[i * 13 + 12]? = some (.int .i64 (gDr d i).ro)
 | p :: d,0,_ => rfl
 | p :: d,i + 1,h => by
  rw [flatDr_cons,show (i + 1) * 13 + 12 = i * 13 + 12 + 1 + 1 + 1 + 1 + 1 + 1 + 1 + 1 + 1 + 1 + 1 + 1 + 1 from by omega]
  simp only [List.getElem?_cons_succ]
  exact flatDr_at12 d i (by simpa using h)
theorem ownDr_at {w:World} {base:Nat} {t:TypeId} {g n c:Nat} {d:List Dr} (h:w.ownsRow base t 13 (.slice (some ⟨g,0,none⟩) n c) n (flatDr d)) (hd:d.length = n) {k:Nat} (hk:k < n):w.cell? ⟨g,k * 13,none⟩ = some (.int .i64 (gDr d k).op) ∧ w.cell? ⟨g,k * 13 + 1,none⟩ = some (.int .i64 (gDr d k).kd) ∧ w.cell? ⟨g,k * 13 + 2,none⟩ = some (.int .i64 (gDr d k).id) ∧ w.cell? ⟨g,k * 13 + 3,none⟩ = some (.int .i64 (gDr d k).fr) ∧ w.cell? ⟨g,k * 13 + 4,none⟩ = some (.int .i64 (gDr d k).tn) ∧ w.cell? ⟨g,k * 13 + 5,none⟩ = some (.int .i64 (gDr d k).st) ∧ w.cell? ⟨g,k * 13 + 6,none⟩ = some (.int .i64 (gDr d k).en) ∧ w.cell? ⟨g,k * 13 + 7,none⟩ = some (.int .i64 (gDr d k).rt) ∧ w.cell? ⟨g,k * 13 + 8,none⟩ = some (.int .i64 (gDr d k).rf) ∧ w.cell? ⟨g,k * 13 + 9,none⟩ = some (.int .i64 (gDr d k).rn) ∧ w.cell? ⟨g,k * 13 + 10,none⟩ = some (.int .i64 (gDr d k).rs) ∧ w.cell? ⟨g,k * 13 + 11,none⟩ = some (.int .i64 (gDr d k).re) ∧ w.cell? ⟨g,k * 13 + 12,none⟩ = some (.int .i64 (gDr d k).ro):=
 ⟨(h.cellAt (k * 13) (by omega)).trans (flatDr_at0 d k (by omega)),(h.cellAt (k * 13 + 1) (by omega)).trans (flatDr_at1 d k (by omega)),(h.cellAt (k * 13 + 2) (by omega)).trans (flatDr_at2 d k (by omega)),(h.cellAt (k * 13 + 3) (by omega)).trans (flatDr_at3 d k (by omega)),(h.cellAt (k * 13 + 4) (by omega)).trans (flatDr_at4 d k (by omega)),(h.cellAt (k * 13 + 5) (by omega)).trans (flatDr_at5 d k (by omega)),(h.cellAt (k * 13 + 6) (by omega)).trans (flatDr_at6 d k (by omega)),(h.cellAt (k * 13 + 7) (by omega)).trans (flatDr_at7 d k (by omega)),(h.cellAt (k * 13 + 8) (by omega)).trans (flatDr_at8 d k (by omega)),(h.cellAt (k * 13 + 9) (by omega)).trans (flatDr_at9 d k (by omega)),(h.cellAt (k * 13 + 10) (by omega)).trans (flatDr_at10 d k (by omega)),(h.cellAt (k * 13 + 11) (by omega)).trans (flatDr_at11 d k (by omega)),(h.cellAt (k * 13 + 12) (by omega)).trans (flatDr_at12 d k (by omega))⟩
theorem gDr_eq {d:List Dr} {i:Nat} (h:i < d.length):gDr d i = d[i]:=by
 unfold gDr; rw [List.getD_eq_getElem?_getD,List.getElem?_eq_getElem h]; rfl
theorem eqlDr (a b:Dr) (w:World):(binOp .eql 38 (.agg #[.int .i64 a.op,.int .i64 a.kd,.int .i64 a.id,.int .i64 a.fr,.int .i64 a.tn,.int .i64 a.st,.int .i64 a.en,.int .i64 a.rt,.int .i64 a.rf,.int .i64 a.rn,.int .i64 a.rs,.int .i64 a.re,.int .i64 a.ro]) (.agg #[.int .i64 b.op,.int .i64 b.kd,.int .i64 b.id,.int .i64 b.fr,.int .i64 b.tn,.int .i64 b.st,.int .i64 b.en,.int .i64 b.rt,.int .i64 b.rf,.int .i64 b.rn,.int .i64 b.rs,.int .i64 b.re,.int .i64 b.ro])).run Tryz.prog w = .ok (.bool (decide (a = b))) w:=by
 have u3:=Tryz.underlying3
 have a3:=Tryz.isAgg3
 have z3:=Tryz.sizeOf3
 have hS:Tryz.prog.underlying 38 = some (.struct (Tryz.prog.fieldsOf 38)):=by kernel_rfl
 have hp:Tryz.prog.stoodInHeld 38 = false:=by kernel_rfl
 rw [run_eql_struct,show (10000:Nat) = 9999 + 1 from rfl,run_equalIn_agg w 9999 38 _ _ hS hp]
 simp only [Program.fieldsOf,Tryz.underlying38]
 go_simp
 by_cases hab:a = b
 ·subst hab; simp
 ·simp only [hab,decide_false]
  by_cases h0:¬ a.op = b.op
  ·simp [h0]
  replace h0:=Decidable.not_not.1 h0
  by_cases h1:¬ a.kd = b.kd
  ·simp [h0,h1]
  replace h1:=Decidable.not_not.1 h1
  by_cases h2:¬ a.id = b.id
  ·simp [h0,h1,h2]
  replace h2:=Decidable.not_not.1 h2
  by_cases h3:¬ a.fr = b.fr
  ·simp [h0,h1,h2,h3]
  replace h3:=Decidable.not_not.1 h3
  by_cases h4:¬ a.tn = b.tn
  ·simp [h0,h1,h2,h3,h4]
  replace h4:=Decidable.not_not.1 h4
  by_cases h5:¬ a.st = b.st
  ·simp [h0,h1,h2,h3,h4,h5]
  replace h5:=Decidable.not_not.1 h5
  by_cases h6:¬ a.en = b.en
  ·simp [h0,h1,h2,h3,h4,h5,h6]
  replace h6:=Decidable.not_not.1 h6
  by_cases h7:¬ a.rt = b.rt
  ·simp [h0,h1,h2,h3,h4,h5,h6,h7]
  replace h7:=Decidable.not_not.1 h7
  by_cases h8:¬ a.rf = b.rf
  ·simp [h0,h1,h2,h3,h4,h5,h6,h7,h8]
  replace h8:=Decidable.not_not.1 h8
  by_cases h9:¬ a.rn = b.rn
  ·simp [h0,h1,h2,h3,h4,h5,h6,h7,h8,h9]
  replace h9:=Decidable.not_not.1 h9
  by_cases h10:¬ a.rs = b.rs
  ·simp [h0,h1,h2,h3,h4,h5,h6,h7,h8,h9,h10]
  replace h10:=Decidable.not_not.1 h10
  by_cases h11:¬ a.re = b.re
  ·simp [h0,h1,h2,h3,h4,h5,h6,h7,h8,h9,h10,h11]
  replace h11:=Decidable.not_not.1 h11
  by_cases h12:¬ a.ro = b.ro
  ·simp [h0,h1,h2,h3,h4,h5,h6,h7,h8,h9,h10,h11,h12]
  replace h12:=Decidable.not_not.1 h12
  exact absurd (Dr.ext_ h0 h1 h2 h3 h4 h5 h6 h7 h8 h9 h10 h11 h12) hab
theorem infoDr:(Tryz.prog.info? 38).map (fun i => (i.zero,i.size,i.bytes)) = some (some (.agg #[.int .i64 0,.int .i64 0,.int .i64 0,.int .i64 0,.int .i64 0,.int .i64 0,.int .i64 0,.int .i64 0,.int .i64 0,.int .i64 0,.int .i64 0,.int .i64 0,.int .i64 0]),13,104):=by kernel_rfl
theorem while_at {α:Type} (p:α → Bool):∀ (d:List α) (i:Nat),i ≤ d.length → (∀ j (h:j < d.length),j < i → p d[j] = true) → (∀ h:i < d.length,p d[i] = false) → d.takeWhile p = d.take i ∧ d.dropWhile p = d.drop i
 | [],i,_,_,_ => by simp
 | x :: d,0,_,_,h2 => by
  have:=h2 (by simp)
  simp only [List.getElem_cons_zero] at this
  simp [this]
 | x :: d,i + 1,hi,h1,h2 => by
  have hx:p x = true:=h1 0 (by simp) (by omega)
  obtain ⟨e1,e2⟩:=while_at p d i (by simpa using hi) (fun j h hj => h1 (j + 1) (by simpa using h) (by omega)) (fun h => h2 (by simpa using h))
  simp [hx,e1,e2]
/-! Contacts. -/
def addT (d:List Co) (r:Co):List Co:=if Kc.mayC d r = 0 then d.takeWhile (fun x => decide (Kc.cmpC x r < 0)) ++ [r] ++ d.dropWhile (fun x => decide (Kc.cmpC x r < 0)) else d
def delT (d:List Co) (id:Int):List Co:=d.filter (fun x => !(x.id == id))
def delTq (d:List Co) (id:Int):Int:=if (delT d id).length = d.length then 6 else 0
def chgT (d:List Co) (id rt:Int):List Co:=if inB rt 1 2147483647 = true ∧ Kc.idIn d id = true then d.set (d.findIdx (fun x => x.id == id)) (Kc.withRt (gCo d (d.findIdx (fun x => x.id == id))) rt) else d
def chgTq (d:List Co) (id rt:Int):Int:=if inB rt 1 2147483647 = false then 1 else if Kc.idIn d id = true then 0 else 6
theorem addT_yes {d:List Co} {r:Co} {i:Nat} (hr:Kc.rightC d = true) (hm:Kc.mayC d r = 0) (hi:i ≤ d.length) (h1:i = 0 ∨ Kc.cmpC (gCo d (i - 1)) r < 0) (h2:i = d.length ∨ 0 ≤ Kc.cmpC (gCo d i) r):addT d r = Kc.insC d i r:=by
 unfold addT Kc.insC
 rw [if_pos hm]
 obtain ⟨e1,e2⟩:=while_at (fun x => decide (Kc.cmpC x r < 0)) d i hi (fun j hj hji => by
  rw [decide_eq_true_eq,← gCo_eq hj]
  rcases h1 with h1 | h1
  ·omega
  ·by_cases e:j = i - 1
   ·rw [e]; exact h1
   ·exact Kc.cmpC_lt.2 (Kc.ltC_trans (Kc.right_lt hr (i - 1) j (by omega) (by omega)) (Kc.cmpC_lt.1 h1))) (fun h => by
  rw [decide_eq_false_iff_not,← gCo_eq h]
  rcases h2 with h2 | h2 <;> omega)
 rw [e1,e2]
theorem addT_at {d:List Co} {r:Co} (hr:Kc.rightC d = true) (hm:Kc.mayC d r = 0):∃ i,i ≤ d.length ∧ addT d r = Kc.insC d i r ∧ (i = 0 ∨ Kc.cmpC (gCo d (i - 1)) r < 0) ∧ (i = d.length ∨ 0 ≤ Kc.cmpC (gCo d i) r):=by
 have key:∀ (k:Nat),k ≤ d.length → (∀ j,j < k → Kc.cmpC (gCo d j) r < 0) ∨ ∃ i,i < k ∧ (∀ j,j < i → Kc.cmpC (gCo d j) r < 0) ∧ 0 ≤ Kc.cmpC (gCo d i) r:=by
  intro k
  induction k with
  | zero => exact fun _ => .inl fun j hj => by omega
  | succ k ih =>
   intro hk
   rcases ih (by omega) with h | ⟨i,h1,h2,h3⟩
   ·by_cases hc:Kc.cmpC (gCo d k) r < 0
    ·exact .inl fun j hj => by
      by_cases e:j = k
      ·rw [e]; exact hc
      ·exact h j (by omega)
    ·exact .inr ⟨k,by omega,h,by omega⟩
   ·exact .inr ⟨i,by omega,h2,h3⟩
 rcases key d.length (Nat.le_refl _) with h | ⟨i,h1,h2,h3⟩
 ·have a1:d.length = 0 ∨ Kc.cmpC (gCo d (d.length - 1)) r < 0:=by
   by_cases e:d.length = 0
   ·exact .inl e
   ·exact .inr (h _ (by omega))
  exact ⟨d.length,Nat.le_refl _,addT_yes hr hm (Nat.le_refl _) a1 (.inl rfl),a1,.inl rfl⟩
 ·have a1:i = 0 ∨ Kc.cmpC (gCo d (i - 1)) r < 0:=by
   by_cases e:i = 0
   ·exact .inl e
   ·exact .inr (h2 _ (by omega))
  exact ⟨i,by omega,addT_yes hr hm (by omega) a1 (.inr h3),a1,.inr h3⟩
theorem addT_right {d:List Co} {r:Co} (hr:Kc.rightC d = true):Kc.rightC (addT d r) = true:=by
 by_cases hm:Kc.mayC d r = 0
 ·obtain ⟨i,hi,e,h1,h2⟩:=addT_at hr hm
  rw [e]
  exact Kc.right_ins hr hm hi h1 h2
 ·unfold addT; rw [if_neg hm]; exact hr
theorem addT_any (A:Option Addr) (n c:Nat) (d:List Co) (r:Co) (w:World) (hd:d.length = n) (hn:n ≤ 1000000 - 1) (h:Sl w w.heap.size 6 A n c (flatCo d)) (hr:Kc.rightC d = true) (q:Int) (hq:Kc.mayC d r = q) (l:List Co) (hl:addT d r = l) :
  Calls Tryz.prog 211 #[.slice A n c,.agg #[.int .i64 r.id,.int .i64 r.fr,.int .i64 r.tn,.int .i64 r.st,.int .i64 r.en,.int .i64 r.rt]] w fun e w' => ∃ v,e = .returned (.tuple #[v,.int .i64 q]) ∧ w'.ownsRow w.heap.size 34 6 v l.length (flatCo l) ∧ Below w.heap.size w w':=by
 subst hq
 subst hl
 by_cases hm:Kc.mayC d r = 0
 ·refine (Kc.add_yes A n c d r w hd hn h hm).mono ?_
  rintro e w' ⟨v,i,rfl,hi,h1,h2,hv,hb⟩
  have hi':i ≤ d.length:=by omega
  have he:=addT_yes hr hm hi' h1 (by rw [hd]; exact h2)
  rw [hm,he,Kc.insC_length r hi',hd]
  exact ⟨v,rfl,hv,hb⟩
 ·refine (Kc.add_no A n c d r w _ hd (by omega) h rfl hm).mono ?_
  rintro e w' ⟨v,rfl,hv,hb⟩
  have he:addT d r = d:=by unfold addT; rw [if_neg hm]
  rw [he,hd]
  exact ⟨v,rfl,hv,hb⟩
theorem delT_any (A:Option Addr) (n c:Nat) (d:List Co) (id:Int) (w:World) (hd:d.length = n) (hn:n ≤ 1000000) (h:Sl w w.heap.size 6 A n c (flatCo d)) (q:Int) (hq:delTq d id = q) (l:List Co) (hl:delT d id = l) :
  Calls Tryz.prog 212 #[.slice A n c,.int .i64 id] w fun e w' => ∃ v,e = .returned (.tuple #[v,.int .i64 q]) ∧ w'.ownsRow w.heap.size 34 6 v l.length (flatCo l) ∧ Below w.heap.size w w':=by
 subst hq
 subst hl
 subst hd
 exact Kc.del_any A _ c d id w rfl hn h
theorem first_at {α:Type} (p:α → Bool) {d:List α} {q:Nat} (hq:q < d.length) (h1:∀ j (h:j < d.length),j < q → p d[j] = false) (h2:p d[q] = true):d.findIdx p = q:=by
 rw [List.findIdx_eq hq]
 exact ⟨h2,fun j hj => by simpa using h1 j (by omega) hj⟩
theorem chgT_any (A:Option Addr) (n c:Nat) (d:List Co) (id rt:Int) (w:World) (hd:d.length = n) (hn:n ≤ 1000000) (h:Sl w w.heap.size 6 A n c (flatCo d)) (q:Int) (hq:chgTq d id rt = q) (l:List Co) (hl:chgT d id rt = l) :
  Calls Tryz.prog 213 #[.slice A n c,.int .i64 id,.int .i64 rt] w fun e w' => ∃ v,e = .returned (.tuple #[v,.int .i64 q]) ∧ w'.ownsRow w.heap.size 34 6 v l.length (flatCo l) ∧ Below w.heap.size w w':=by
 subst hq
 subst hl
 cases ho:inB rt 1 2147483647
 ·have e1:chgT d id rt = d:=by unfold chgT; rw [if_neg (by rw [ho]; simp)]
  have e2:chgTq d id rt = 1:=by unfold chgTq; rw [if_pos ho]
  rw [e1,e2,hd]
  exact Kc.change_arg A n c d id rt w hd hn h ho
 ·cases hid:Kc.idIn d id
  ·have e1:chgT d id rt = d:=by unfold chgT; rw [if_neg (by rw [hid]; simp)]
   have e2:chgTq d id rt = 6:=by unfold chgTq; rw [if_neg (by rw [ho]; simp),if_neg (by rw [hid]; simp)]
   rw [e1,e2,hd]
   exact Kc.change_none A n c d id rt w hd hn h ho (fun j hj => noHitCo hid (by omega))
  ·obtain ⟨q,hq,hbef,hat⟩:=firstHitCo hid
   have hf:d.findIdx (fun x => x.id == id) = q:=first_at _ hq (fun j hj hjq => by have:=hbef j hjq; rw [gCo_eq hj] at this; exact this) (by rw [gCo_eq hq] at hat; exact hat)
   have e1:chgT d id rt = d.set q (Kc.withRt (gCo d q) rt):=by unfold chgT; rw [if_pos ⟨ho,hid⟩,hf]
   have e2:chgTq d id rt = 0:=by unfold chgTq; rw [if_neg (by rw [ho]; simp),if_pos hid]
   rw [e1,e2,List.length_set,hd]
   exact Kc.change_yes A n c d id rt w q hd hn h ho (by omega) hbef hat
theorem chgT_right {d:List Co} {id rt:Int} (hr:Kc.rightC d = true):Kc.rightC (chgT d id rt) = true ∧ (chgT d id rt).length = d.length:=by
 unfold chgT
 split
 ·rename_i h
  obtain ⟨q,hq,hbef,hat⟩:=firstHitCo h.2
  have hf:d.findIdx (fun x => x.id == id) = q:=first_at _ hq (fun j hj hjq => by have:=hbef j hjq; rw [gCo_eq hj] at this; exact this) (by rw [gCo_eq hq] at hat; exact hat)
  rw [hf]
  exact ⟨Kc.right_set hr hq h.1,List.length_set⟩
 ·exact ⟨hr,rfl⟩
/-! Ranges. -/
theorem cmpR_lt {a b:Rg}:Kr.cmpR a b < 0 ↔ Kr.ltR a b:=by
 rcases Kr.cmpR_spec a b with ⟨h,e⟩ | ⟨e1,e2,e3,e⟩ | ⟨h,e⟩
 ·exact ⟨fun _ => h,fun _ => by omega⟩
 ·exact ⟨fun h => by omega,fun h => by unfold Kr.ltR at h; omega⟩
 ·exact ⟨fun h => by omega,fun h' => by unfold Kr.ltR at h h'; omega⟩
theorem rightR_lt {d:List Rg} (h:Kr.rightB d = true) {i j:Nat} (hij:i < j) (hj:j < d.length):Kr.ltR (gRg d i) (gRg d j):=by
 have:=(List.pairwise_iff_getElem.1 (Kr.sort_of_right h).ord) i j (by omega) hj hij
 rw [gRg_eq (by omega),gRg_eq hj]
 exact this.1
def addU (d:List Rg) (r:Rg):List Rg:=if Kr.mayF d r = 0 then d.takeWhile (fun x => decide (Kr.cmpR x r < 0)) ++ [r] ++ d.dropWhile (fun x => decide (Kr.cmpR x r < 0)) else d
def delU (d:List Rg) (r:Rg):List Rg:=d.filter (fun x => !Kr.sameR x r)
def delUq (d:List Rg) (r:Rg):Int:=if (delU d r).length = d.length then 6 else 0
def chgU (d:List Rg) (r:Rg):List Rg:=if inB r.ow 0 2147483647 = true ∧ d.any (fun x => Kr.sameR x r) = true then d.set (d.findIdx (fun x => Kr.sameR x r)) (Kr.withOw (gRg d (d.findIdx (fun x => Kr.sameR x r))) r.ow) else d
def chgUq (d:List Rg) (r:Rg):Int:=if inB r.ow 0 2147483647 = false then 1 else if d.any (fun x => Kr.sameR x r) = true then 0 else 6
theorem addU_yes {d:List Rg} {r:Rg} {i:Nat} (hr:Kr.rightB d = true) (hm:Kr.mayF d r = 0) (hi:i ≤ d.length) (h1:i = 0 ∨ Kr.cmpR (gRg d (i - 1)) r < 0) (h2:i = d.length ∨ 0 ≤ Kr.cmpR (gRg d i) r):addU d r = Kr.insR d i r:=by
 unfold addU Kr.insR
 rw [if_pos hm]
 obtain ⟨e1,e2⟩:=while_at (fun x => decide (Kr.cmpR x r < 0)) d i hi (fun j hj hji => by
  rw [decide_eq_true_eq,← gRg_eq hj]
  rcases h1 with h1 | h1
  ·omega
  ·by_cases e:j = i - 1
   ·rw [e]; exact h1
   ·exact cmpR_lt.2 (Kr.ltR_trans (rightR_lt hr (by omega) (by omega)) (cmpR_lt.1 h1))) (fun h => by
  rw [decide_eq_false_iff_not,← gRg_eq h]
  rcases h2 with h2 | h2 <;> omega)
 rw [e1,e2]
theorem addU_at {d:List Rg} {r:Rg} (hr:Kr.rightB d = true) (hm:Kr.mayF d r = 0):∃ i,i ≤ d.length ∧ addU d r = Kr.insR d i r ∧ (i = 0 ∨ Kr.cmpR (gRg d (i - 1)) r < 0) ∧ (i = d.length ∨ 0 ≤ Kr.cmpR (gRg d i) r):=by
 have key:∀ (k:Nat),k ≤ d.length → (∀ j,j < k → Kr.cmpR (gRg d j) r < 0) ∨ ∃ i,i < k ∧ (∀ j,j < i → Kr.cmpR (gRg d j) r < 0) ∧ 0 ≤ Kr.cmpR (gRg d i) r:=by
  intro k
  induction k with
  | zero => exact fun _ => .inl fun j hj => by omega
  | succ k ih =>
   intro hk
   rcases ih (by omega) with h | ⟨i,h1,h2,h3⟩
   ·by_cases hc:Kr.cmpR (gRg d k) r < 0
    ·exact .inl fun j hj => by
      by_cases e:j = k
      ·rw [e]; exact hc
      ·exact h j (by omega)
    ·exact .inr ⟨k,by omega,h,by omega⟩
   ·exact .inr ⟨i,by omega,h2,h3⟩
 rcases key d.length (Nat.le_refl _) with h | ⟨i,h1,h2,h3⟩
 ·have a1:d.length = 0 ∨ Kr.cmpR (gRg d (d.length - 1)) r < 0:=by
   by_cases e:d.length = 0
   ·exact .inl e
   ·exact .inr (h _ (by omega))
  exact ⟨d.length,Nat.le_refl _,addU_yes hr hm (Nat.le_refl _) a1 (.inl rfl),a1,.inl rfl⟩
 ·have a1:i = 0 ∨ Kr.cmpR (gRg d (i - 1)) r < 0:=by
   by_cases e:i = 0
   ·exact .inl e
   ·exact .inr (h2 _ (by omega))
  exact ⟨i,by omega,addU_yes hr hm (by omega) a1 (.inr h3),a1,.inr h3⟩
theorem addU_right {d:List Rg} {r:Rg} (hr:Kr.rightB d = true):Kr.rightB (addU d r) = true:=by
 by_cases hm:Kr.mayF d r = 0
 ·obtain ⟨i,hi,e,h1,h2⟩:=addU_at hr hm
  rw [e]
  exact Kr.right_ins hr hm hi h1 h2
 ·unfold addU; rw [if_neg hm]; exact hr
theorem addU_any (A:Option Addr) (n c:Nat) (d:List Rg) (r:Rg) (w:World) (hd:d.length = n) (hn:n ≤ 1000000 - 1) (h:Sl w w.heap.size 5 A n c (flatRg d)) (hr:Kr.rightB d = true) (q:Int) (hq:Kr.mayF d r = q) (l:List Rg) (hl:addU d r = l) :
  Calls Tryz.prog 214 #[.slice A n c,.agg #[.int .i64 r.fr,.int .i64 r.tn,.int .i64 r.st,.int .i64 r.en,.int .i64 r.ow]] w fun e w' => ∃ v,e = .returned (.tuple #[v,.int .i64 q]) ∧ w'.ownsRow w.heap.size 36 5 v l.length (flatRg l) ∧ Below w.heap.size w w':=by
 subst hq
 subst hl
 by_cases hm:Kr.mayF d r = 0
 ·refine (Kr.add_yes A n c d r w hd hn h hm).mono ?_
  rintro e w' ⟨v,i,rfl,hi,h1,h2,hv,hb⟩
  have hi':i ≤ d.length:=by omega
  have he:=addU_yes hr hm hi' h1 (by rw [hd]; exact h2)
  rw [hm,he,Kr.insR_length r hi',hd]
  exact ⟨v,rfl,hv,hb⟩
 ·refine (Kr.add_no A n c d r w _ hd (by omega) h rfl hm).mono ?_
  rintro e w' ⟨v,rfl,hv,hb⟩
  have he:addU d r = d:=by unfold addU; rw [if_neg hm]
  rw [he,hd]
  exact ⟨v,rfl,hv,hb⟩
theorem delU_any (A:Option Addr) (n c:Nat) (d:List Rg) (r:Rg) (w:World) (hd:d.length = n) (hn:n ≤ 1000000) (h:Sl w w.heap.size 5 A n c (flatRg d)) (q:Int) (hq:delUq d r = q) (l:List Rg) (hl:delU d r = l) :
  Calls Tryz.prog 215 #[.slice A n c,.agg #[.int .i64 r.fr,.int .i64 r.tn,.int .i64 r.st,.int .i64 r.en,.int .i64 r.ow]] w fun e w' => ∃ v,e = .returned (.tuple #[v,.int .i64 q]) ∧ w'.ownsRow w.heap.size 36 5 v l.length (flatRg l) ∧ Below w.heap.size w w':=by
 subst hq
 subst hl
 subst hd
 exact Kr.del_any A _ c d r w rfl hn h
theorem chgU_any (A:Option Addr) (n c:Nat) (d:List Rg) (r:Rg) (w:World) (hd:d.length = n) (hn:n ≤ 1000000) (h:Sl w w.heap.size 5 A n c (flatRg d)) (q:Int) (hq:chgUq d r = q) (l:List Rg) (hl:chgU d r = l) :
  Calls Tryz.prog 216 #[.slice A n c,.agg #[.int .i64 r.fr,.int .i64 r.tn,.int .i64 r.st,.int .i64 r.en,.int .i64 r.ow]] w fun e w' => ∃ v,e = .returned (.tuple #[v,.int .i64 q]) ∧ w'.ownsRow w.heap.size 36 5 v l.length (flatRg l) ∧ Below w.heap.size w w':=by
 subst hq
 subst hl
 cases ho:inB r.ow 0 2147483647
 ·have e1:chgU d r = d:=by unfold chgU; rw [if_neg (by rw [ho]; simp)]
  have e2:chgUq d r = 1:=by unfold chgUq; rw [if_pos ho]
  rw [e1,e2,hd]
  exact Kr.change_arg A n c d r w hd hn h ho
 ·cases hid:d.any (fun x => Kr.sameR x r)
  ·have e1:chgU d r = d:=by unfold chgU; rw [if_neg (by rw [hid]; simp)]
   have e2:chgUq d r = 6:=by unfold chgUq; rw [if_neg (by rw [ho]; simp),if_neg (by rw [hid]; simp)]
   rw [e1,e2,hd]
   exact Kr.change_none A n c d r w hd hn h ho (fun j hj => noHitRg hid (by omega))
  ·obtain ⟨q,hq,hbef,hat⟩:=firstHitRg hid
   have hf:d.findIdx (fun x => Kr.sameR x r) = q:=first_at _ hq (fun j hj hjq => by have:=hbef j hjq; rw [gRg_eq hj] at this; exact this) (by rw [gRg_eq hq] at hat; exact hat)
   have e1:chgU d r = d.set q (Kr.withOw (gRg d q) r.ow):=by unfold chgU; rw [if_pos ⟨ho,hid⟩,hf]
   have e2:chgUq d r = 0:=by unfold chgUq; rw [if_neg (by rw [ho]; simp),if_pos hid]
   rw [e1,e2,List.length_set,hd]
   exact Kr.change_yes A n c d r w q hd hn h ho (by omega) hbef hat
end Go.Proofs.YtjldgcebadojiaaGreatDoor
