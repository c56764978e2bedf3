/- Several texts of mine in one: TyDr, TyAp. No condition. -/
import Derived.Test.YtolaabllhibkdaaGreatChecked
import Derived.Test.YtolaabllhibkdaaGreatGA

/- api.Directive: its cells, lists of it. No condition. -/
namespace Go.Proofs.YtolaabllhibkdaaGreat
open Go.ChangeShapes Go.WideShapes Go.ChangeAt Go.RowKit Go.Sort
set_option linter.unusedSimpArgs false
set_option linter.unusedVariables false
structure Dr where
 op:Int
 kd:Int
 id:Int
 fr:Int
 tn:Int
 st:Int
 en:Int
 rt:Int
 rf:Int
 rn:Int
 rs:Int
 re:Int
 ro:Int
theorem Dr.ext_ {a b:Dr} (h0:a.op = b.op) (h1:a.kd = b.kd) (h2:a.id = b.id) (h3:a.fr = b.fr) (h4:a.tn = b.tn) (h5:a.st = b.st) (h6:a.en = b.en) (h7:a.rt = b.rt) (h8:a.rf = b.rf) (h9:a.rn = b.rn) (h10:a.rs = b.rs) (h11:a.re = b.re) (h12:a.ro = b.ro):a = b:=by cases a; cases b; simp_all
instance:DecidableEq Dr:=fun a b => if h:a.op = b.op ∧ a.kd = b.kd ∧ a.id = b.id ∧ a.fr = b.fr ∧ a.tn = b.tn ∧ a.st = b.st ∧ a.en = b.en ∧ a.rt = b.rt ∧ a.rf = b.rf ∧ a.rn = b.rn ∧ a.rs = b.rs ∧ a.re = b.re ∧ a.ro = b.ro then isTrue (Dr.ext_ h.1 h.2.1 h.2.2.1 h.2.2.2.1 h.2.2.2.2.1 h.2.2.2.2.2.1 h.2.2.2.2.2.2.1 h.2.2.2.2.2.2.2.1 h.2.2.2.2.2.2.2.2.1 h.2.2.2.2.2.2.2.2.2.1 h.2.2.2.2.2.2.2.2.2.2.1 h.2.2.2.2.2.2.2.2.2.2.2.1 h.2.2.2.2.2.2.2.2.2.2.2.2) else isFalse (by rintro rfl; simp at h)
def Dr.cs (r:Dr):List Value:=[.int .i64 r.op,.int .i64 r.kd,.int .i64 r.id,.int .i64 r.fr,.int .i64 r.tn,.int .i64 r.st,.int .i64 r.en,.int .i64 r.rt,.int .i64 r.rf,.int .i64 r.rn,.int .i64 r.rs,.int .i64 r.re,.int .i64 r.ro]
def flatDr (d:List Dr):List Value:=d.flatMap Dr.cs
def gDr (d:List Dr) (i:Nat):Dr:=d.getD i ⟨0,0,0,0,0,0,0,0,0,0,0,0,0⟩
theorem flatDr_cons (p:Dr) (d:List Dr):flatDr (p :: d) = .int .i64 p.op :: .int .i64 p.kd :: .int .i64 p.id :: .int .i64 p.fr :: .int .i64 p.tn :: .int .i64 p.st :: .int .i64 p.en :: .int .i64 p.rt :: .int .i64 p.rf :: .int .i64 p.rn :: .int .i64 p.rs :: .int .i64 p.re :: .int .i64 p.ro :: flatDr d:=rfl
theorem flatDr_append (d e:List Dr):flatDr (d ++ e) = flatDr d ++ flatDr e:=by simp [flatDr]
theorem flatDr_at0:∀ (d:List Dr) (i:Nat),i < d.length → (flatDr d)[i * 13]? = some (.int .i64 (gDr d i).op)
 | p :: d,0,_ => rfl
 | p :: d,i + 1,h => by
  rw [flatDr_cons,show (i + 1) * 13 = i * 13 + 1 + 1 + 1 + 1 + 1 + 1 + 1 + 1 + 1 + 1 + 1 + 1 + 1 from by omega]
  simp only [List.getElem?_cons_succ]
  exact flatDr_at0 d i (by simpa using h)
theorem flatDr_at1:∀ (d:List Dr) (i:Nat),i < d.length → (flatDr d)[i * 13 + 1]? = some (.int .i64 (gDr d i).kd)
 | p :: d,0,_ => rfl
 | p :: d,i + 1,h => by
  rw [flatDr_cons,show (i + 1) * 13 + 1 = i * 13 + 1 + 1 + 1 + 1 + 1 + 1 + 1 + 1 + 1 + 1 + 1 + 1 + 1 + 1 from by omega]
  simp only [List.getElem?_cons_succ]
  exact flatDr_at1 d i (by simpa using h)
theorem flatDr_at2:∀ (d:List Dr) (i:Nat),i < d.length → (flatDr d)[i * 13 + 2]? = some (.int .i64 (gDr d i).id)
 | p :: d,0,_ => rfl
 | p :: d,i + 1,h => by
  rw [flatDr_cons,show (i + 1) * 13 + 2 = i * 13 + 2 + 1 + 1 + 1 + 1 + 1 + 1 + 1 + 1 + 1 + 1 + 1 + 1 + 1 from by omega]
  simp only [List.getElem?_cons_succ]
  exact flatDr_at2 d i (by simpa using h)
theorem flatDr_at3:∀ (d:List Dr) (i:Nat),i < d.length → (flatDr d)[i * 13 + 3]? = some (.int .i64 (gDr d i).fr)
 | p :: d,0,_ => rfl
 | p :: d,i + 1,h => by
  rw [flatDr_cons,show (i + 1) * 13 + 3 = i * 13 + 3 + 1 + 1 + 1 + 1 + 1 + 1 + 1 + 1 + 1 + 1 + 1 + 1 + 1 from by omega]
  simp only [List.getElem?_cons_succ]
  exact flatDr_at3 d i (by simpa using h)
theorem flatDr_at4:∀ (d:List Dr) (i:Nat),i < d.length → (flatDr d)[i * 13 + 4]? = some (.int .i64 (gDr d i).tn)
 | p :: d,0,_ => rfl
 | p :: d,i + 1,h => by
  rw [flatDr_cons,show (i + 1) * 13 + 4 = i * 13 + 4 + 1 + 1 + 1 + 1 + 1 + 1 + 1 + 1 + 1 + 1 + 1 + 1 + 1 from by omega]
  simp only [List.getElem?_cons_succ]
  exact flatDr_at4 d i (by simpa using h)
theorem flatDr_at5:∀ (d:List Dr) (i:Nat),i < d.length → (flatDr d)[i * 13 + 5]? = some (.int .i64 (gDr d i).st)
 | p :: d,0,_ => rfl
 | p :: d,i + 1,h => by
  rw [flatDr_cons,show (i + 1) * 13 + 5 = i * 13 + 5 + 1 + 1 + 1 + 1 + 1 + 1 + 1 + 1 + 1 + 1 + 1 + 1 + 1 from by omega]
  simp only [List.getElem?_cons_succ]
  exact flatDr_at5 d i (by simpa using h)
theorem flatDr_at6:∀ (d:List Dr) (i:Nat),i < d.length → (flatDr d)[i * 13 + 6]? = some (.int .i64 (gDr d i).en)
 | p :: d,0,_ => rfl
 | p :: d,i + 1,h => by
  rw [flatDr_cons,show (i + 1) * 13 + 6 = i * 13 + 6 + 1 + 1 + 1 + 1 + 1 + 1 + 1 + 1 + 1 + 1 + 1 + 1 + 1 from by omega]
  simp only [List.getElem?_cons_succ]
  exact flatDr_at6 d i (by simpa using h)
theorem flatDr_at7:∀ (d:List Dr) (i:Nat),i < d.length → (flatDr d)[i * 13 + 7]? = some (.int .i64 (gDr d i).rt)
 | p :: d,0,_ => rfl
 | p :: d,i + 1,h => by
  rw [flatDr_cons,show (i + 1) * 13 + 7 = i * 13 + 7 + 1 + 1 + 1 + 1 + 1 + 1 + 1 + 1 + 1 + 1 + 1 + 1 + 1 from by omega]
  simp only [List.getElem?_cons_succ]
  exact flatDr_at7 d i (by simpa using h)
theorem flatDr_at8:∀ (d:List Dr) (i:Nat),i < d.length → (flatDr d)[i * 13 + 8]? = some (.int .i64 (gDr d i).rf)
 | p :: d,0,_ => rfl
 | p :: d,i + 1,h => by
  rw [flatDr_cons,show (i + 1) * 13 + 8 = i * 13 + 8 + 1 + 1 + 1 + 1 + 1 + 1 + 1 + 1 + 1 + 1 + 1 + 1 + 1 from by omega]
  simp only [List.getElem?_cons_succ]
  exact flatDr_at8 d i (by simpa using h)
theorem flatDr_at9:∀ (d:List Dr) (i:Nat),i < d.length → (flatDr d)[i * 13 + 9]? = some (.int .i64 (gDr d i).rn)
 | p :: d,0,_ => rfl
 | p :: d,i + 1,h => by
  rw [flatDr_cons,show (i + 1) * 13 + 9 = i * 13 + 9 + 1 + 1 + 1 + 1 + 1 + 1 + 1 + 1 + 1 + 1 + 1 + 1 + 1 from by omega]
  simp only [List.getElem?_cons_succ]
  exact flatDr_at9 d i (by simpa using h)
theorem flatDr_at10:∀ (d:List Dr) (i:Nat),i < d.length → (flatDr d)[i * 13 + 10]? = some (.int .i64 (gDr d i).rs)
 | p :: d,0,_ => rfl
 | p :: d,i + 1,h => by
  rw [flatDr_cons,show (i + 1) * 13 + 10 = i * 13 + 10 + 1 + 1 + 1 + 1 + 1 + 1 + 1 + 1 + 1 + 1 + 1 + 1 + 1 from by omega]
  simp only [List.getElem?_cons_succ]
  exact flatDr_at10 d i (by simpa using h)
theorem flatDr_at11:∀ (d:List Dr) (i:Nat),i < d.length → (flatDr d)[i * 13 + 11]? = some (.int .i64 (gDr d i).re)
 | p :: d,0,_ => rfl
 | p :: d,i + 1,h => by
  rw [flatDr_cons,show (i + 1) * 13 + 11 = i * 13 + 11 + 1 + 1 + 1 + 1 + 1 + 1 + 1 + 1 + 1 + 1 + 1 + 1 + 1 from by omega]
  simp only [List.getElem?_cons_succ]
  exact flatDr_at11 d i (by simpa using h)
theorem flatDr_at12:∀ (d:List Dr) (i:Nat),i < d.length → (flatDr d)[i * 13 + 12]? = some (.int .i64 (gDr d i).ro)
 | p :: d,0,_ => rfl
 | p :: d,i + 1,h => by
  rw [flatDr_cons,show (i + 1) * 13 + 12 = i * 13 + 12 + 1 + 1 + 1 + 1 + 1 + 1 + 1 + 1 + 1 + 1 + 1 + 1 + 1 from by omega]
  simp only [List.getElem?_cons_succ]
  exact flatDr_at12 d i (by simpa using h)
theorem Lst.atDr {w:World} {B:Nat} {A:Option Addr} {n:Nat} {l:List Dr} (h:Lst w B 13 A n (flatDr l)) (hl:l.length = n) {k:Nat} (hk:k < n):∃ ad,A = some ad ∧ ad.block < B ∧ w.cell? (ad.add (k * 13)) = some (.int .i64 (gDr l k).op) ∧ w.cell? ⟨(ad.add (k * 13)).block,(ad.add (k * 13)).off + 1,none⟩ = some (.int .i64 (gDr l k).kd) ∧ w.cell? ⟨(ad.add (k * 13)).block,(ad.add (k * 13)).off + 2,none⟩ = some (.int .i64 (gDr l k).id) ∧ w.cell? ⟨(ad.add (k * 13)).block,(ad.add (k * 13)).off + 3,none⟩ = some (.int .i64 (gDr l k).fr) ∧ w.cell? ⟨(ad.add (k * 13)).block,(ad.add (k * 13)).off + 4,none⟩ = some (.int .i64 (gDr l k).tn) ∧ w.cell? ⟨(ad.add (k * 13)).block,(ad.add (k * 13)).off + 5,none⟩ = some (.int .i64 (gDr l k).st) ∧ w.cell? ⟨(ad.add (k * 13)).block,(ad.add (k * 13)).off + 6,none⟩ = some (.int .i64 (gDr l k).en) ∧ w.cell? ⟨(ad.add (k * 13)).block,(ad.add (k * 13)).off + 7,none⟩ = some (.int .i64 (gDr l k).rt) ∧ w.cell? ⟨(ad.add (k * 13)).block,(ad.add (k * 13)).off + 8,none⟩ = some (.int .i64 (gDr l k).rf) ∧ w.cell? ⟨(ad.add (k * 13)).block,(ad.add (k * 13)).off + 9,none⟩ = some (.int .i64 (gDr l k).rn) ∧ w.cell? ⟨(ad.add (k * 13)).block,(ad.add (k * 13)).off + 10,none⟩ = some (.int .i64 (gDr l k).rs) ∧ w.cell? ⟨(ad.add (k * 13)).block,(ad.add (k * 13)).off + 11,none⟩ = some (.int .i64 (gDr l k).re) ∧ w.cell? ⟨(ad.add (k * 13)).block,(ad.add (k * 13)).off + 12,none⟩ = some (.int .i64 (gDr l k).ro):=by
 obtain ⟨ad,e,hb,hc⟩:=h.at_ (by omega)
 exact ⟨ad,e,hb,hc _ _ (flatDr_at0 l k (by omega)),by rw [addr_next _ _ _ (by omega)]; exact hc _ _ (flatDr_at1 l k (by omega)),by rw [addr_next _ _ _ (by omega)]; exact hc _ _ (flatDr_at2 l k (by omega)),by rw [addr_next _ _ _ (by omega)]; exact hc _ _ (flatDr_at3 l k (by omega)),by rw [addr_next _ _ _ (by omega)]; exact hc _ _ (flatDr_at4 l k (by omega)),by rw [addr_next _ _ _ (by omega)]; exact hc _ _ (flatDr_at5 l k (by omega)),by rw [addr_next _ _ _ (by omega)]; exact hc _ _ (flatDr_at6 l k (by omega)),by rw [addr_next _ _ _ (by omega)]; exact hc _ _ (flatDr_at7 l k (by omega)),by rw [addr_next _ _ _ (by omega)]; exact hc _ _ (flatDr_at8 l k (by omega)),by rw [addr_next _ _ _ (by omega)]; exact hc _ _ (flatDr_at9 l k (by omega)),by rw [addr_next _ _ _ (by omega)]; exact hc _ _ (flatDr_at10 l k (by omega)),by rw [addr_next _ _ _ (by omega)]; exact hc _ _ (flatDr_at11 l k (by omega)),by rw [addr_next _ _ _ (by omega)]; exact hc _ _ (flatDr_at12 l k (by omega))⟩
theorem gDr_eq {d:List Dr} {i:Nat} (h:i < d.length):gDr d i = d[i]:=by
 unfold gDr; rw [List.getD_eq_getElem?_getD,List.getElem?_eq_getElem h]; rfl
theorem take_nextDr {l:List Dr} {k:Nat} (h:k < l.length):l.take (k + 1) = l.take k ++ [gDr l k]:=by
 rw [List.take_succ_eq_append_getElem h,gDr_eq h]
theorem eqlDr (a b:Dr) (w:World):(binOp .eql 37 (.agg #[.int .i64 a.op,.int .i64 a.kd,.int .i64 a.id,.int .i64 a.fr,.int .i64 a.tn,.int .i64 a.st,.int .i64 a.en,.int .i64 a.rt,.int .i64 a.rf,.int .i64 a.rn,.int .i64 a.rs,.int .i64 a.re,.int .i64 a.ro]) (.agg #[.int .i64 b.op,.int .i64 b.kd,.int .i64 b.id,.int .i64 b.fr,.int .i64 b.tn,.int .i64 b.st,.int .i64 b.en,.int .i64 b.rt,.int .i64 b.rf,.int .i64 b.rn,.int .i64 b.rs,.int .i64 b.re,.int .i64 b.ro])).run Tryz.prog w = .ok (.bool (decide (a = b))) w:=by
 have u3:=Tryz.underlying3
 have a3:=Tryz.isAgg3
 have z3:=Tryz.sizeOf3
 have hS:Tryz.prog.underlying 37 = some (.struct (Tryz.prog.fieldsOf 37)):=by kernel_rfl
 have hp:Tryz.prog.stoodInHeld 37 = false:=by kernel_rfl
 rw [run_eql_struct,show (10000:Nat) = 9999 + 1 from rfl,run_equalIn_agg w 9999 37 _ _ hS hp]
 simp only [Program.fieldsOf,Tryz.underlying37]
 go_simp
 by_cases hab:a = b
 ·subst hab; simp
 ·simp only [hab,decide_false]
  by_cases h0:¬ a.op = b.op
  ·simp [h0]
  replace h0:=Decidable.not_not.1 h0
  by_cases h1:¬ a.kd = b.kd
  ·simp [h0,h1]
  replace h1:=Decidable.not_not.1 h1
  by_cases h2:¬ a.id = b.id
  ·simp [h0,h1,h2]
  replace h2:=Decidable.not_not.1 h2
  by_cases h3:¬ a.fr = b.fr
  ·simp [h0,h1,h2,h3]
  replace h3:=Decidable.not_not.1 h3
  by_cases h4:¬ a.tn = b.tn
  ·simp [h0,h1,h2,h3,h4]
  replace h4:=Decidable.not_not.1 h4
  by_cases h5:¬ a.st = b.st
  ·simp [h0,h1,h2,h3,h4,h5]
  replace h5:=Decidable.not_not.1 h5
  by_cases h6:¬ a.en = b.en
  ·simp [h0,h1,h2,h3,h4,h5,h6]
  replace h6:=Decidable.not_not.1 h6
  by_cases h7:¬ a.rt = b.rt
  ·simp [h0,h1,h2,h3,h4,h5,h6,h7]
  replace h7:=Decidable.not_not.1 h7
  by_cases h8:¬ a.rf = b.rf
  ·simp [h0,h1,h2,h3,h4,h5,h6,h7,h8]
  replace h8:=Decidable.not_not.1 h8
  by_cases h9:¬ a.rn = b.rn
  ·simp [h0,h1,h2,h3,h4,h5,h6,h7,h8,h9]
  replace h9:=Decidable.not_not.1 h9
  by_cases h10:¬ a.rs = b.rs
  ·simp [h0,h1,h2,h3,h4,h5,h6,h7,h8,h9,h10]
  replace h10:=Decidable.not_not.1 h10
  by_cases h11:¬ a.re = b.re
  ·simp [h0,h1,h2,h3,h4,h5,h6,h7,h8,h9,h10,h11]
  replace h11:=Decidable.not_not.1 h11
  by_cases h12:¬ a.ro = b.ro
  ·simp [h0,h1,h2,h3,h4,h5,h6,h7,h8,h9,h10,h11,h12]
  replace h12:=Decidable.not_not.1 h12
  exact absurd (Dr.ext_ h0 h1 h2 h3 h4 h5 h6 h7 h8 h9 h10 h11 h12) hab
theorem neqDr (a b:Dr) (w:World):(binOp .neq 37 (.agg #[.int .i64 a.op,.int .i64 a.kd,.int .i64 a.id,.int .i64 a.fr,.int .i64 a.tn,.int .i64 a.st,.int .i64 a.en,.int .i64 a.rt,.int .i64 a.rf,.int .i64 a.rn,.int .i64 a.rs,.int .i64 a.re,.int .i64 a.ro]) (.agg #[.int .i64 b.op,.int .i64 b.kd,.int .i64 b.id,.int .i64 b.fr,.int .i64 b.tn,.int .i64 b.st,.int .i64 b.en,.int .i64 b.rt,.int .i64 b.rf,.int .i64 b.rn,.int .i64 b.rs,.int .i64 b.re,.int .i64 b.ro])).run Tryz.prog w = .ok (.bool (!decide (a = b))) w:=by
 have u3:=Tryz.underlying3
 have a3:=Tryz.isAgg3
 have z3:=Tryz.sizeOf3
 have hS:Tryz.prog.underlying 37 = some (.struct (Tryz.prog.fieldsOf 37)):=by kernel_rfl
 have hp:Tryz.prog.stoodInHeld 37 = false:=by kernel_rfl
 rw [run_neq_struct,show (10000:Nat) = 9999 + 1 from rfl,run_equalIn_agg w 9999 37 _ _ hS hp]
 simp only [Program.fieldsOf,Tryz.underlying37]
 go_simp
 by_cases hab:a = b
 ·subst hab; simp
 ·simp only [hab,decide_false]
  by_cases h0:¬ a.op = b.op
  ·simp [h0]
  replace h0:=Decidable.not_not.1 h0
  by_cases h1:¬ a.kd = b.kd
  ·simp [h0,h1]
  replace h1:=Decidable.not_not.1 h1
  by_cases h2:¬ a.id = b.id
  ·simp [h0,h1,h2]
  replace h2:=Decidable.not_not.1 h2
  by_cases h3:¬ a.fr = b.fr
  ·simp [h0,h1,h2,h3]
  replace h3:=Decidable.not_not.1 h3
  by_cases h4:¬ a.tn = b.tn
  ·simp [h0,h1,h2,h3,h4]
  replace h4:=Decidable.not_not.1 h4
  by_cases h5:¬ a.st = b.st
  ·simp [h0,h1,h2,h3,h4,h5]
  replace h5:=Decidable.not_not.1 h5
  by_cases h6:¬ a.en = b.en
  ·simp [h0,h1,h2,h3,h4,h5,h6]
  replace h6:=Decidable.not_not.1 h6
  by_cases h7:¬ a.rt = b.rt
  ·simp [h0,h1,h2,h3,h4,h5,h6,h7]
  replace h7:=Decidable.not_not.1 h7
  by_cases h8:¬ a.rf = b.rf
  ·simp [h0,h1,h2,h3,h4,h5,h6,h7,h8]
  replace h8:=Decidable.not_not.1 h8
  by_cases h9:¬ a.rn = b.rn
  ·simp [h0,h1,h2,h3,h4,h5,h6,h7,h8,h9]
  replace h9:=Decidable.not_not.1 h9
  by_cases h10:¬ a.rs = b.rs
  ·simp [h0,h1,h2,h3,h4,h5,h6,h7,h8,h9,h10]
  replace h10:=Decidable.not_not.1 h10
  by_cases h11:¬ a.re = b.re
  ·simp [h0,h1,h2,h3,h4,h5,h6,h7,h8,h9,h10,h11]
  replace h11:=Decidable.not_not.1 h11
  by_cases h12:¬ a.ro = b.ro
  ·simp [h0,h1,h2,h3,h4,h5,h6,h7,h8,h9,h10,h11,h12]
  replace h12:=Decidable.not_not.1 h12
  exact absurd (Dr.ext_ h0 h1 h2 h3 h4 h5 h6 h7 h8 h9 h10 h11 h12) hab
theorem infoDr:(Tryz.prog.info? 37).map (fun i => (i.zero,i.size,i.bytes)) = some (some (.agg #[.int .i64 0,.int .i64 0,.int .i64 0,.int .i64 0,.int .i64 0,.int .i64 0,.int .i64 0,.int .i64 0,.int .i64 0,.int .i64 0,.int .i64 0,.int .i64 0,.int .i64 0]),13,104):=by kernel_rfl
end Go.Proofs.YtolaabllhibkdaaGreat

/- feluccalaw08.Act: its cells, lists of it. No condition. -/
namespace Go.Proofs.YtolaabllhibkdaaGreat
open Go.ChangeShapes Go.WideShapes Go.ChangeAt Go.RowKit Go.Sort
set_option linter.unusedSimpArgs false
set_option linter.unusedVariables false
structure Ap where
 dq:Int
 op:Int
 kd:Int
 id:Int
 fr:Int
 tn:Int
 st:Int
 en:Int
 rt:Int
 rf:Int
 rn:Int
 rs:Int
 re:Int
 ro:Int
 nn:Int
theorem Ap.ext_ {a b:Ap} (h0:a.dq = b.dq) (h1:a.op = b.op) (h2:a.kd = b.kd) (h3:a.id = b.id) (h4:a.fr = b.fr) (h5:a.tn = b.tn) (h6:a.st = b.st) (h7:a.en = b.en) (h8:a.rt = b.rt) (h9:a.rf = b.rf) (h10:a.rn = b.rn) (h11:a.rs = b.rs) (h12:a.re = b.re) (h13:a.ro = b.ro) (h14:a.nn = b.nn):a = b:=by cases a; cases b; simp_all
instance:DecidableEq Ap:=fun a b => if h:a.dq = b.dq ∧ a.op = b.op ∧ a.kd = b.kd ∧ a.id = b.id ∧ a.fr = b.fr ∧ a.tn = b.tn ∧ a.st = b.st ∧ a.en = b.en ∧ a.rt = b.rt ∧ a.rf = b.rf ∧ a.rn = b.rn ∧ a.rs = b.rs ∧ a.re = b.re ∧ a.ro = b.ro ∧ a.nn = b.nn then isTrue (Ap.ext_ h.1 h.2.1 h.2.2.1 h.2.2.2.1 h.2.2.2.2.1 h.2.2.2.2.2.1 h.2.2.2.2.2.2.1 h.2.2.2.2.2.2.2.1 h.2.2.2.2.2.2.2.2.1 h.2.2.2.2.2.2.2.2.2.1 h.2.2.2.2.2.2.2.2.2.2.1 h.2.2.2.2.2.2.2.2.2.2.2.1 h.2.2.2.2.2.2.2.2.2.2.2.2.1 h.2.2.2.2.2.2.2.2.2.2.2.2.2.1 h.2.2.2.2.2.2.2.2.2.2.2.2.2.2) else isFalse (by rintro rfl; simp at h)
def Ap.cs (r:Ap):List Value:=[.int .i64 r.dq,.int .i64 r.op,.int .i64 r.kd,.int .i64 r.id,.int .i64 r.fr,.int .i64 r.tn,.int .i64 r.st,.int .i64 r.en,.int .i64 r.rt,.int .i64 r.rf,.int .i64 r.rn,.int .i64 r.rs,.int .i64 r.re,.int .i64 r.ro,.int .i64 r.nn]
def flatAp (d:List Ap):List Value:=d.flatMap Ap.cs
def gAp (d:List Ap) (i:Nat):Ap:=d.getD i ⟨0,0,0,0,0,0,0,0,0,0,0,0,0,0,0⟩
theorem flatAp_cons (p:Ap) (d:List Ap):flatAp (p :: d) = .int .i64 p.dq :: .int .i64 p.op :: .int .i64 p.kd :: .int .i64 p.id :: .int .i64 p.fr :: .int .i64 p.tn :: .int .i64 p.st :: .int .i64 p.en :: .int .i64 p.rt :: .int .i64 p.rf :: .int .i64 p.rn :: .int .i64 p.rs :: .int .i64 p.re :: .int .i64 p.ro :: .int .i64 p.nn :: flatAp d:=rfl
theorem flatAp_at0:∀ (d:List Ap) (i:Nat),i < d.length → (flatAp d)[i * 15]? = some (.int .i64 (gAp d i).dq)
 | p :: d,0,_ => rfl
 | p :: d,i + 1,h => by
  rw [flatAp_cons,show (i + 1) * 15 = i * 15 + 1 + 1 + 1 + 1 + 1 + 1 + 1 + 1 + 1 + 1 + 1 + 1 + 1 + 1 + 1 from by omega]
  simp only [List.getElem?_cons_succ]
  exact flatAp_at0 d i (by simpa using h)
theorem flatAp_at1:∀ (d:List Ap) (i:Nat),i < d.length → (flatAp d)[i * 15 + 1]? = some (.int .i64 (gAp d i).op)
 | p :: d,0,_ => rfl
 | p :: d,i + 1,h => by
  rw [flatAp_cons,show (i + 1) * 15 + 1 = i * 15 + 1 + 1 + 1 + 1 + 1 + 1 + 1 + 1 + 1 + 1 + 1 + 1 + 1 + 1 + 1 + 1 from by omega]
  simp only [List.getElem?_cons_succ]
  exact flatAp_at1 d i (by simpa using h)
theorem flatAp_at2:∀ (d:List Ap) (i:Nat),i < d.length → (flatAp d)[i * 15 + 2]? = some (.int .i64 (gAp d i).kd)
 | p :: d,0,_ => rfl
 | p :: d,i + 1,h => by
  rw [flatAp_cons,show (i + 1) * 15 + 2 = i * 15 + 2 + 1 + 1 + 1 + 1 + 1 + 1 + 1 + 1 + 1 + 1 + 1 + 1 + 1 + 1 + 1 from by omega]
  simp only [List.getElem?_cons_succ]
  exact flatAp_at2 d i (by simpa using h)
theorem flatAp_at3:∀ (d:List Ap) (i:Nat),i < d.length → (flatAp d)[i * 15 + 3]? = some (.int .i64 (gAp d i).id)
 | p :: d,0,_ => rfl
 | p :: d,i + 1,h => by
  rw [flatAp_cons,show (i + 1) * 15 + 3 = i * 15 + 3 + 1 + 1 + 1 + 1 + 1 + 1 + 1 + 1 + 1 + 1 + 1 + 1 + 1 + 1 + 1 from by omega]
  simp only [List.getElem?_cons_succ]
  exact flatAp_at3 d i (by simpa using h)
theorem flatAp_at4:∀ (d:List Ap) (i:Nat),i < d.length → (flatAp d)[i * 15 + 4]? = some (.int .i64 (gAp d i).fr)
 | p :: d,0,_ => rfl
 | p :: d,i + 1,h => by
  rw [flatAp_cons,show (i + 1) * 15 + 4 = i * 15 + 4 + 1 + 1 + 1 + 1 + 1 + 1 + 1 + 1 + 1 + 1 + 1 + 1 + 1 + 1 + 1 from by omega]
  simp only [List.getElem?_cons_succ]
  exact flatAp_at4 d i (by simpa using h)
theorem flatAp_at5:∀ (d:List Ap) (i:Nat),i < d.length → (flatAp d)[i * 15 + 5]? = some (.int .i64 (gAp d i).tn)
 | p :: d,0,_ => rfl
 | p :: d,i + 1,h => by
  rw [flatAp_cons,show (i + 1) * 15 + 5 = i * 15 + 5 + 1 + 1 + 1 + 1 + 1 + 1 + 1 + 1 + 1 + 1 + 1 + 1 + 1 + 1 + 1 from by omega]
  simp only [List.getElem?_cons_succ]
  exact flatAp_at5 d i (by simpa using h)
theorem flatAp_at6:∀ (d:List Ap) (i:Nat),i < d.length → (flatAp d)[i * 15 + 6]? = some (.int .i64 (gAp d i).st)
 | p :: d,0,_ => rfl
 | p :: d,i + 1,h => by
  rw [flatAp_cons,show (i + 1) * 15 + 6 = i * 15 + 6 + 1 + 1 + 1 + 1 + 1 + 1 + 1 + 1 + 1 + 1 + 1 + 1 + 1 + 1 + 1 from by omega]
  simp only [List.getElem?_cons_succ]
  exact flatAp_at6 d i (by simpa using h)
theorem flatAp_at7:∀ (d:List Ap) (i:Nat),i < d.length → (flatAp d)[i * 15 + 7]? = some (.int .i64 (gAp d i).en)
 | p :: d,0,_ => rfl
 | p :: d,i + 1,h => by
  rw [flatAp_cons,show (i + 1) * 15 + 7 = i * 15 + 7 + 1 + 1 + 1 + 1 + 1 + 1 + 1 + 1 + 1 + 1 + 1 + 1 + 1 + 1 + 1 from by omega]
  simp only [List.getElem?_cons_succ]
  exact flatAp_at7 d i (by simpa using h)
theorem flatAp_at8:∀ (d:List Ap) (i:Nat),i < d.length → (flatAp d)[i * 15 + 8]? = some (.int .i64 (gAp d i).rt)
 | p :: d,0,_ => rfl
 | p :: d,i + 1,h => by
  rw [flatAp_cons,show (i + 1) * 15 + 8 = i * 15 + 8 + 1 + 1 + 1 + 1 + 1 + 1 + 1 + 1 + 1 + 1 + 1 + 1 + 1 + 1 + 1 from by omega]
  simp only [List.getElem?_cons_succ]
  exact flatAp_at8 d i (by simpa using h)
theorem flatAp_at9:∀ (d:List Ap) (i:Nat),i < d.length → (flatAp d)[i * 15 + 9]? = some (.int .i64 (gAp d i).rf)
 | p :: d,0,_ => rfl
 | p :: d,i + 1,h => by
  rw [flatAp_cons,show (i + 1) * 15 + 9 = i * 15 + 9 + 1 + 1 + 1 + 1 + 1 + 1 + 1 + 1 + 1 + 1 + 1 + 1 + 1 + 1 + 1 from by omega]
  simp only [List.getElem?_cons_succ]
  exact flatAp_at9 d i (by simpa using h)
theorem flatAp_at10:∀ (d:List Ap) (i:Nat),i < d.length → (flatAp d)[i * 15 + 10]? = some (.int .i64 (gAp d i).rn)
 | p :: d,0,_ => rfl
 | p :: d,i + 1,h => by
  rw [flatAp_cons,show (i + 1) * 15 + 10 = i * 15 + 10 + 1 + 1 + 1 + 1 + 1 + 1 + 1 + 1 + 1 + 1 + 1 + 1 + 1 + 1 + 1 from by omega]
  simp only [List.getElem?_cons_succ]
  exact flatAp_at10 d i (by simpa using h)
theorem flatAp_at11:∀ (d:List Ap) (i:Nat),i < d.length → (flatAp d)[i * 15 + 11]? = some (.int .i64 (gAp d i).rs)
 | p :: d,0,_ => rfl
 | p :: d,i + 1,h => by
  rw [flatAp_cons,show (i + 1) * 15 + 11 = i * 15 + 11 + 1 + 1 + 1 + 1 + 1 + 1 + 1 + 1 + 1 + 1 + 1 + 1 + 1 + 1 + 1 from by omega]
  simp only [List.getElem?_cons_succ]
  exact flatAp_at11 d i (by simpa using h)
theorem flatAp_at12:∀ (d:List Ap) (i:Nat),i < d.length → (flatAp d)[i * 15 + 12]? = some (.int .i64 (gAp d i).re)
 | p :: d,0,_ => rfl
 | p :: d,i + 1,h => by
  rw [flatAp_cons,show (i + 1) * 15 + 12 = i * 15 + 12 + 1 + 1 + 1 + 1 + 1 + 1 + 1 + 1 + 1 + 1 + 1 + 1 + 1 + 1 + 1 from by omega]
  simp only [List.getElem?_cons_succ]
  exact flatAp_at12 d i (by simpa using h)
theorem flatAp_at13:∀ (d:List Ap) (i:Nat),i < d.length → (flatAp d)[i * 15 + 13]? = some (.int .i64 (gAp d i).ro)
 | p :: d,0,_ => rfl
 | p :: d,i + 1,h => by
  rw [flatAp_cons,show (i + 1) * 15 + 13 = i * 15 + 13 + 1 + 1 + 1 + 1 + 1 + 1 + 1 + 1 + 1 + 1 + 1 + 1 + 1 + 1 + 1 from by omega]
  simp only [List.getElem?_cons_succ]
  exact flatAp_at13 d i (by simpa using h)
theorem flatAp_at14:∀ (d:List Ap) (i:Nat),i < d.length → (flatAp d)[i * 15 + 14]? = some (.int .i64 (gAp d i).nn)
 | p :: d,0,_ => rfl
 | p :: d,i + 1,h => by
  rw [flatAp_cons,show (i + 1) * 15 + 14 = i * 15 + 14 + 1 + 1 + 1 + 1 + 1 + 1 + 1 + 1 + 1 + 1 + 1 + 1 + 1 + 1 + 1 from by omega]
  simp only [List.getElem?_cons_succ]
  exact flatAp_at14 d i (by simpa using h)
theorem rowsAp_of:∀ (n:Nat) (ns:List Int),ns.length = n * 15 → ∃ d:List Ap,d.length = n ∧ ns.map (Value.int .i64) = flatAp d
 | 0,[],_ => ⟨[],rfl,rfl⟩
 | 0,_ :: _,h => by simp at h
 | n + 1,a0 :: a1 :: a2 :: a3 :: a4 :: a5 :: a6 :: a7 :: a8 :: a9 :: a10 :: a11 :: a12 :: a13 :: a14 :: ns,h => by
  obtain ⟨d,h1,h2⟩:=rowsAp_of n ns (by simp at h; omega)
  exact ⟨⟨a0,a1,a2,a3,a4,a5,a6,a7,a8,a9,a10,a11,a12,a13,a14⟩ :: d,by simp [h1],by simp [flatAp_cons,h2]⟩
 | n + 1,[],h => by simp at h <;> omega
 | n + 1,[_],h => by simp at h <;> omega
 | n + 1,[_,_],h => by simp at h <;> omega
 | n + 1,[_,_,_],h => by simp at h <;> omega
 | n + 1,[_,_,_,_],h => by simp at h <;> omega
 | n + 1,[_,_,_,_,_],h => by simp at h <;> omega
 | n + 1,[_,_,_,_,_,_],h => by simp at h <;> omega
 | n + 1,[_,_,_,_,_,_,_],h => by simp at h <;> omega
 | n + 1,[_,_,_,_,_,_,_,_],h => by simp at h <;> omega
 | n + 1,[_,_,_,_,_,_,_,_,_],h => by simp at h <;> omega
 | n + 1,[_,_,_,_,_,_,_,_,_,_],h => by simp at h <;> omega
 | n + 1,[_,_,_,_,_,_,_,_,_,_,_],h => by simp at h <;> omega
 | n + 1,[_,_,_,_,_,_,_,_,_,_,_,_],h => by simp at h <;> omega
 | n + 1,[_,_,_,_,_,_,_,_,_,_,_,_,_],h => by simp at h <;> omega
 | n + 1,[_,_,_,_,_,_,_,_,_,_,_,_,_,_],h => by simp at h <;> omega

theorem Lst.atAp {w:World} {B:Nat} {A:Option Addr} {n:Nat} {l:List Ap} (h:Lst w B 15 A n (flatAp l)) (hl:l.length = n) {k:Nat} (hk:k < n):∃ ad,A = some ad ∧ ad.block < B ∧ w.cell? (ad.add (k * 15)) = some (.int .i64 (gAp l k).dq) ∧ w.cell? ⟨(ad.add (k * 15)).block,(ad.add (k * 15)).off + 1,none⟩ = some (.int .i64 (gAp l k).op) ∧ w.cell? ⟨(ad.add (k * 15)).block,(ad.add (k * 15)).off + 2,none⟩ = some (.int .i64 (gAp l k).kd) ∧ w.cell? ⟨(ad.add (k * 15)).block,(ad.add (k * 15)).off + 3,none⟩ = some (.int .i64 (gAp l k).id) ∧ w.cell? ⟨(ad.add (k * 15)).block,(ad.add (k * 15)).off + 4,none⟩ = some (.int .i64 (gAp l k).fr) ∧ w.cell? ⟨(ad.add (k * 15)).block,(ad.add (k * 15)).off + 5,none⟩ = some (.int .i64 (gAp l k).tn) ∧ w.cell? ⟨(ad.add (k * 15)).block,(ad.add (k * 15)).off + 6,none⟩ = some (.int .i64 (gAp l k).st) ∧ w.cell? ⟨(ad.add (k * 15)).block,(ad.add (k * 15)).off + 7,none⟩ = some (.int .i64 (gAp l k).en) ∧ w.cell? ⟨(ad.add (k * 15)).block,(ad.add (k * 15)).off + 8,none⟩ = some (.int .i64 (gAp l k).rt) ∧ w.cell? ⟨(ad.add (k * 15)).block,(ad.add (k * 15)).off + 9,none⟩ = some (.int .i64 (gAp l k).rf) ∧ w.cell? ⟨(ad.add (k * 15)).block,(ad.add (k * 15)).off + 10,none⟩ = some (.int .i64 (gAp l k).rn) ∧ w.cell? ⟨(ad.add (k * 15)).block,(ad.add (k * 15)).off + 11,none⟩ = some (.int .i64 (gAp l k).rs) ∧ w.cell? ⟨(ad.add (k * 15)).block,(ad.add (k * 15)).off + 12,none⟩ = some (.int .i64 (gAp l k).re) ∧ w.cell? ⟨(ad.add (k * 15)).block,(ad.add (k * 15)).off + 13,none⟩ = some (.int .i64 (gAp l k).ro) ∧ w.cell? ⟨(ad.add (k * 15)).block,(ad.add (k * 15)).off + 14,none⟩ = some (.int .i64 (gAp l k).nn):=by
 obtain ⟨ad,e,hb,hc⟩:=h.at_ (by omega)
 exact ⟨ad,e,hb,hc _ _ (flatAp_at0 l k (by omega)),by rw [addr_next _ _ _ (by omega)]; exact hc _ _ (flatAp_at1 l k (by omega)),by rw [addr_next _ _ _ (by omega)]; exact hc _ _ (flatAp_at2 l k (by omega)),by rw [addr_next _ _ _ (by omega)]; exact hc _ _ (flatAp_at3 l k (by omega)),by rw [addr_next _ _ _ (by omega)]; exact hc _ _ (flatAp_at4 l k (by omega)),by rw [addr_next _ _ _ (by omega)]; exact hc _ _ (flatAp_at5 l k (by omega)),by rw [addr_next _ _ _ (by omega)]; exact hc _ _ (flatAp_at6 l k (by omega)),by rw [addr_next _ _ _ (by omega)]; exact hc _ _ (flatAp_at7 l k (by omega)),by rw [addr_next _ _ _ (by omega)]; exact hc _ _ (flatAp_at8 l k (by omega)),by rw [addr_next _ _ _ (by omega)]; exact hc _ _ (flatAp_at9 l k (by omega)),by rw [addr_next _ _ _ (by omega)]; exact hc _ _ (flatAp_at10 l k (by omega)),by rw [addr_next _ _ _ (by omega)]; exact hc _ _ (flatAp_at11 l k (by omega)),by rw [addr_next _ _ _ (by omega)]; exact hc _ _ (flatAp_at12 l k (by omega)),by rw [addr_next _ _ _ (by omega)]; exact hc _ _ (flatAp_at13 l k (by omega)),by rw [addr_next _ _ _ (by omega)]; exact hc _ _ (flatAp_at14 l k (by omega))⟩
theorem gAp_eq {d:List Ap} {i:Nat} (h:i < d.length):gAp d i = d[i]:=by
 unfold gAp; rw [List.getD_eq_getElem?_getD,List.getElem?_eq_getElem h]; rfl
theorem take_nextAp {l:List Ap} {k:Nat} (h:k < l.length):l.take (k + 1) = l.take k ++ [gAp l k]:=by
 rw [List.take_succ_eq_append_getElem h,gAp_eq h]
end Go.Proofs.YtolaabllhibkdaaGreat
