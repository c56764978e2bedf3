/- Several texts of mine in one: TyEd, TyHp, HopMath, PathMath. No condition. -/
import Derived.Test.YtodcoockhkghdaaGreatChecked
import Derived.Test.YtodcoockhkghdaaGreatGQ0
import Derived.Test.YtodcoockhkghdaaGreatGQ4
namespace Go.Proofs.YtodcoockhkghdaaGreat
open Go.ChangeShapes Go.WideShapes Go.ChangeAt Go.RowKit Go.Sort
set_option linter.unusedSimpArgs false
set_option linter.unusedVariables false
theorem Ed.ext_ {a b:Ed} (h0:a.id = b.id) (h1:a.fr = b.fr) (h2:a.tn = b.tn) (h3:a.op = b.op) (h4:a.en = b.en) (h5:a.ra = b.ra) (h6:a.ow = b.ow) (h7:a.ro = b.ro):a = b:=by cases a; cases b; simp_all
instance:DecidableEq Ed:=fun a b => if h:a.id = b.id ∧ a.fr = b.fr ∧ a.tn = b.tn ∧ a.op = b.op ∧ a.en = b.en ∧ a.ra = b.ra ∧ a.ow = b.ow ∧ a.ro = b.ro then isTrue (Ed.ext_ h.1 h.2.1 h.2.2.1 h.2.2.2.1 h.2.2.2.2.1 h.2.2.2.2.2.1 h.2.2.2.2.2.2.1 h.2.2.2.2.2.2.2) else isFalse (by rintro rfl; simp at h)
def Ed.cs (r:Ed):List Value:=[.int .i64 r.id,.int .i64 r.fr,.int .i64 r.tn,.int .i64 r.op,.int .i64 r.en,.int .i64 r.ra,.int .i64 r.ow,.int .i64 r.ro]
def flatEd (d:List Ed):List Value:=d.flatMap Ed.cs
def gEd (d:List Ed) (i:Nat):Ed:=d.getD i ⟨0,0,0,0,0,0,0,0⟩
theorem flatEd_cons (p:Ed) (d:List Ed):flatEd (p :: d) = .int .i64 p.id :: .int .i64 p.fr :: .int .i64 p.tn :: .int .i64 p.op :: .int .i64 p.en :: .int .i64 p.ra :: .int .i64 p.ow :: .int .i64 p.ro :: flatEd d:=rfl
theorem flatEd_length (d:List Ed):(flatEd d).length = d.length * 8:=by
 induction d with
 | nil => rfl
 | cons p d ih => rw [flatEd_cons]; simp only [List.length_cons,ih]; omega
theorem flatEd_append (d e:List Ed):flatEd (d ++ e) = flatEd d ++ flatEd e:=by simp [flatEd]
theorem flatEd_at0:∀ (d:List Ed) (i:Nat),i < d.length → (flatEd d)[i * 8]? = some (.int .i64 (gEd d i).id)
 | p :: d,0,_ => rfl
 | p :: d,i + 1,h => by
  rw [flatEd_cons,show (i + 1) * 8 = i * 8 + 1 + 1 + 1 + 1 + 1 + 1 + 1 + 1 from by omega]
  simp only [List.getElem?_cons_succ]
  exact flatEd_at0 d i (by simpa using h)
theorem flatEd_at1:∀ (d:List Ed) (i:Nat),i < d.length → (flatEd d)[i * 8 + 1]? = some (.int .i64 (gEd d i).fr)
 | p :: d,0,_ => rfl
 | p :: d,i + 1,h => by
  rw [flatEd_cons,show (i + 1) * 8 + 1 = i * 8 + 1 + 1 + 1 + 1 + 1 + 1 + 1 + 1 + 1 from by omega]
  simp only [List.getElem?_cons_succ]
  exact flatEd_at1 d i (by simpa using h)
theorem flatEd_at2:∀ (d:List Ed) (i:Nat),i < d.length → (flatEd d)[i * 8 + 2]? = some (.int .i64 (gEd d i).tn)
 | p :: d,0,_ => rfl
 | p :: d,i + 1,h => by
  rw [flatEd_cons,show (i + 1) * 8 + 2 = i * 8 + 2 + 1 + 1 + 1 + 1 + 1 + 1 + 1 + 1 from by omega]
  simp only [List.getElem?_cons_succ]
  exact flatEd_at2 d i (by simpa using h)
theorem flatEd_at3:∀ (d:List Ed) (i:Nat),i < d.length → (flatEd d)[i * 8 + 3]? = some (.int .i64 (gEd d i).op)
 | p :: d,0,_ => rfl
 | p :: d,i + 1,h => by
  rw [flatEd_cons,show (i + 1) * 8 + 3 = i * 8 + 3 + 1 + 1 + 1 + 1 + 1 + 1 + 1 + 1 from by omega]
  simp only [List.getElem?_cons_succ]
  exact flatEd_at3 d i (by simpa using h)
theorem flatEd_at4:∀ (d:List Ed) (i:Nat),i < d.length → (flatEd d)[i * 8 + 4]? = some (.int .i64 (gEd d i).en)
 | p :: d,0,_ => rfl
 | p :: d,i + 1,h => by
  rw [flatEd_cons,show (i + 1) * 8 + 4 = i * 8 + 4 + 1 + 1 + 1 + 1 + 1 + 1 + 1 + 1 from by omega]
  simp only [List.getElem?_cons_succ]
  exact flatEd_at4 d i (by simpa using h)
theorem flatEd_at5:∀ (d:List Ed) (i:Nat),i < d.length → (flatEd d)[i * 8 + 5]? = some (.int .i64 (gEd d i).ra)
 | p :: d,0,_ => rfl
 | p :: d,i + 1,h => by
  rw [flatEd_cons,show (i + 1) * 8 + 5 = i * 8 + 5 + 1 + 1 + 1 + 1 + 1 + 1 + 1 + 1 from by omega]
  simp only [List.getElem?_cons_succ]
  exact flatEd_at5 d i (by simpa using h)
theorem flatEd_at6:∀ (d:List Ed) (i:Nat),i < d.length → (flatEd d)[i * 8 + 6]? = some (.int .i64 (gEd d i).ow)
 | p :: d,0,_ => rfl
 | p :: d,i + 1,h => by
  rw [flatEd_cons,show (i + 1) * 8 + 6 = i * 8 + 6 + 1 + 1 + 1 + 1 + 1 + 1 + 1 + 1 from by omega]
  simp only [List.getElem?_cons_succ]
  exact flatEd_at6 d i (by simpa using h)
theorem flatEd_at7:∀ (d:List Ed) (i:Nat),i < d.length → (flatEd d)[i * 8 + 7]? = some (.int .i64 (gEd d i).ro)
 | p :: d,0,_ => rfl
 | p :: d,i + 1,h => by
  rw [flatEd_cons,show (i + 1) * 8 + 7 = i * 8 + 7 + 1 + 1 + 1 + 1 + 1 + 1 + 1 + 1 from by omega]
  simp only [List.getElem?_cons_succ]
  exact flatEd_at7 d i (by simpa using h)
theorem flatEd_set:∀ (d:List Ed) (i:Nat) (p:Ed),(((((((((flatEd d).set (i * 8) (.int .i64 p.id)).set (i * 8 + 1) (.int .i64 p.fr)).set (i * 8 + 2) (.int .i64 p.tn)).set (i * 8 + 3) (.int .i64 p.op)).set (i * 8 + 4) (.int .i64 p.en)).set (i * 8 + 5) (.int .i64 p.ra)).set (i * 8 + 6) (.int .i64 p.ow)).set (i * 8 + 7) (.int .i64 p.ro)) = flatEd (d.set i p)
 | [],i,p => by simp [flatEd]
 | q :: d,0,p => rfl
 | q :: d,i + 1,p => by
  rw [flatEd_cons]
  rw [show (i + 1) * 8 = i * 8 + 1 + 1 + 1 + 1 + 1 + 1 + 1 + 1 from by omega]
  rw [show i * 8 + 1 + 1 + 1 + 1 + 1 + 1 + 1 + 1 + 1 = i * 8 + 1 + 1 + 1 + 1 + 1 + 1 + 1 + 1 + 1 from by omega]
  rw [show i * 8 + 1 + 1 + 1 + 1 + 1 + 1 + 1 + 1 + 2 = i * 8 + 2 + 1 + 1 + 1 + 1 + 1 + 1 + 1 + 1 from by omega]
  rw [show i * 8 + 1 + 1 + 1 + 1 + 1 + 1 + 1 + 1 + 3 = i * 8 + 3 + 1 + 1 + 1 + 1 + 1 + 1 + 1 + 1 from by omega]
  rw [show i * 8 + 1 + 1 + 1 + 1 + 1 + 1 + 1 + 1 + 4 = i * 8 + 4 + 1 + 1 + 1 + 1 + 1 + 1 + 1 + 1 from by omega]
  rw [show i * 8 + 1 + 1 + 1 + 1 + 1 + 1 + 1 + 1 + 5 = i * 8 + 5 + 1 + 1 + 1 + 1 + 1 + 1 + 1 + 1 from by omega]
  rw [show i * 8 + 1 + 1 + 1 + 1 + 1 + 1 + 1 + 1 + 6 = i * 8 + 6 + 1 + 1 + 1 + 1 + 1 + 1 + 1 + 1 from by omega]
  rw [show i * 8 + 1 + 1 + 1 + 1 + 1 + 1 + 1 + 1 + 7 = i * 8 + 7 + 1 + 1 + 1 + 1 + 1 + 1 + 1 + 1 from by omega]
  simp only [List.set_cons_succ]
  rw [flatEd_set d i p]
  rfl
theorem flatEd_take:∀ (d:List Ed) (n:Nat),(flatEd d).take (n * 8) = flatEd (d.take n)
 | _,0 => by simp [flatEd]
 | [],n + 1 => by simp [flatEd]
 | p :: d,n + 1 => by
  rw [flatEd_cons,show (n + 1) * 8 = n * 8 + 1 + 1 + 1 + 1 + 1 + 1 + 1 + 1 from by omega]
  simp only [List.take_succ_cons]
  rw [flatEd_take d n]
  rfl
theorem flatEd_one:∀ (l:List Ed),∀ u ∈ flatEd l,u.oneCell' = true
 | [],u,h => by simp [flatEd] at h
 | p :: l,u,h => by
  rw [flatEd_cons] at h
  simp only [List.mem_cons] at h
  rcases h with rfl | rfl | rfl | rfl | rfl | rfl | rfl | rfl | h
  all_goals first | rfl | exact flatEd_one l u h
theorem Lst.atEd {w:World} {B:Nat} {A:Option Addr} {n:Nat} {l:List Ed} (h:Lst w B 8 A n (flatEd l)) (hl:l.length = n) {k:Nat} (hk:k < n):∃ ad,A = some ad ∧ ad.block < B ∧ w.cell? (ad.add (k * 8)) = some (.int .i64 (gEd l k).id) ∧ w.cell? ⟨(ad.add (k * 8)).block,(ad.add (k * 8)).off + 1,none⟩ = some (.int .i64 (gEd l k).fr) ∧ w.cell? ⟨(ad.add (k * 8)).block,(ad.add (k * 8)).off + 2,none⟩ = some (.int .i64 (gEd l k).tn) ∧ w.cell? ⟨(ad.add (k * 8)).block,(ad.add (k * 8)).off + 3,none⟩ = some (.int .i64 (gEd l k).op) ∧ w.cell? ⟨(ad.add (k * 8)).block,(ad.add (k * 8)).off + 4,none⟩ = some (.int .i64 (gEd l k).en) ∧ w.cell? ⟨(ad.add (k * 8)).block,(ad.add (k * 8)).off + 5,none⟩ = some (.int .i64 (gEd l k).ra) ∧ w.cell? ⟨(ad.add (k * 8)).block,(ad.add (k * 8)).off + 6,none⟩ = some (.int .i64 (gEd l k).ow) ∧ w.cell? ⟨(ad.add (k * 8)).block,(ad.add (k * 8)).off + 7,none⟩ = some (.int .i64 (gEd l k).ro):=by
 obtain ⟨ad,e,hb,hc⟩:=h.at_ (by omega)
 exact ⟨ad,e,hb,hc _ _ (flatEd_at0 l k (by omega)),by rw [addr_next _ _ _ (by omega)]; exact hc _ _ (flatEd_at1 l k (by omega)),by rw [addr_next _ _ _ (by omega)]; exact hc _ _ (flatEd_at2 l k (by omega)),by rw [addr_next _ _ _ (by omega)]; exact hc _ _ (flatEd_at3 l k (by omega)),by rw [addr_next _ _ _ (by omega)]; exact hc _ _ (flatEd_at4 l k (by omega)),by rw [addr_next _ _ _ (by omega)]; exact hc _ _ (flatEd_at5 l k (by omega)),by rw [addr_next _ _ _ (by omega)]; exact hc _ _ (flatEd_at6 l k (by omega)),by rw [addr_next _ _ _ (by omega)]; exact hc _ _ (flatEd_at7 l k (by omega))⟩
theorem ownEd_at {w:World} {base:Nat} {t:TypeId} {g n c:Nat} {d:List Ed} (h:w.ownsRow base t 8 (.slice (some ⟨g,0,none⟩) n c) n (flatEd d)) (hd:d.length = n) {k:Nat} (hk:k < n):w.cell? ⟨g,k * 8,none⟩ = some (.int .i64 (gEd d k).id) ∧ w.cell? ⟨g,k * 8 + 1,none⟩ = some (.int .i64 (gEd d k).fr) ∧ w.cell? ⟨g,k * 8 + 2,none⟩ = some (.int .i64 (gEd d k).tn) ∧ w.cell? ⟨g,k * 8 + 3,none⟩ = some (.int .i64 (gEd d k).op) ∧ w.cell? ⟨g,k * 8 + 4,none⟩ = some (.int .i64 (gEd d k).en) ∧ w.cell? ⟨g,k * 8 + 5,none⟩ = some (.int .i64 (gEd d k).ra) ∧ w.cell? ⟨g,k * 8 + 6,none⟩ = some (.int .i64 (gEd d k).ow) ∧ w.cell? ⟨g,k * 8 + 7,none⟩ = some (.int .i64 (gEd d k).ro):=
 ⟨(h.cellAt (k * 8) (by omega)).trans (flatEd_at0 d k (by omega)),(h.cellAt (k * 8 + 1) (by omega)).trans (flatEd_at1 d k (by omega)),(h.cellAt (k * 8 + 2) (by omega)).trans (flatEd_at2 d k (by omega)),(h.cellAt (k * 8 + 3) (by omega)).trans (flatEd_at3 d k (by omega)),(h.cellAt (k * 8 + 4) (by omega)).trans (flatEd_at4 d k (by omega)),(h.cellAt (k * 8 + 5) (by omega)).trans (flatEd_at5 d k (by omega)),(h.cellAt (k * 8 + 6) (by omega)).trans (flatEd_at6 d k (by omega)),(h.cellAt (k * 8 + 7) (by omega)).trans (flatEd_at7 d k (by omega))⟩
theorem ownEd_store {w:World} {base:Nat} {t:TypeId} {g n c:Nat} {d:List Ed} (h:w.ownsRow base t 8 (.slice (some ⟨g,0,none⟩) n c) n (flatEd d)) (i:Nat) (p:Ed):((((((((w.setCell ⟨g,i * 8,none⟩ (.int .i64 p.id)).setCell ⟨g,i * 8 + 1,none⟩ (.int .i64 p.fr)).setCell ⟨g,i * 8 + 2,none⟩ (.int .i64 p.tn)).setCell ⟨g,i * 8 + 3,none⟩ (.int .i64 p.op)).setCell ⟨g,i * 8 + 4,none⟩ (.int .i64 p.en)).setCell ⟨g,i * 8 + 5,none⟩ (.int .i64 p.ra)).setCell ⟨g,i * 8 + 6,none⟩ (.int .i64 p.ow)).setCell ⟨g,i * 8 + 7,none⟩ (.int .i64 p.ro)).ownsRow base t 8 (.slice (some ⟨g,0,none⟩) n c) n (flatEd (d.set i p)) ∧ w.grownBy ((((((((w.setCell ⟨g,i * 8,none⟩ (.int .i64 p.id)).setCell ⟨g,i * 8 + 1,none⟩ (.int .i64 p.fr)).setCell ⟨g,i * 8 + 2,none⟩ (.int .i64 p.tn)).setCell ⟨g,i * 8 + 3,none⟩ (.int .i64 p.op)).setCell ⟨g,i * 8 + 4,none⟩ (.int .i64 p.en)).setCell ⟨g,i * 8 + 5,none⟩ (.int .i64 p.ra)).setCell ⟨g,i * 8 + 6,none⟩ (.int .i64 p.ow)).setCell ⟨g,i * 8 + 7,none⟩ (.int .i64 p.ro)) (some g):=by
 obtain ⟨r0,g0⟩:=h.stored (i * 8) (.int .i64 p.id)
 obtain ⟨r1,g1⟩:=r0.stored (i * 8 + 1) (.int .i64 p.fr)
 obtain ⟨r2,g2⟩:=r1.stored (i * 8 + 2) (.int .i64 p.tn)
 obtain ⟨r3,g3⟩:=r2.stored (i * 8 + 3) (.int .i64 p.op)
 obtain ⟨r4,g4⟩:=r3.stored (i * 8 + 4) (.int .i64 p.en)
 obtain ⟨r5,g5⟩:=r4.stored (i * 8 + 5) (.int .i64 p.ra)
 obtain ⟨r6,g6⟩:=r5.stored (i * 8 + 6) (.int .i64 p.ow)
 obtain ⟨r7,g7⟩:=r6.stored (i * 8 + 7) (.int .i64 p.ro)
 rw [flatEd_set] at r7
 exact ⟨r7,grown_trans (grown_trans (grown_trans (grown_trans (grown_trans (grown_trans (grown_trans (g0) g1) g2) g3) g4) g5) g6) g7⟩
theorem gEd_mem {d:List Ed} {i:Nat} (h:i < d.length):gEd d i ∈ d:=by
 unfold gEd; rw [List.getD_eq_getElem?_getD,List.getElem?_eq_getElem h]; simp
theorem gEd_eq {d:List Ed} {i:Nat} (h:i < d.length):gEd d i = d[i]:=by
 unfold gEd; rw [List.getD_eq_getElem?_getD,List.getElem?_eq_getElem h]; rfl
theorem take_nextEd {l:List Ed} {k:Nat} (h:k < l.length):l.take (k + 1) = l.take k ++ [gEd l k]:=by
 rw [List.take_succ_eq_append_getElem h,gEd_eq h]
theorem infoEd:(Tryz.prog.info? 86).map (fun i => (i.zero,i.size,i.bytes)) = some (some (.agg #[.int .i64 0,.int .i64 0,.int .i64 0,.int .i64 0,.int .i64 0,.int .i64 0,.int .i64 0,.int .i64 0]),8,64):=by kernel_rfl
structure Hp where
 id:Int
 se:Int
 ar:Int
theorem Hp.ext_ {a b:Hp} (h0:a.id = b.id) (h1:a.se = b.se) (h2:a.ar = b.ar):a = b:=by cases a; cases b; simp_all
instance:DecidableEq Hp:=fun a b => if h:a.id = b.id ∧ a.se = b.se ∧ a.ar = b.ar then isTrue (Hp.ext_ h.1 h.2.1 h.2.2) else isFalse (by rintro rfl; simp at h)
def Hp.cs (r:Hp):List Value:=[.int .i64 r.id,.int .i64 r.se,.int .i64 r.ar]
def flatHp (d:List Hp):List Value:=d.flatMap Hp.cs
def gHp (d:List Hp) (i:Nat):Hp:=d.getD i ⟨0,0,0⟩
theorem flatHp_cons (p:Hp) (d:List Hp):flatHp (p :: d) = .int .i64 p.id :: .int .i64 p.se :: .int .i64 p.ar :: flatHp d:=rfl
theorem flatHp_append (d e:List Hp):flatHp (d ++ e) = flatHp d ++ flatHp e:=by simp [flatHp]
theorem flatHp_at0:∀ (d:List Hp) (i:Nat),i < d.length → (flatHp d)[i * 3]? = some (.int .i64 (gHp d i).id)
 | p :: d,0,_ => rfl
 | p :: d,i + 1,h => by
  rw [flatHp_cons,show (i + 1) * 3 = i * 3 + 1 + 1 + 1 from by omega]
  simp only [List.getElem?_cons_succ]
  exact flatHp_at0 d i (by simpa using h)
theorem flatHp_at1:∀ (d:List Hp) (i:Nat),i < d.length → (flatHp d)[i * 3 + 1]? = some (.int .i64 (gHp d i).se)
 | p :: d,0,_ => rfl
 | p :: d,i + 1,h => by
  rw [flatHp_cons,show (i + 1) * 3 + 1 = i * 3 + 1 + 1 + 1 + 1 from by omega]
  simp only [List.getElem?_cons_succ]
  exact flatHp_at1 d i (by simpa using h)
theorem flatHp_at2:∀ (d:List Hp) (i:Nat),i < d.length → (flatHp d)[i * 3 + 2]? = some (.int .i64 (gHp d i).ar)
 | p :: d,0,_ => rfl
 | p :: d,i + 1,h => by
  rw [flatHp_cons,show (i + 1) * 3 + 2 = i * 3 + 2 + 1 + 1 + 1 from by omega]
  simp only [List.getElem?_cons_succ]
  exact flatHp_at2 d i (by simpa using h)
theorem flatHp_one:∀ (l:List Hp),∀ u ∈ flatHp l,u.oneCell' = true
 | [],u,h => by simp [flatHp] at h
 | p :: l,u,h => by
  rw [flatHp_cons] at h
  simp only [List.mem_cons] at h
  rcases h with rfl | rfl | rfl | h
  all_goals first | rfl | exact flatHp_one l u h
theorem Lst.atHp {w:World} {B:Nat} {A:Option Addr} {n:Nat} {l:List Hp} (h:Lst w B 3 A n (flatHp l)) (hl:l.length = n) {k:Nat} (hk:k < n):∃ ad,A = some ad ∧ ad.block < B ∧ w.cell? (ad.add (k * 3)) = some (.int .i64 (gHp l k).id) ∧ w.cell? ⟨(ad.add (k * 3)).block,(ad.add (k * 3)).off + 1,none⟩ = some (.int .i64 (gHp l k).se) ∧ w.cell? ⟨(ad.add (k * 3)).block,(ad.add (k * 3)).off + 2,none⟩ = some (.int .i64 (gHp l k).ar):=by
 obtain ⟨ad,e,hb,hc⟩:=h.at_ (by omega)
 exact ⟨ad,e,hb,hc _ _ (flatHp_at0 l k (by omega)),by rw [addr_next _ _ _ (by omega)]; exact hc _ _ (flatHp_at1 l k (by omega)),by rw [addr_next _ _ _ (by omega)]; exact hc _ _ (flatHp_at2 l k (by omega))⟩
theorem gHp_eq {d:List Hp} {i:Nat} (h:i < d.length):gHp d i = d[i]:=by
 unfold gHp; rw [List.getD_eq_getElem?_getD,List.getElem?_eq_getElem h]; rfl
theorem take_nextHp {l:List Hp} {k:Nat} (h:k < l.length):l.take (k + 1) = l.take k ++ [gHp l k]:=by
 rw [List.take_succ_eq_append_getElem h,gHp_eq h]
theorem extHp {a b:List Hp} (hl:a.length = b.length) (h:∀ i,i < a.length → gHp a i = gHp b i):a = b:=by
 refine List.ext_getElem hl fun i h1 h2 => ?_
 have:=h i h1
 rw [gHp_eq h1,gHp_eq h2] at this
 exact this
theorem neqHp (a b:Hp) (w:World):(binOp .neq 67 (.agg #[.int .i64 a.id,.int .i64 a.se,.int .i64 a.ar]) (.agg #[.int .i64 b.id,.int .i64 b.se,.int .i64 b.ar])).run Tryz.prog w = .ok (.bool (!decide (a = b))) w:=by
 have u3:=Tryz.underlying3
 have a3:=Tryz.isAgg3
 have z3:=Tryz.sizeOf3
 have hS:Tryz.prog.underlying 67 = some (.struct (Tryz.prog.fieldsOf 67)):=by kernel_rfl
 have hp:Tryz.prog.stoodInHeld 67 = false:=by kernel_rfl
 rw [run_neq_struct,show (10000:Nat) = 9999 + 1 from rfl,run_equalIn_agg w 9999 67 _ _ hS hp]
 simp only [Program.fieldsOf,Tryz.underlying67]
 go_simp
 by_cases hab:a = b
 ·subst hab; simp
 ·simp only [hab,decide_false]
  have hx:¬ (a.id = b.id ∧ a.se = b.se ∧ a.ar = b.ar):=fun h => hab (Hp.ext_ h.1 h.2.1 h.2.2)
  by_cases h0:a.id = b.id <;> by_cases h1:a.se = b.se <;> by_cases h2:a.ar = b.ar
  all_goals simp_all
theorem infoHp:(Tryz.prog.info? 67).map (fun i => (i.zero,i.size,i.bytes)) = some (some (.agg #[.int .i64 0,.int .i64 0,.int .i64 0]),3,24):=by kernel_rfl
end Go.Proofs.YtodcoockhkghdaaGreat
namespace Go.Proofs.YtodcoockhkghdaaGreat

theorem pass_iff {e:Ed} {t size a b:Int}:e.pass t size = some (a,b) ↔
  e.asks t size = true ∧ size ≤ e.ro ∧ max t e.op < e.en ∧ max t e.op + cdiv size e.ra ≤ e.en ∧ a = max t e.op ∧ b = max t e.op + cdiv size e.ra + e.ow:=by
 unfold Ed.pass
 constructor
 ·intro h
  split at h
  ·rename_i hc
   simp only [Option.some.injEq,Prod.mk.injEq] at h
   exact ⟨hc.1,hc.2.1,hc.2.2.1,hc.2.2.2,h.1.symm,h.2.symm⟩
  ·cases h
 ·rintro ⟨h1,h2,h3,h4,rfl,rfl⟩
  rw [if_pos ⟨h1,h2,h3,h4⟩]

theorem asks_le {e:Ed} {t l size more:Int} (h:e.asks l more = true) (h0:0 ≤ t) (h1:t ≤ l) (h2:0 ≤ size) (h3:size ≤ more):e.asks t size = true:=by
 rw [Ed.asks_spec] at h ⊢
 exact ⟨h.1,by omega,by omega⟩

theorem pass_earlier {e:Ed} {t l size c d:Int} (h0:0 ≤ t) (h1:t ≤ l) (h:e.pass l size = some (c,d)) :
  ∃ a b,e.pass t size = some (a,b) ∧ a ≤ c ∧ b ≤ d ∧ t ≤ a ∧ a ≤ b ∧ l ≤ c:=by
 obtain ⟨g1,g2,g3,g4,rfl,rfl⟩:=pass_iff.1 h
 have g:=Ed.asks_spec.1 g1
 have k:=Ed.ok_spec.1 g.1
 obtain ⟨c1,_,_,_,_⟩:=cdiv_bounds g.2.2.1 k.2.2.2.2.2.2.1.1
 refine ⟨_,_,pass_iff.2 ⟨asks_le g1 h0 h1 g.2.2.1 (Int.le_refl _),g2,?_,?_,rfl,rfl⟩,?_,?_,?_,?_,?_⟩ <;> omega

theorem pass_less {e:Ed} {t size more c d:Int} (h0:0 ≤ size) (h1:size ≤ more) (h:e.pass t more = some (c,d)) :
  ∃ b,e.pass t size = some (c,b) ∧ b ≤ d ∧ e.takes size ≤ e.takes more ∧ d - b = e.takes more - e.takes size ∧ more ≤ e.ro ∧ c + e.takes more ≤ e.en ∧ 0 ≤ e.takes size ∧ 0 ≤ b ∧ 0 ≤ c:=by
 obtain ⟨g1,g2,g3,g4,rfl,rfl⟩:=pass_iff.1 h
 have g:=Ed.asks_spec.1 g1
 have k:=Ed.ok_spec.1 g.1
 have hr:=k.2.2.2.2.2.2.1.1
 have m:=cdiv_le h0 h1 hr
 have e1:e.takes size = cdiv size e.ra:=by
  unfold Ed.takes
  rw [if_pos (asks_le g1 (Int.le_refl _) g.2.1.1 h0 h1)]
 have e2:e.takes more = cdiv more e.ra:=by
  unfold Ed.takes
  rw [if_pos (asks_le g1 (Int.le_refl _) g.2.1.1 g.2.2.1 (Int.le_refl _))]
 rw [e1,e2]
 obtain ⟨c1,_,_,_,_⟩:=cdiv_bounds h0 hr
 refine ⟨_,pass_iff.2 ⟨asks_le g1 g.2.1.1 (Int.le_refl _) h0 h1,by omega,g3,by omega,rfl,rfl⟩,?_,?_,?_,?_,?_,?_,?_,?_⟩ <;> omega

theorem pass_facts {e:Ed} {t size a b:Int} (h:e.pass t size = some (a,b)) :
  e.ok = true ∧ e.op ≤ a ∧ t ≤ a ∧ (a = e.op ∨ a = t) ∧ a < e.en ∧ a + e.takes size ≤ e.en ∧ b = a + e.takes size + e.ow ∧ size ≤ e.ro ∧ size ≤ e.takes size * e.ra ∧ (e.takes size = 0 ∨ (e.takes size - 1) * e.ra < size) ∧
   0 ≤ e.takes size ∧ e.takes size ≤ 2147483647 ∧ 1 ≤ e.ra ∧ e.ra ≤ 2147483647 ∧ 0 ≤ a ∧ a ≤ 2147483647 ∧ 0 ≤ e.ow ∧ e.ow ≤ 2147483647 ∧ 0 ≤ t ∧ 0 ≤ size ∧ size ≤ 1099511627775:=by
 obtain ⟨g1,g2,g3,g4,rfl,rfl⟩:=pass_iff.1 h
 have g:=Ed.asks_spec.1 g1
 have k:=Ed.ok_spec.1 g.1
 have hr:=k.2.2.2.2.2.2.1.1
 have e1:e.takes size = cdiv size e.ra:=by
  unfold Ed.takes
  rw [if_pos (asks_le g1 (Int.le_refl _) g.2.1.1 g.2.2.1 (Int.le_refl _))]
 rw [e1]
 obtain ⟨c1,c2,c3,c4,c5⟩:=cdiv_bounds g.2.2.1 hr
 refine ⟨g.1,?_,?_,?_,?_,?_,?_,?_,c3,?_,?_,?_,?_,?_,?_,?_,?_,?_,?_,?_,?_⟩ <;> omega

theorem latest_iff {e:Ed} {b size t:Int}:e.latest b size = some t ↔ e.asks b size = true ∧ size ≤ e.ro ∧ e.op ≤ t ∧ t = min (min (e.en - 1) (e.en - cdiv size e.ra)) (b - cdiv size e.ra - e.ow):=by
 unfold Ed.latest
 constructor
 ·intro h
  split at h
  ·rename_i hc
   simp only [Option.some.injEq] at h
   exact ⟨hc.1,hc.2.1,h ▸ hc.2.2,h.symm⟩
  ·cases h
 ·rintro ⟨h1,h2,h3,h4⟩
  have h5:t = e.last b size:=h4
  subst h5
  rw [if_pos ⟨h1,h2,h3⟩]

theorem latest_facts {e:Ed} {b size t:Int} (h:e.latest b size = some t) :
  0 ≤ t ∧ t ≤ 2147483647 ∧ (∃ x a,e.pass t size = some (x,a) ∧ a ≤ b) ∧ (∀ x c,e.pass (t + 1) size = some (x,c) → b < c):=by
 obtain ⟨g1,g2,g3,g4⟩:=latest_iff.1 h
 have g:=Ed.asks_spec.1 g1
 have k:=Ed.ok_spec.1 g.1
 have hr:=k.2.2.2.2.2.2.1.1
 obtain ⟨c1,c2,c3,c4,c5⟩:=cdiv_bounds g.2.2.1 hr
 have hm:max t e.op = t:=by omega
 refine ⟨by omega,by omega,⟨_,_,pass_iff.2 ⟨?_,g2,?_,?_,rfl,rfl⟩,?_⟩,?_⟩
 ·rw [Ed.asks_spec]
  exact ⟨g.1,by omega,by omega⟩
 ·omega
 ·omega
 ·omega
 ·intro x c hx
  obtain ⟨p1,p2,p3,p4,rfl,rfl⟩:=pass_iff.1 hx
  omega

end Go.Proofs.YtodcoockhkghdaaGreat
namespace Go.Proofs.YtodcoockhkghdaaGreat
open Go.ChangeShapes Go.WideShapes Go.ChangeAt Go.RowKit Go.Sort
set_option linter.unusedSimpArgs false
set_option linter.unusedVariables false
def stepE (l:List Ed) (i:Nat):Bool:=(gEd l i).ok && (i == 0 || decide ((gEd l (i - 1)).id < (gEd l i).id))
def rightE (l:List Ed):Bool:=(List.range l.length).all (stepE l)
theorem rightE_true {l:List Ed}:rightE l = true ↔ ∀ i,i < l.length → stepE l i = true:=by simp [rightE,List.all_eq_true]
theorem rightE_false {l:List Ed} {i:Nat} (hi:i < l.length) (h:stepE l i = false):rightE l = false:=by
 rw [Bool.eq_false_iff]; intro e
 have:=rightE_true.1 e i hi
 rw [h] at this; cases this
theorem rightE_at {l:List Ed} (h:rightE l = true) {i:Nat} (hi:i < l.length):(gEd l i).ok = true ∧ (i ≠ 0 → (gEd l (i - 1)).id < (gEd l i).id):=by
 have:=rightE_true.1 h i hi
 unfold stepE at this
 simp only [Bool.and_eq_true,Bool.or_eq_true,beq_iff_eq,decide_eq_true_eq] at this
 exact ⟨this.1,fun h0 => this.2.resolve_left h0⟩
theorem rightE_lt {l:List Ed} (h:rightE l = true):∀ (j i:Nat),i < j → j < l.length → (gEd l i).id < (gEd l j).id
 | 0,i,h1,_ => by omega
 | j + 1,i,h1,h2 => by
  have hs:=(rightE_at h h2).2 (by omega)
  rw [Nat.add_sub_cancel] at hs
  by_cases e:i = j
  ·rw [e]; exact hs
  ·have:=rightE_lt h j i (by omega) (by omega); omega
theorem mem_gEd {l:List Ed} {e:Ed} (h:e ∈ l):∃ i,i < l.length ∧ gEd l i = e:=by
 obtain ⟨i,hi,rfl⟩:=List.getElem_of_mem h
 exact ⟨i,hi,gEd_eq hi⟩
theorem rightE_ok {l:List Ed} (h:rightE l = true) {e:Ed} (he:e ∈ l):e.ok = true:=by
 obtain ⟨i,hi,rfl⟩:=mem_gEd he
 exact (rightE_at h hi).1
def findE (l:List Ed) (id:Int):Option Ed:=l.find? (fun e => e.id == id)
theorem findE_some {l:List Ed} {id:Int} {e:Ed} (h:findE l id = some e):e ∈ l ∧ e.id = id:=
 ⟨List.mem_of_find?_eq_some h,by simpa using List.find?_some h⟩
theorem findE_at {l:List Ed} {id:Int} {i:Nat} (hi:i < l.length) (he:(gEd l i).id = id) (hn:∀ j,j < i → (gEd l j).id ≠ id):findE l id = some (gEd l i):=by
 unfold findE
 rw [List.find?_eq_some_iff_getElem]
 refine ⟨by simpa using he,i,hi,(gEd_eq hi).symm,fun j hj => ?_⟩
 have:=hn j hj
 rw [gEd_eq (by omega:j < l.length)] at this
 simpa using this
theorem findE_right {l:List Ed} (h:rightE l = true) {i:Nat} (hi:i < l.length):findE l (gEd l i).id = some (gEd l i):=
 findE_at hi rfl fun j hj => by have:=rightE_lt h i j hj hi; omega
def followE (l:List Ed):List Int → Int → Option (List Ed)
 | [],_ => some []
 | id :: r,q => match findE l id with
  | none => none
  | some e => if e.fr = q then (followE l r e.tn).map (e :: ·) else none
theorem followE_nil (l:List Ed) (q:Int):followE l [] q = some []:=rfl
theorem followE_none {l:List Ed} {id:Int} {r:List Int} {q:Int} (h:findE l id = none):followE l (id :: r) q = none:=by simp [followE,h]
theorem followE_off {l:List Ed} {id:Int} {r:List Int} {q:Int} {e:Ed} (h:findE l id = some e) (hq:e.fr ≠ q):followE l (id :: r) q = none:=by simp [followE,h,hq]
theorem followE_on {l:List Ed} {id:Int} {r:List Int} {q:Int} {e:Ed} (h:findE l id = some e) (hq:e.fr = q):followE l (id :: r) q = (followE l r e.tn).map (e :: ·):=by simp [followE,h,hq]
theorem followE_cons {l:List Ed} {id:Int} {r:List Int} {q:Int} {es:List Ed} (h:followE l (id :: r) q = some es):∃ e es',findE l id = some e ∧ e.fr = q ∧ followE l r e.tn = some es' ∧ es = e :: es':=by
 cases hf:findE l id with
 | none => rw [followE_none hf] at h; cases h
 | some e =>
  by_cases hq:e.fr = q
  ·rw [followE_on hf hq] at h
   cases hr:followE l r e.tn with
   | none => rw [hr] at h; cases h
   | some es' => rw [hr] at h; simp at h; exact ⟨e,es',rfl,hq,hr,h.symm⟩
  ·rw [followE_off hf hq] at h; cases h
theorem followE_mem {l:List Ed}:∀ {ids:List Int} {q:Int} {es:List Ed},followE l ids q = some es → ∀ e ∈ es,e ∈ l
 | [],q,es,h,e,he => by rw [followE_nil] at h; cases h; cases he
 | id :: r,q,es,h,e,he => by
  obtain ⟨e0,es',h1,h2,h3,rfl⟩:=followE_cons h
  rcases List.mem_cons.1 he with rfl | he
  ·exact (findE_some h1).1
  ·exact followE_mem h3 e he
theorem followE_len {l:List Ed}:∀ {ids:List Int} {q:Int} {es:List Ed},followE l ids q = some es → es.length = ids.length
 | [],q,es,h => by rw [followE_nil] at h; cases h; rfl
 | id :: r,q,es,h => by
  obtain ⟨e0,es',h1,h2,h3,rfl⟩:=followE_cons h
  simp [followE_len h3]
theorem followE_ids {l:List Ed}:∀ {ids:List Int} {q:Int} {es:List Ed},followE l ids q = some es → es.map Ed.id = ids
 | [],q,es,h => by rw [followE_nil] at h; cases h; rfl
 | id :: r,q,es,h => by
  obtain ⟨e0,es',h1,h2,h3,rfl⟩:=followE_cons h
  simp [followE_ids h3,(findE_some h1).2]
def nodesE (q:Int) (es:List Ed):List Int:=q :: es.map Ed.tn
theorem nodesE_cons (q:Int) (e:Ed) (es:List Ed):nodesE q (e :: es) = q :: nodesE e.tn es:=rfl
def passE (size:Int):List Ed → Int → Option (List Hp)
 | [],_ => some []
 | e :: r,t => (e.pass t size).bind fun p => (passE size r p.2).map (⟨e.id,p.1,p.2⟩ :: ·)
theorem passE_nil (size t:Int):passE size [] t = some []:=rfl
theorem passE_step (size t:Int) (e:Ed) (r:List Ed):passE size (e :: r) t = (e.pass t size).bind fun p => (passE size r p.2).map (⟨e.id,p.1,p.2⟩ :: ·):=rfl
theorem passE_no {size t:Int} {e:Ed} {r:List Ed} (h:e.pass t size = none):passE size (e :: r) t = none:=by rw [passE_step,h]; rfl
theorem passE_yes {size t a b:Int} {e:Ed} {r:List Ed} (h:e.pass t size = some (a,b)):passE size (e :: r) t = (passE size r b).map (⟨e.id,a,b⟩ :: ·):=by rw [passE_step,h]; rfl
theorem passE_cons {size t:Int} {e:Ed} {r:List Ed} {hs:List Hp} (h:passE size (e :: r) t = some hs):∃ a b hs',e.pass t size = some (a,b) ∧ passE size r b = some hs' ∧ hs = ⟨e.id,a,b⟩ :: hs':=by
 cases hp:e.pass t size with
 | none => rw [passE_no hp] at h; cases h
 | some p =>
  obtain ⟨a,b⟩:=p
  rw [passE_yes hp] at h
  cases hr:passE size r b with
  | none => rw [hr] at h; cases h
  | some hs' => rw [hr] at h; simp at h; exact ⟨a,b,hs',rfl,hr,h.symm⟩
def arrE (t:Int) (hs:List Hp):Int:=match hs.getLast? with
 | none => t
 | some h => h.ar
theorem arrE_cons (t:Int) (h:Hp) (r:List Hp):arrE t (h :: r) = arrE h.ar r:=by
 unfold arrE
 cases r with
 | nil => rfl
 | cons x r => rw [List.getLast?_cons_cons]; cases hr:(x :: r).getLast? with
  | none => simp at hr
  | some y => rfl
theorem arrE_at {t:Int} {hs:List Hp} (h:hs ≠ []):arrE t hs = (gHp hs (hs.length - 1)).ar:=by
 unfold arrE
 rw [List.getLast?_eq_getElem?]
 have:hs.length - 1 < hs.length:=by have:=List.length_pos_iff.2 h; omega
 rw [List.getElem?_eq_getElem this,gHp_eq this]
theorem passE_len {size:Int}:∀ {es:List Ed} {t:Int} {hs:List Hp},passE size es t = some hs → hs.length = es.length
 | [],t,hs,h => by rw [passE_nil] at h; cases h; rfl
 | e :: r,t,hs,h => by
  obtain ⟨a,b,hs',h1,h2,rfl⟩:=passE_cons h
  simp [passE_len h2]
def askE (l:List Ed) (q now size:Int):Bool:=nodeB q && inB now 0 1099511627776 && inB size 0 1099511627775 && rightE l
def walkE (l:List Ed) (ids:List Int) (q now size:Int):Option (List Hp):=if askE l q now size = true then (followE l ids q).bind fun es => passE size es now else none
def endsE (l:List Ed) (ids:List Int) (q:Int):Option (List Int):=if askE l q 0 0 = true then (followE l ids q).map (nodesE q) else none
def leadE (ns:List Int) (tt:Int):Bool:=decide ns.Nodup && decide (ns.getD (ns.length - 1) 0 = tt)
def routeE (l:List Ed) (ids:List Int) (q tt now size:Int):Option (List Hp × Int):=
 if askE l q now size = true ∧ nodeB tt = true then (followE l ids q).bind fun es => if leadE (nodesE q es) tt = true then (passE size es now).map fun h => (h,arrE now h) else none else none
theorem askE_ends {l:List Ed} {q now size:Int} (h:askE l q now size = true):askE l q 0 0 = true:=by
 unfold askE at h ⊢
 simp only [Bool.and_eq_true] at h ⊢
 exact ⟨⟨⟨h.1.1.1,by decide⟩,by decide⟩,h.2⟩
theorem askE_spec {l:List Ed} {q now size:Int}:askE l q now size = true ↔ (1 ≤ q ∧ q ≤ 255) ∧ (0 ≤ now ∧ now ≤ 1099511627776) ∧ (0 ≤ size ∧ size ≤ 1099511627775) ∧ rightE l = true:=by
 unfold askE
 simp only [Bool.and_eq_true,nodeB_spec,inB_spec,and_assoc]
theorem walkE_of {l:List Ed} {ids:List Int} {q now size:Int} {es:List Ed} (ha:askE l q now size = true) (hf:followE l ids q = some es):walkE l ids q now size = passE size es now:=by
 unfold walkE; rw [if_pos ha,hf]; rfl
theorem endsE_of {l:List Ed} {ids:List Int} {q:Int} {es:List Ed} (ha:askE l q 0 0 = true) (hf:followE l ids q = some es):endsE l ids q = some (nodesE q es):=by
 unfold endsE; rw [if_pos ha,hf]; rfl
theorem routeE_some {l:List Ed} {ids:List Int} {q tt now size:Int} {p:List Hp × Int} (h:routeE l ids q tt now size = some p):∃ es hs,askE l q now size = true ∧ nodeB tt = true ∧ followE l ids q = some es ∧ leadE (nodesE q es) tt = true ∧ passE size es now = some hs ∧ p = (hs,arrE now hs):=by
 unfold routeE at h
 split at h
 ·rename_i ha
  cases hf:followE l ids q with
  | none => rw [hf] at h; cases h
  | some es =>
   rw [hf] at h
   simp only [Option.bind_some] at h
   split at h
   ·rename_i hl
    cases hp:passE size es now with
    | none => rw [hp] at h; cases h
    | some hs => rw [hp] at h; simp at h; exact ⟨es,hs,ha.1,ha.2,rfl,hl,hp,h.symm⟩
   ·cases h
 ·cases h
theorem routeE_of {l:List Ed} {ids:List Int} {q tt now size:Int} {es:List Ed} {hs:List Hp} (ha:askE l q now size = true) (ht:nodeB tt = true) (hf:followE l ids q = some es) (hl:leadE (nodesE q es) tt = true) (hp:passE size es now = some hs):routeE l ids q tt now size = some (hs,arrE now hs):=by
 unfold routeE; rw [if_pos ⟨ha,ht⟩,hf]; simp [hl,hp]
theorem nodesE_len (q:Int) (es:List Ed):(nodesE q es).length = es.length + 1:=by simp [nodesE]
theorem leadE_spec {ns:List Int} {tt:Int}:leadE ns tt = true ↔ ns.Nodup ∧ ns.getD (ns.length - 1) 0 = tt:=by
 unfold leadE; simp only [Bool.and_eq_true,decide_eq_true_eq]
end Go.Proofs.YtodcoockhkghdaaGreat
