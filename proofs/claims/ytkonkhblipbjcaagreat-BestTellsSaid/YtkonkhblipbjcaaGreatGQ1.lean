/- Several texts of mine in one: Order2, OrderMath, TyBr, SrtT. No condition. -/
import Derived.Test.YtkonkhblipbjcaaGreatGQ0
import Derived.Test.YtkonkhblipbjcaaGreatGQ30
import Derived.Test.YtkonkhblipbjcaaGreatGQ8

/- Contracts of package order: Compare, Less. No condition but on sizes. -/
namespace Go.Proofs.YtkonkhblipbjcaaGreat
open Go.ChangeShapes Go.WideShapes Go.ChangeAt Go.RowKit Go.Sort
set_option linter.unusedSimpArgs false
set_option linter.unusedVariables false
theorem cmpI_ne {a b:Int} (h:a ≠ b):(cmpI a b != 0) = true:=by
 have:cmpI a b ≠ 0:=fun e => h (cmpI_zero.1 e)
 simpa using this
set_option maxHeartbeats 2000000 in
set_option maxRecDepth 100000 in
theorem ocmp_grow (A A':Option Addr) (n c n' c':Nat) (d d':List Hp) (t t':Int) (w:World) (hd:d.length = n) (hd':d'.length = n') (hn:n ≤ 1000000) (hn':n' ≤ 1000000) (h:Sl w w.heap.size 3 A n c (flatHp d)) (h':Sl w w.heap.size 3 A' n' c' (flatHp d')) (z:Int) (hz:cmpR t d t' d' = z) :
  Calls Tryz.prog 15 #[.agg #[.slice A n c,.int .i64 t],.agg #[.slice A' n' c',.int .i64 t']] w fun e w' => e = .returned (.int .i64 z) ∧ UpG w w':=by
 have HZ:=Lib.hid hz
 clear hz
 by_cases h1:t = t'
 ·subst h1
  have b1:(cmpI t t != 0) = false:=by rw [cmpI_eq]; rfl
  by_cases h2:n = n'
  ·subst h2
   have b2:(cmpI (n:Int) (n:Int) != 0) = false:=by rw [cmpI_eq]; rfl
   have HF:Hid (cmpH d d' = z):=by
    have:=HZ.out
    unfold cmpR at this
    rw [if_pos (cmpI_eq t),hd,hd',if_pos (cmpI_eq _)] at this
    exact this
   clear HZ
   go_enter Tryz.func15,Tryz.ntmps15
   go_wp2_with (go_at_call 35; refine (cmp_any _ _ _).mono ?_; rintro e w' ⟨rfl,rfl⟩)
   have hUa:UpG w ((w.alloc (.cells #[.slice A n c,.int .i64 t] 30)).alloc (.cells #[.slice A' n c',.int .i64 t] 30)):=((UpG.refl w).alloc _).alloc _
   have hBa:Below w.heap.size w ((w.alloc (.cells #[.slice A n c,.int .i64 t] 30)).alloc (.cells #[.slice A' n c',.int .i64 t] 30)):=by (repeat (first | exact Below.refl _ _ | refine Below.alloc ?_ (by first | omega | (simp; done) | (simp; omega)) _ | refine Below.setCell ?_ (by first | omega | (simp; done) | (simp; omega)) _ | refine Below.drew ?_))
   refine (cmpHops_any A A' n c n c' d d' _ hd hd' hn hn (h.up hBa) (h'.up hBa)).mono ?_
   rintro e w4 ⟨rfl,hb4⟩
   have hU4:=hUa.trans hb4
   clear hb4
   go_wp2
   go_ret
   exact ⟨by rw [HF.out]; rfl,hU4⟩
  ·have b2:(cmpI (n:Int) (n':Int) != 0) = true:=cmpI_ne (by omega)
   have HF:Hid (cmpI (n:Int) (n':Int) = z):=by
    have:=HZ.out
    unfold cmpR at this
    rw [if_pos (cmpI_eq t),hd,hd',if_neg (by simpa using b2)] at this
    exact this
   clear HZ
   go_enter Tryz.func15,Tryz.ntmps15
   go_wp2_with (go_at_call 35; refine (cmp_any _ _ _).mono ?_; rintro e w' ⟨rfl,rfl⟩)
   go_ret
   exact ⟨by rw [← HF.out]; rfl,((UpG.refl w).alloc _).alloc _⟩
 ·have b1:(cmpI t t' != 0) = true:=cmpI_ne h1
  have HF:Hid (cmpI t t' = z):=by
   have:=HZ.out
   unfold cmpR at this
   rw [if_neg (by simpa using b1)] at this
   exact this
  clear HZ
  go_enter Tryz.func15,Tryz.ntmps15
  go_wp2_with (go_at_call 35; refine (cmp_any _ _ _).mono ?_; rintro e w' ⟨rfl,rfl⟩)
  go_ret
  exact ⟨by rw [← HF.out]; rfl,((UpG.refl w).alloc _).alloc _⟩
theorem ocmp_any (A A':Option Addr) (n c n' c':Nat) (d d':List Hp) (t t':Int) (w:World) (hd:d.length = n) (hd':d'.length = n') (hn:n ≤ 1000000) (hn':n' ≤ 1000000) (h:Sl w w.heap.size 3 A n c (flatHp d)) (h':Sl w w.heap.size 3 A' n' c' (flatHp d')) (z:Int) (hz:cmpR t d t' d' = z) :
  Calls Tryz.prog 15 #[.agg #[.slice A n c,.int .i64 t],.agg #[.slice A' n' c',.int .i64 t']] w fun e w' => e = .returned (.int .i64 z) ∧ Below w.heap.size w w':=(ocmp_grow A A' n c n' c' d d' t t' w hd hd' hn hn' h h' z hz).mono fun e w' k => ⟨k.1,k.2.below⟩
set_option maxHeartbeats 2000000 in
set_option maxRecDepth 100000 in
theorem oless_any (A A':Option Addr) (n c n' c':Nat) (d d':List Hp) (t t':Int) (w:World) (hd:d.length = n) (hd':d'.length = n') (hn:n ≤ 1000000) (hn':n' ≤ 1000000) (h:Sl w w.heap.size 3 A n c (flatHp d)) (h':Sl w w.heap.size 3 A' n' c' (flatHp d')) (b:Bool) (hb:decide (cmpR t d t' d' < 0) = b) :
  Calls Tryz.prog 148 #[.agg #[.slice A n c,.int .i64 t],.agg #[.slice A' n' c',.int .i64 t']] w fun e w' => e = .returned (.bool b) ∧ Below w.heap.size w w':=by
 obtain ⟨z,hz⟩:∃ z,cmpR t d t' d' = z:=⟨_,rfl⟩
 have HB:Hid (decide (z < 0) = b):=by rw [← hz]; exact hb
 clear hb
 have hBa:Below w.heap.size w ((w.alloc (.cells #[.slice A n c,.int .i64 t] 30)).alloc (.cells #[.slice A' n' c',.int .i64 t'] 30)):=by (repeat (first | exact Below.refl _ _ | refine Below.alloc ?_ (by first | omega | (simp; done) | (simp; omega)) _ | refine Below.setCell ?_ (by first | omega | (simp; done) | (simp; omega)) _ | refine Below.drew ?_))
 have HZ:=Lib.hid hz
 clear hz
 go_enter Tryz.func148,Tryz.ntmps148
 go_wp2_with fail
 refine (ocmp_any A A' n c n' c' d d' t t' _ hd hd' hn hn' (h.up hBa) (h'.up hBa) z HZ.out).mono ?_
 rintro e w4 ⟨rfl,hb4⟩
 have hB4:=hBa.trans (hb4.mono hBa.size)
 clear hb4
 go_wp2
 all_goals go_ret
 all_goals exact ⟨by rw [← HB.out]; rfl,hB4⟩
end Go.Proofs.YtkonkhblipbjcaaGreat

/- The order of routes is one. No condition. -/
namespace Go.Proofs.YtkonkhblipbjcaaGreat
open Go.ChangeShapes Go.WideShapes Go.ChangeAt Go.RowKit Go.Sort
set_option linter.unusedSimpArgs false
set_option linter.unusedVariables false
def cmpL : List Int → List Int → Int
  | [], [] => 0
  | [], _ :: _ => -1
  | _ :: _, [] => 1
  | a :: t, b :: u => if cmpI a b = 0 then cmpL t u else cmpI a b
theorem cmpI_anti (a b : Int) : cmpI a b = - cmpI b a := by unfold cmpI; repeat' split
                                                            all_goals omega
theorem cmpI_range (a b : Int) : -1 ≤ cmpI a b ∧ cmpI a b ≤ 1 := by unfold cmpI; repeat' split
                                                                    all_goals omega
theorem cmpI_neg {a b : Int} : cmpI a b < 0 ↔ a < b := by unfold cmpI; repeat' split
                                                          all_goals omega
theorem cmpL_self : ∀ a, cmpL a a = 0
  | [] => rfl
  | x :: a => by rw [cmpL, if_pos (cmpI_eq x)]; exact cmpL_self a
theorem cmpL_zero : ∀ {a b}, cmpL a b = 0 → a = b
  | [], [], _ => rfl
  | [], _ :: _, h => by simp [cmpL] at h
  | _ :: _, [], h => by simp [cmpL] at h
  | x :: a, y :: b, h => by
    rw [cmpL] at h
    by_cases e : cmpI x y = 0
    · rw [if_pos e] at h
      rw [cmpI_zero.1 e, cmpL_zero h]
    · rw [if_neg e] at h; exact absurd h e
theorem cmpL_anti : ∀ a b, cmpL a b = - cmpL b a
  | [], [] => rfl
  | [], _ :: _ => rfl
  | _ :: _, [] => rfl
  | x :: a, y :: b => by
    rw [cmpL, cmpL]
    have h := cmpI_anti x y
    by_cases e : cmpI x y = 0
    · rw [if_pos e, if_pos (by omega)]; exact cmpL_anti a b
    · rw [if_neg e, if_neg (by omega)]; exact h
theorem cmpL_range : ∀ a b, -1 ≤ cmpL a b ∧ cmpL a b ≤ 1
  | [], [] => by simp [cmpL]
  | [], _ :: _ => by simp [cmpL]
  | _ :: _, [] => by simp [cmpL]
  | x :: a, y :: b => by
    rw [cmpL]
    split
    · exact cmpL_range a b
    · exact cmpI_range x y
theorem cmpL_trans : ∀ {a b c}, cmpL a b ≤ 0 → cmpL b c ≤ 0 → cmpL a c ≤ 0
  | [], _, [], _, _ => by simp [cmpL]
  | [], _, _ :: _, _, _ => by simp [cmpL]
  | _ :: _, [], _, h, _ => by simp [cmpL] at h
  | _ :: _, _ :: _, [], _, h => by simp [cmpL] at h
  | x :: a, y :: b, z :: c, h1, h2 => by
    rw [cmpL] at h1 h2 ⊢
    by_cases e1 : cmpI x y = 0
    · rw [if_pos e1] at h1
      rw [cmpI_zero.1 e1]
      by_cases e2 : cmpI y z = 0
      · rw [if_pos e2] at h2 ⊢; exact cmpL_trans h1 h2
      · rw [if_neg e2] at h2 ⊢; exact h2
    · rw [if_neg e1] at h1
      have l1 : x < y := cmpI_neg.1 (by omega)
      by_cases e2 : cmpI y z = 0
      · rw [← cmpI_zero.1 e2, if_neg e1]; exact h1
      · rw [if_neg e2] at h2
        have l2 : y < z := cmpI_neg.1 (by omega)
        have l3 : cmpI x z < 0 := cmpI_neg.2 (by omega)
        rw [if_neg (by omega)]; omega
/-- When it is there, how many hops, their IDs. -/
def keyR (t : Int) (d : List Hp) : List Int := t :: (d.length : Int) :: d.map Hp.id
theorem cmpH_key : ∀ (d d' : List Hp), cmpH d d' = cmpL (d.map Hp.id) (d'.map Hp.id)
  | [], [] => rfl
  | [], _ :: _ => rfl
  | _ :: _, [] => rfl
  | x :: d, y :: d' => by rw [cmpH, List.map_cons, List.map_cons, cmpL, cmpH_key d d']
theorem cmpR_key (t : Int) (d : List Hp) (t' : Int) (d' : List Hp) : cmpR t d t' d' = cmpL (keyR t d) (keyR t' d') := by
  unfold cmpR keyR
  rw [cmpL, cmpL, cmpH_key]
/-- Who goes on, or is there later, is behind. -/
theorem cmpR_longer (t u : Int) (d e : List Hp) (hu : 0 ≤ u) : cmpR t d (t + u) (d ++ e) = if u = 0 ∧ e = [] then 0 else -1 := by
  rw [cmpR_key]
  unfold keyR
  rw [cmpL, cmpL]
  by_cases h0 : u = 0
  · subst h0
    rw [if_pos (by rw [Int.add_zero]; exact cmpI_eq t)]
    cases e with
    | nil =>
      rw [List.append_nil, if_pos (cmpI_eq _), cmpL_self, if_pos ⟨rfl, rfl⟩]
    | cons y e =>
      have hl : (d.length : Int) < ((d ++ y :: e).length : Int) := by simp only [List.length_append, List.length_cons]; omega
      rw [if_neg (by have := cmpI_neg.2 hl; omega), cmpI_lt hl, if_neg (by simp)]
  · have hl : t < t + u := by omega
    rw [if_neg (by have := cmpI_neg.2 hl; omega), cmpI_lt hl, if_neg (fun h => h0 h.1)]
end Go.Proofs.YtkonkhblipbjcaaGreat

/- best.branch: its head in memory, its route, its bans; rows of them. No condition. -/
namespace Go.Proofs.YtkonkhblipbjcaaGreat
open Go.ChangeShapes Go.WideShapes Go.ChangeAt Go.RowKit Go.Sort
set_option linter.unusedSimpArgs false
set_option linter.unusedVariables false
structure Bx where
 A:Option Addr
 n:Nat
 c:Nat
 t:Int
 r:Nat
 Ab:Option Addr
 nb:Nat
 cb:Nat
 H:List Hp
 bans:List Int
instance:Inhabited Bx:=⟨⟨none,0,0,0,0,none,0,0,[],[]⟩⟩
def Bx.cs (x:Bx):List Value:=[.slice x.A x.n x.c,.int .i64 x.t,.int .i64 (x.r:Int),.slice x.Ab x.nb x.cb]
def flatBx (d:List Bx):List Value:=d.flatMap Bx.cs
theorem flatBx_nil:flatBx [] = []:=rfl
theorem flatBx_cons (x:Bx) (d:List Bx):flatBx (x :: d) = x.cs ++ flatBx d:=rfl
theorem flatBx_append (d e:List Bx):flatBx (d ++ e) = flatBx d ++ flatBx e:=List.flatMap_append
theorem flatBx_one (x:Bx):flatBx [x] = x.cs:=by simp [flatBx]
theorem flatBx_length:∀ d:List Bx,(flatBx d).length = d.length * 4
 | [] => rfl
 | x :: d => by rw [flatBx_cons,List.length_append,flatBx_length d,List.length_cons]; show 4 + _ = _; omega
theorem flatBx_at:∀ (d:List Bx) (k j:Nat),k < d.length → j < 4 → (flatBx d)[k * 4 + j]? = (d.getD k default).cs[j]?
 | [],k,j,hk,_ => by simp at hk
 | x :: d,0,j,_,hj => by
  rw [flatBx_cons,List.getElem?_append_left (by show 0 * 4 + j < 4; omega)]
  simp
 | x :: d,k + 1,j,hk,hj => by
  rw [flatBx_cons,List.getElem?_append_right (by show 4 ≤ _; omega),List.getD_cons_succ,← flatBx_at d k j (by simp at hk; omega) hj]
  congr 1
  show (k + 1) * 4 + j - 4 = _
  omega
theorem flatBx_take (d:List Bx):∀ n,(flatBx d).take (n * 4) = flatBx (d.take n):=by
 induction d with
 | nil => intro n; simp [flatBx]
 | cons x d ih =>
  intro n
  cases n with
  | zero => simp [flatBx]
  | succ n =>
   rw [flatBx_cons,List.take_succ_cons,flatBx_cons,List.take_append,← ih n]
   have h1:x.cs.length = 4:=rfl
   rw [List.take_of_length_le (by rw [h1]; omega),h1,show (n + 1) * 4 - 4 = n * 4 by omega]
theorem flatBx_set:∀ (d:List Bx) (k:Nat) (x:Bx),k < d.length → flatBx (d.set k x) = (((((flatBx d).set (k * 4) (.slice x.A x.n x.c)).set (k * 4 + 1) (.int .i64 x.t)).set (k * 4 + 2) (.int .i64 (x.r:Int))).set (k * 4 + 3) (.slice x.Ab x.nb x.cb))
 | [],k,x,h => by simp at h
 | y :: d,0,x,_ => rfl
 | y :: d,k + 1,x,h => by
  rw [List.set_cons_succ,flatBx_cons,flatBx_set d k x (by simp at h; omega),flatBx_cons]
  have e:∀ (l:List Value) (j:Nat) (v:Value),y.cs ++ l.set j v = (y.cs ++ l).set (j + 4) v:=fun l j v => by
   rw [List.set_append_right _ _ (by show 4 ≤ _; omega)]
   congr 2
  rw [e,e,e,e]
  congr 1 <;> first | omega | skip
  congr 1 <;> first | omega | skip
  congr 1 <;> first | omega | skip
  congr 1 <;> first | omega | skip
theorem infoBr:(Tryz.prog.info? 47).map (fun i => (i.zero,i.size,i.bytes)) = some (some (.agg #[.slice none 0 0,.int .i64 0,.int .i64 0,.slice none 0 0]),4,64):=by kernel_rfl
structure Bx.ok (w:World) (x:Bx):Prop where
 hl:x.H.length = x.n
 hn:x.n ≤ 1000
 hs:Sl w w.heap.size 3 x.A x.n x.c (flatHp x.H)
 bl:x.bans.length = x.nb
 bs:Sl w w.heap.size 1 x.Ab x.nb x.cb (x.bans.map (Value.int .i64))
/-- Neither its hops nor its bans lie in block g. -/
def Bx.off (g:Nat) (x:Bx):Prop:=(0 < x.n → ∀ ad,x.A = some ad → ad.block ≠ g) ∧ (0 < x.nb → ∀ ad,x.Ab = some ad → ad.block ≠ g)
theorem Sl.onB {w w':World} {B B' k n c:Nat} {A:Option Addr} {xs:List Value} (h:Sl w B k A n c xs) (hk:0 < n → ∀ ad,A = some ad → ad.block < B → w'.heap[ad.block]? = w.heap[ad.block]? ∧ ad.block < B'):Sl w' B' k A n c xs:=
 ⟨⟨h.lst.len,fun hn => by
  obtain ⟨ad,e,hb,hc⟩:=h.lst.at_ hn
  obtain ⟨h1,h2⟩:=hk hn ad e hb
  exact ⟨ad,e,h2,fun j u hu => (World.cell?_of_block (by rw [add_block]; exact h1)).trans (hc j u hu)⟩⟩,h.cap,h.max,h.nil⟩
theorem Sl.onK {S:Nat → Prop} {w w':World} {k n c:Nat} {A:Option Addr} {xs:List Value} (h:Sl w w.heap.size k A n c xs) (hk:Kept S w w') (ho:0 < n → ∀ ad,A = some ad → ¬ S ad.block):Sl w' w'.heap.size k A n c xs:=
 h.onB fun hn ad e hb => ⟨hk.block _ hb (ho hn ad e),Nat.lt_of_lt_of_le hb hk.size⟩
theorem Bx.ok.kept {S:Nat → Prop} {w w':World} {x:Bx} (h:x.ok w) (hk:Kept S w w') (ho:∀ g,S g → x.off g):x.ok w':=
 ⟨h.hl,h.hn,h.hs.onK hk (fun hn ad e hS => (ho _ hS).1 hn ad e rfl),h.bl,h.bs.onK hk (fun hn ad e hS => (ho _ hS).2 hn ad e rfl)⟩
theorem Bx.ok.below {w w':World} {x:Bx} (h:x.ok w) (hb:Below w.heap.size w w'):x.ok w':=⟨h.hl,h.hn,h.hs.up hb,h.bl,h.bs.up hb⟩
theorem Sl.off_new {w:World} {B k n c:Nat} {A:Option Addr} {xs:List Value} (h:Sl w B k A n c xs) (hn:0 < n) {ad:Addr} (e:A = some ad):ad.block < B:=by
 obtain ⟨ad',e',hb,_⟩:=h.lst.at_ hn
 rw [e] at e'; simp only [Option.some.injEq] at e'; subst e'; exact hb
theorem Bx.ok.off_new {w:World} {x:Bx} (h:x.ok w) {g:Nat} (hg:w.heap.size ≤ g):x.off g:=
 ⟨fun hn ad e => by have:=h.hs.off_new hn e; omega,fun hn ad e => by have:=h.bs.off_new hn e; omega⟩
end Go.Proofs.YtkonkhblipbjcaaGreat

/- Routes in order, as lists. Plain facts. -/
namespace Go.Proofs.YtkonkhblipbjcaaGreat
open Go.ChangeShapes Go.WideShapes Go.ChangeAt Go.RowKit Go.Sort
set_option linter.unusedSimpArgs false
set_option linter.unusedVariables false
abbrev Rtp:=List Hp × Int
def idsT (p:Rtp):List Int:=p.1.map Hp.id
def keyT (p:Rtp):List Int:=keyR p.2 p.1
def cT (a b:Rtp):Int:=cmpR a.2 a.1 b.2 b.1
theorem cT_key (a b:Rtp):cT a b = cmpL (keyT a) (keyT b):=cmpR_key _ _ _ _
theorem cT_self (a:Rtp):cT a a = 0:=by rw [cT_key,cmpL_self]
theorem cT_anti (a b:Rtp):cT a b = - cT b a:=by rw [cT_key,cT_key]; exact cmpL_anti _ _
theorem cT_trans {a b c:Rtp} (h1:cT a b ≤ 0) (h2:cT b c ≤ 0):cT a c ≤ 0:=by
 rw [cT_key] at *
 exact cmpL_trans h1 h2
theorem cmpL_trans_lt {a b c:List Int} (h1:cmpL a b < 0) (h2:cmpL b c ≤ 0):cmpL a c < 0:=by
 rcases Int.lt_or_le (cmpL a c) 0 with h | h
 ·exact h
 ·exfalso
  have h3:=cmpL_anti a c
  have h4:=cmpL_trans (a:=b) (b:=c) (c:=a) h2 (by omega)
  have h5:=cmpL_anti a b
  omega
theorem cT_lt_of_lt_le {a b c:Rtp} (h1:cT a b < 0) (h2:cT b c ≤ 0):cT a c < 0:=by
 rw [cT_key] at *
 exact cmpL_trans_lt h1 h2
theorem cT_lt_of_le_lt {a b c:Rtp} (h1:cT a b ≤ 0) (h2:cT b c < 0):cT a c < 0:=by
 rcases Int.lt_or_le (cT a c) 0 with h | h
 ·exact h
 ·exfalso
  have h3:=cT_anti a c
  have h4:=cT_trans (a:=c) (b:=a) (c:=b) (by omega) h1
  have h5:=cT_anti b c
  omega
theorem cT_zero {a b:Rtp} (h:cT a b = 0):idsT a = idsT b ∧ a.2 = b.2:=by
 rw [cT_key] at h
 have h1:=cmpL_zero h
 unfold keyT keyR at h1
 injection h1 with h2 h3
 injection h3 with _ h4
 exact ⟨h4,h2⟩
/-- In order, none twice. -/
def SrtT (l:List Rtp):Prop:=l.Pairwise fun a b => cT a b < 0
/-- One more, in its place, if there is none at it. -/
def insT (x:Rtp):List Rtp → List Rtp
 | [] => [x]
 | y :: r => if cT x y < 0 then x :: y :: r else if cT x y = 0 then y :: r else y :: insT x r
theorem insT_mem {x:Rtp}:∀ {l:List Rtp} {z:Rtp},z ∈ insT x l → z = x ∨ z ∈ l
 | [],z,h => by
  rw [insT,List.mem_singleton] at h; exact .inl h
 | y :: r,z,h => by
  rw [insT] at h
  split at h
  ·rcases List.mem_cons.1 h with h1 | h1
   ·exact .inl h1
   ·exact .inr h1
  ·split at h
   ·exact .inr h
   ·rcases List.mem_cons.1 h with rfl | h1
    ·exact .inr (List.mem_cons_self ..)
    ·rcases insT_mem h1 with h2 | h2
     ·exact .inl h2
     ·exact .inr (List.mem_cons_of_mem _ h2)
theorem insT_keep {x:Rtp}:∀ {l:List Rtp} {z:Rtp},z ∈ l → z ∈ insT x l
 | y :: r,z,h => by
  rw [insT]
  split
  ·exact List.mem_cons_of_mem _ h
  ·split
   ·exact h
   ·rcases List.mem_cons.1 h with rfl | h1
    ·exact List.mem_cons_self ..
    ·exact List.mem_cons_of_mem _ (insT_keep h1)
theorem insT_has (x:Rtp):∀ (l:List Rtp),x ∈ insT x l ∨ ∃ y ∈ l,cT x y = 0
 | [] => by rw [insT]; simp
 | y :: r => by
  rw [insT]
  split
  ·exact .inl (List.mem_cons_self ..)
  ·split
   ·rename_i h
    exact .inr ⟨y,List.mem_cons_self ..,h⟩
   ·rcases insT_has x r with h | ⟨z,h1,h2⟩
    ·exact .inl (List.mem_cons_of_mem _ h)
    ·exact .inr ⟨z,List.mem_cons_of_mem _ h1,h2⟩
theorem insT_srt {x:Rtp}:∀ {l:List Rtp},SrtT l → SrtT (insT x l)
 | [],_ => by rw [insT]; exact List.pairwise_singleton ..
 | y :: r,h => by
  obtain ⟨h1,h2⟩:=List.pairwise_cons.1 h
  rw [insT]
  split
  ·rename_i hx
   refine List.pairwise_cons.2 ⟨fun z hz => ?_,h⟩
   rcases List.mem_cons.1 hz with rfl | hz
   ·exact hx
   ·exact cT_lt_of_lt_le hx (Int.le_of_lt (h1 z hz))
  ·split
   ·exact h
   ·rename_i hx hx0
    refine List.pairwise_cons.2 ⟨fun z hz => ?_,insT_srt h2⟩
    rcases insT_mem hz with rfl | hz
    ·have:=cT_anti y z; omega
    ·exact h1 z hz
def sortX (l:List Rtp):List Rtp:=l.foldr insT []
theorem sortX_srt:∀ (l:List Rtp),SrtT (sortX l)
 | [] => List.Pairwise.nil
 | x :: r => insT_srt (sortX_srt r)
theorem sortX_mem:∀ {l:List Rtp} {z:Rtp},z ∈ sortX l → z ∈ l
 | x :: r,z,h => by
  rcases insT_mem (show z ∈ insT x (sortX r) from h) with rfl | h
  ·exact List.mem_cons_self ..
  ·exact List.mem_cons_of_mem _ (sortX_mem h)
theorem sortX_has:∀ {l:List Rtp} {z:Rtp},z ∈ l → ∃ y ∈ sortX l,cT z y = 0
 | x :: r,z,h => by
  show ∃ y ∈ insT x (sortX r),_
  rcases List.mem_cons.1 h with rfl | h
  ·rcases insT_has z (sortX r) with h1 | ⟨y,h1,h2⟩
   ·exact ⟨z,h1,cT_self z⟩
   ·exact ⟨y,insT_keep h1,h2⟩
  ·obtain ⟨y,h1,h2⟩:=sortX_has h
   exact ⟨y,insT_keep h1,h2⟩
theorem srtT_ne {l:List Rtp} (h:SrtT l) {i j:Nat} (hi:i < l.length) (hj:j < l.length) (hij:i < j):cT l[i] l[j] < 0:=List.pairwise_iff_getElem.1 h i j hi hj hij
theorem srtT_ext:∀ {l l':List Rtp},SrtT l → SrtT l' → (∀ x,x ∈ l ↔ x ∈ l') → l = l'
 | [],[],_,_,_ => rfl
 | [],y :: r,_,_,h => by have:=(h y).2 (List.mem_cons_self ..); cases this
 | x :: r,[],_,_,h => by have:=(h x).1 (List.mem_cons_self ..); cases this
 | x :: r,y :: s,h1,h2,h => by
  obtain ⟨a1,a2⟩:=List.pairwise_cons.1 h1
  obtain ⟨b1,b2⟩:=List.pairwise_cons.1 h2
  have hxy:x = y:=by
   rcases List.mem_cons.1 ((h x).1 (List.mem_cons_self ..)) with e | e
   ·exact e
   ·rcases List.mem_cons.1 ((h y).2 (List.mem_cons_self ..)) with e2 | e2
    ·exact e2.symm
    ·have h3:=a1 y e2
     have h4:=b1 x e
     have:=cT_anti x y
     omega
  subst hxy
  rw [srtT_ext a2 b2 (fun z => by
   constructor
   ·intro hz
    rcases List.mem_cons.1 ((h z).1 (List.mem_cons_of_mem _ hz)) with rfl | h3
    ·have:=a1 z hz; rw [cT_self] at this; omega
    ·exact h3
   ·intro hz
    rcases List.mem_cons.1 ((h z).2 (List.mem_cons_of_mem _ hz)) with rfl | h3
    ·have:=b1 z hz; rw [cT_self] at this; omega
    ·exact h3)]
end Go.Proofs.YtkonkhblipbjcaaGreat
