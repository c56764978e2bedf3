/- Several texts of mine in one: Order2, OrderMath, SrtT, TyBr, CatI, TyRh, SlRh, Rx, KeptJ, Ref13. No condition. -/
import Derived.Test.YtodcoockhkghdaaGreatGQ20
import Derived.Test.YtodcoockhkghdaaGreatGQ0
import Derived.Test.YtodcoockhkghdaaGreatGQ7
import Derived.Test.YtodcoockhkghdaaGreatChecked
import Derived.Test.YtodcoockhkghdaaGreatPath5
import Derived.Maps.AppendAt
import Derived.BigQuiet
import Derived.Deep.QuietTactic
namespace Go.Proofs.YtodcoockhkghdaaGreat
open Go.ChangeShapes Go.WideShapes Go.ChangeAt Go.RowKit Go.Sort
set_option linter.unusedSimpArgs false
set_option linter.unusedVariables false
theorem cmpI_ne {a b:Int} (h:a ≠ b):(cmpI a b != 0) = true:=by
 have:cmpI a b ≠ 0:=fun e => h (cmpI_zero.1 e)
 simpa using this
set_option maxHeartbeats 2000000 in
set_option maxRecDepth 100000 in
theorem ocmp_grow (A A':Option Addr) (n c n' c':Nat) (d d':List Hp) (t t':Int) (w:World) (hd:d.length = n) (hd':d'.length = n') (hn:n ≤ 1000000) (hn':n' ≤ 1000000) (h:Sl w w.heap.size 3 A n c (flatHp d)) (h':Sl w w.heap.size 3 A' n' c' (flatHp d')) (z:Int) (hz:cmpR t d t' d' = z) :
  Calls Tryz.prog 24 #[.agg #[.slice A n c,.int .i64 t],.agg #[.slice A' n' c',.int .i64 t']] w fun e w' => e = .returned (.int .i64 z) ∧ UpG w w':=by
 have HZ:=Lib.hid hz
 clear hz
 by_cases h1:t = t'
 ·subst h1
  have b1:(cmpI t t != 0) = false:=by rw [cmpI_eq]; rfl
  by_cases h2:n = n'
  ·subst h2
   have b2:(cmpI (n:Int) (n:Int) != 0) = false:=by rw [cmpI_eq]; rfl
   have HF:Hid (cmpH d d' = z):=by
    have:=HZ.out
    unfold cmpR at this
    rw [if_pos (cmpI_eq t),hd,hd',if_pos (cmpI_eq _)] at this
    exact this
   clear HZ
   go_enter Tryz.func24,Tryz.ntmps24
   go_wp2_with (go_at_call 54; refine (cmp_any _ _ _).mono ?_; rintro e w' ⟨rfl,rfl⟩)
   have hUa:UpG w ((w.alloc (.cells #[.slice A n c,.int .i64 t] 31)).alloc (.cells #[.slice A' n c',.int .i64 t] 31)):=((UpG.refl w).alloc _).alloc _
   have hBa:Below w.heap.size w ((w.alloc (.cells #[.slice A n c,.int .i64 t] 31)).alloc (.cells #[.slice A' n c',.int .i64 t] 31)):=by (repeat (first | exact Below.refl _ _ | refine Below.alloc ?_ (by first | omega | (simp; done) | (simp; omega)) _ | refine Below.setCell ?_ (by first | omega | (simp; done) | (simp; omega)) _ | refine Below.drew ?_))
   refine (cmpHops_any A A' n c n c' d d' _ hd hd' hn hn (h.up hBa) (h'.up hBa)).mono ?_
   rintro e w4 ⟨rfl,hb4⟩
   have hU4:=hUa.trans hb4
   clear hb4
   go_wp2
   go_ret
   exact ⟨by rw [HF.out]; rfl,hU4⟩
  ·have b2:(cmpI (n:Int) (n':Int) != 0) = true:=cmpI_ne (by omega)
   have HF:Hid (cmpI (n:Int) (n':Int) = z):=by
    have:=HZ.out
    unfold cmpR at this
    rw [if_pos (cmpI_eq t),hd,hd',if_neg (by simpa using b2)] at this
    exact this
   clear HZ
   go_enter Tryz.func24,Tryz.ntmps24
   go_wp2_with (go_at_call 54; refine (cmp_any _ _ _).mono ?_; rintro e w' ⟨rfl,rfl⟩)
   go_ret
   exact ⟨by rw [← HF.out]; rfl,((UpG.refl w).alloc _).alloc _⟩
 ·have b1:(cmpI t t' != 0) = true:=cmpI_ne h1
  have HF:Hid (cmpI t t' = z):=by
   have:=HZ.out
   unfold cmpR at this
   rw [if_neg (by simpa using b1)] at this
   exact this
  clear HZ
  go_enter Tryz.func24,Tryz.ntmps24
  go_wp2_with (go_at_call 54; refine (cmp_any _ _ _).mono ?_; rintro e w' ⟨rfl,rfl⟩)
  go_ret
  exact ⟨by rw [← HF.out]; rfl,((UpG.refl w).alloc _).alloc _⟩
theorem ocmp_any (A A':Option Addr) (n c n' c':Nat) (d d':List Hp) (t t':Int) (w:World) (hd:d.length = n) (hd':d'.length = n') (hn:n ≤ 1000000) (hn':n' ≤ 1000000) (h:Sl w w.heap.size 3 A n c (flatHp d)) (h':Sl w w.heap.size 3 A' n' c' (flatHp d')) (z:Int) (hz:cmpR t d t' d' = z) :
  Calls Tryz.prog 24 #[.agg #[.slice A n c,.int .i64 t],.agg #[.slice A' n' c',.int .i64 t']] w fun e w' => e = .returned (.int .i64 z) ∧ Below w.heap.size w w':=(ocmp_grow A A' n c n' c' d d' t t' w hd hd' hn hn' h h' z hz).mono fun e w' k => ⟨k.1,k.2.below⟩
set_option maxHeartbeats 2000000 in
set_option maxRecDepth 100000 in
theorem oless_any (A A':Option Addr) (n c n' c':Nat) (d d':List Hp) (t t':Int) (w:World) (hd:d.length = n) (hd':d'.length = n') (hn:n ≤ 1000000) (hn':n' ≤ 1000000) (h:Sl w w.heap.size 3 A n c (flatHp d)) (h':Sl w w.heap.size 3 A' n' c' (flatHp d')) (b:Bool) (hb:decide (cmpR t d t' d' < 0) = b) :
  Calls Tryz.prog 25 #[.agg #[.slice A n c,.int .i64 t],.agg #[.slice A' n' c',.int .i64 t']] w fun e w' => e = .returned (.bool b) ∧ Below w.heap.size w w':=by
 obtain ⟨z,hz⟩:∃ z,cmpR t d t' d' = z:=⟨_,rfl⟩
 have HB:Hid (decide (z < 0) = b):=by rw [← hz]; exact hb
 clear hb
 have hBa:Below w.heap.size w ((w.alloc (.cells #[.slice A n c,.int .i64 t] 31)).alloc (.cells #[.slice A' n' c',.int .i64 t'] 31)):=by (repeat (first | exact Below.refl _ _ | refine Below.alloc ?_ (by first | omega | (simp; done) | (simp; omega)) _ | refine Below.setCell ?_ (by first | omega | (simp; done) | (simp; omega)) _ | refine Below.drew ?_))
 have HZ:=Lib.hid hz
 clear hz
 go_enter Tryz.func25,Tryz.ntmps25
 go_wp2_with fail
 refine (ocmp_any A A' n c n' c' d d' t t' _ hd hd' hn hn' (h.up hBa) (h'.up hBa) z HZ.out).mono ?_
 rintro e w4 ⟨rfl,hb4⟩
 have hB4:=hBa.trans (hb4.mono hBa.size)
 clear hb4
 go_wp2
 all_goals go_ret
 all_goals exact ⟨by rw [← HB.out]; rfl,hB4⟩
def cmpL : List Int → List Int → Int
  | [], [] => 0
  | [], _ :: _ => -1
  | _ :: _, [] => 1
  | a :: t, b :: u => if cmpI a b = 0 then cmpL t u else cmpI a b
theorem cmpI_anti (a b : Int) : cmpI a b = - cmpI b a := by unfold cmpI; repeat' split
                                                            all_goals omega
theorem cmpI_neg {a b : Int} : cmpI a b < 0 ↔ a < b := by unfold cmpI; repeat' split
                                                          all_goals omega
theorem cmpL_self : ∀ a, cmpL a a = 0
  | [] => rfl
  | x :: a => by rw [cmpL, if_pos (cmpI_eq x)]; exact cmpL_self a
theorem cmpL_zero : ∀ {a b}, cmpL a b = 0 → a = b
  | [], [], _ => rfl
  | [], _ :: _, h => by simp [cmpL] at h
  | _ :: _, [], h => by simp [cmpL] at h
  | x :: a, y :: b, h => by
    rw [cmpL] at h
    by_cases e : cmpI x y = 0
    · rw [if_pos e] at h
      rw [cmpI_zero.1 e, cmpL_zero h]
    · rw [if_neg e] at h; exact absurd h e
theorem cmpL_anti : ∀ a b, cmpL a b = - cmpL b a
  | [], [] => rfl
  | [], _ :: _ => rfl
  | _ :: _, [] => rfl
  | x :: a, y :: b => by
    rw [cmpL, cmpL]
    have h := cmpI_anti x y
    by_cases e : cmpI x y = 0
    · rw [if_pos e, if_pos (by omega)]; exact cmpL_anti a b
    · rw [if_neg e, if_neg (by omega)]; exact h
theorem cmpL_trans : ∀ {a b c}, cmpL a b ≤ 0 → cmpL b c ≤ 0 → cmpL a c ≤ 0
  | [], _, [], _, _ => by simp [cmpL]
  | [], _, _ :: _, _, _ => by simp [cmpL]
  | _ :: _, [], _, h, _ => by simp [cmpL] at h
  | _ :: _, _ :: _, [], _, h => by simp [cmpL] at h
  | x :: a, y :: b, z :: c, h1, h2 => by
    rw [cmpL] at h1 h2 ⊢
    by_cases e1 : cmpI x y = 0
    · rw [if_pos e1] at h1
      rw [cmpI_zero.1 e1]
      by_cases e2 : cmpI y z = 0
      · rw [if_pos e2] at h2 ⊢; exact cmpL_trans h1 h2
      · rw [if_neg e2] at h2 ⊢; exact h2
    · rw [if_neg e1] at h1
      have l1 : x < y := cmpI_neg.1 (by omega)
      by_cases e2 : cmpI y z = 0
      · rw [← cmpI_zero.1 e2, if_neg e1]; exact h1
      · rw [if_neg e2] at h2
        have l2 : y < z := cmpI_neg.1 (by omega)
        have l3 : cmpI x z < 0 := cmpI_neg.2 (by omega)
        rw [if_neg (by omega)]; omega
def keyR (t : Int) (d : List Hp) : List Int := t :: (d.length : Int) :: d.map Hp.id
theorem cmpH_key : ∀ (d d' : List Hp), cmpH d d' = cmpL (d.map Hp.id) (d'.map Hp.id)
  | [], [] => rfl
  | [], _ :: _ => rfl
  | _ :: _, [] => rfl
  | x :: d, y :: d' => by rw [cmpH, List.map_cons, List.map_cons, cmpL, cmpH_key d d']
theorem cmpR_key (t : Int) (d : List Hp) (t' : Int) (d' : List Hp) : cmpR t d t' d' = cmpL (keyR t d) (keyR t' d') := by
  unfold cmpR keyR
  rw [cmpL, cmpL, cmpH_key]
abbrev Rtp:=List Hp × Int
def idsT (p:Rtp):List Int:=p.1.map Hp.id
def keyT (p:Rtp):List Int:=keyR p.2 p.1
def cT (a b:Rtp):Int:=cmpR a.2 a.1 b.2 b.1
theorem cT_key (a b:Rtp):cT a b = cmpL (keyT a) (keyT b):=cmpR_key _ _ _ _
theorem cT_self (a:Rtp):cT a a = 0:=by rw [cT_key,cmpL_self]
theorem cT_anti (a b:Rtp):cT a b = - cT b a:=by rw [cT_key,cT_key]; exact cmpL_anti _ _
theorem cT_trans {a b c:Rtp} (h1:cT a b ≤ 0) (h2:cT b c ≤ 0):cT a c ≤ 0:=by
 rw [cT_key] at *
 exact cmpL_trans h1 h2
theorem cmpL_trans_lt {a b c:List Int} (h1:cmpL a b < 0) (h2:cmpL b c ≤ 0):cmpL a c < 0:=by
 rcases Int.lt_or_le (cmpL a c) 0 with h | h
 ·exact h
 ·exfalso
  have h3:=cmpL_anti a c
  have h4:=cmpL_trans (a:=b) (b:=c) (c:=a) h2 (by omega)
  have h5:=cmpL_anti a b
  omega
theorem cT_lt_of_lt_le {a b c:Rtp} (h1:cT a b < 0) (h2:cT b c ≤ 0):cT a c < 0:=by
 rw [cT_key] at *
 exact cmpL_trans_lt h1 h2
theorem cT_zero {a b:Rtp} (h:cT a b = 0):idsT a = idsT b ∧ a.2 = b.2:=by
 rw [cT_key] at h
 have h1:=cmpL_zero h
 unfold keyT keyR at h1
 injection h1 with h2 h3
 injection h3 with _ h4
 exact ⟨h4,h2⟩
def SrtT (l:List Rtp):Prop:=l.Pairwise fun a b => cT a b < 0
def insT (x:Rtp):List Rtp → List Rtp
 | [] => [x]
 | y :: r => if cT x y < 0 then x :: y :: r else if cT x y = 0 then y :: r else y :: insT x r
theorem insT_mem {x:Rtp}:∀ {l:List Rtp} {z:Rtp},z ∈ insT x l → z = x ∨ z ∈ l
 | [],z,h => by
  rw [insT,List.mem_singleton] at h; exact .inl h
 | y :: r,z,h => by
  rw [insT] at h
  split at h
  ·rcases List.mem_cons.1 h with h1 | h1
   ·exact .inl h1
   ·exact .inr h1
  ·split at h
   ·exact .inr h
   ·rcases List.mem_cons.1 h with rfl | h1
    ·exact .inr (List.mem_cons_self ..)
    ·rcases insT_mem h1 with h2 | h2
     ·exact .inl h2
     ·exact .inr (List.mem_cons_of_mem _ h2)
theorem insT_keep {x:Rtp}:∀ {l:List Rtp} {z:Rtp},z ∈ l → z ∈ insT x l
 | y :: r,z,h => by
  rw [insT]
  split
  ·exact List.mem_cons_of_mem _ h
  ·split
   ·exact h
   ·rcases List.mem_cons.1 h with rfl | h1
    ·exact List.mem_cons_self ..
    ·exact List.mem_cons_of_mem _ (insT_keep h1)
theorem insT_has (x:Rtp):∀ (l:List Rtp),x ∈ insT x l ∨ ∃ y ∈ l,cT x y = 0
 | [] => by rw [insT]; simp
 | y :: r => by
  rw [insT]
  split
  ·exact .inl (List.mem_cons_self ..)
  ·split
   ·rename_i h
    exact .inr ⟨y,List.mem_cons_self ..,h⟩
   ·rcases insT_has x r with h | ⟨z,h1,h2⟩
    ·exact .inl (List.mem_cons_of_mem _ h)
    ·exact .inr ⟨z,List.mem_cons_of_mem _ h1,h2⟩
theorem insT_srt {x:Rtp}:∀ {l:List Rtp},SrtT l → SrtT (insT x l)
 | [],_ => by rw [insT]; exact List.pairwise_singleton ..
 | y :: r,h => by
  obtain ⟨h1,h2⟩:=List.pairwise_cons.1 h
  rw [insT]
  split
  ·rename_i hx
   refine List.pairwise_cons.2 ⟨fun z hz => ?_,h⟩
   rcases List.mem_cons.1 hz with rfl | hz
   ·exact hx
   ·exact cT_lt_of_lt_le hx (Int.le_of_lt (h1 z hz))
  ·split
   ·exact h
   ·rename_i hx hx0
    refine List.pairwise_cons.2 ⟨fun z hz => ?_,insT_srt h2⟩
    rcases insT_mem hz with rfl | hz
    ·have:=cT_anti y z; omega
    ·exact h1 z hz
def sortX (l:List Rtp):List Rtp:=l.foldr insT []
theorem sortX_srt:∀ (l:List Rtp),SrtT (sortX l)
 | [] => List.Pairwise.nil
 | x :: r => insT_srt (sortX_srt r)
theorem sortX_mem:∀ {l:List Rtp} {z:Rtp},z ∈ sortX l → z ∈ l
 | x :: r,z,h => by
  rcases insT_mem (show z ∈ insT x (sortX r) from h) with rfl | h
  ·exact List.mem_cons_self ..
  ·exact List.mem_cons_of_mem _ (sortX_mem h)
theorem sortX_has:∀ {l:List Rtp} {z:Rtp},z ∈ l → ∃ y ∈ sortX l,cT z y = 0
 | x :: r,z,h => by
  show ∃ y ∈ insT x (sortX r),_
  rcases List.mem_cons.1 h with rfl | h
  ·rcases insT_has z (sortX r) with h1 | ⟨y,h1,h2⟩
   ·exact ⟨z,h1,cT_self z⟩
   ·exact ⟨y,insT_keep h1,h2⟩
  ·obtain ⟨y,h1,h2⟩:=sortX_has h
   exact ⟨y,insT_keep h1,h2⟩
theorem srtT_ne {l:List Rtp} (h:SrtT l) {i j:Nat} (hi:i < l.length) (hj:j < l.length) (hij:i < j):cT l[i] l[j] < 0:=List.pairwise_iff_getElem.1 h i j hi hj hij
structure Bx where
 A:Option Addr
 n:Nat
 c:Nat
 t:Int
 r:Nat
 Ab:Option Addr
 nb:Nat
 cb:Nat
 H:List Hp
 bans:List Int
instance:Inhabited Bx:=⟨⟨none,0,0,0,0,none,0,0,[],[]⟩⟩
def Bx.cs (x:Bx):List Value:=[.slice x.A x.n x.c,.int .i64 x.t,.int .i64 (x.r:Int),.slice x.Ab x.nb x.cb]
def flatBx (d:List Bx):List Value:=d.flatMap Bx.cs
theorem flatBx_cons (x:Bx) (d:List Bx):flatBx (x :: d) = x.cs ++ flatBx d:=rfl
theorem flatBx_append (d e:List Bx):flatBx (d ++ e) = flatBx d ++ flatBx e:=List.flatMap_append
theorem flatBx_one (x:Bx):flatBx [x] = x.cs:=by simp [flatBx]
theorem flatBx_at:∀ (d:List Bx) (k j:Nat),k < d.length → j < 4 → (flatBx d)[k * 4 + j]? = (d.getD k default).cs[j]?
 | [],k,j,hk,_ => by simp at hk
 | x :: d,0,j,_,hj => by
  rw [flatBx_cons,List.getElem?_append_left (by show 0 * 4 + j < 4; omega)]
  simp
 | x :: d,k + 1,j,hk,hj => by
  rw [flatBx_cons,List.getElem?_append_right (by show 4 ≤ _; omega),List.getD_cons_succ,← flatBx_at d k j (by simp at hk; omega) hj]
  congr 1
  show (k + 1) * 4 + j - 4 = _
  omega
theorem flatBx_take (d:List Bx):∀ n,(flatBx d).take (n * 4) = flatBx (d.take n):=by
 induction d with
 | nil => intro n; simp [flatBx]
 | cons x d ih =>
  intro n
  cases n with
  | zero => simp [flatBx]
  | succ n =>
   rw [flatBx_cons,List.take_succ_cons,flatBx_cons,List.take_append,← ih n]
   have h1:x.cs.length = 4:=rfl
   rw [List.take_of_length_le (by rw [h1]; omega),h1,show (n + 1) * 4 - 4 = n * 4 by omega]
theorem flatBx_set:∀ (d:List Bx) (k:Nat) (x:Bx),k < d.length → flatBx (d.set k x) = (((((flatBx d).set (k * 4) (.slice x.A x.n x.c)).set (k * 4 + 1) (.int .i64 x.t)).set (k * 4 + 2) (.int .i64 (x.r:Int))).set (k * 4 + 3) (.slice x.Ab x.nb x.cb))
 | [],k,x,h => by simp at h
 | y :: d,0,x,_ => rfl
 | y :: d,k + 1,x,h => by
  rw [List.set_cons_succ,flatBx_cons,flatBx_set d k x (by simp at h; omega),flatBx_cons]
  have e:∀ (l:List Value) (j:Nat) (v:Value),y.cs ++ l.set j v = (y.cs ++ l).set (j + 4) v:=fun l j v => by
   rw [List.set_append_right _ _ (by show 4 ≤ _; omega)]
   congr 2
  rw [e,e,e,e]
  congr 1 <;> first | omega | skip
  congr 1 <;> first | omega | skip
  congr 1 <;> first | omega | skip
  congr 1 <;> first | omega | skip
theorem infoBr:(Tryz.prog.info? 122).map (fun i => (i.zero,i.size,i.bytes)) = some (some (.agg #[.slice none 0 0,.int .i64 0,.int .i64 0,.slice none 0 0]),4,64):=by kernel_rfl
structure Bx.ok (w:World) (x:Bx):Prop where
 hl:x.H.length = x.n
 hn:x.n ≤ 1000
 hs:Sl w w.heap.size 3 x.A x.n x.c (flatHp x.H)
 bl:x.bans.length = x.nb
 bs:Sl w w.heap.size 1 x.Ab x.nb x.cb (x.bans.map (Value.int .i64))
def Bx.off (g:Nat) (x:Bx):Prop:=(0 < x.n → ∀ ad,x.A = some ad → ad.block ≠ g) ∧ (0 < x.nb → ∀ ad,x.Ab = some ad → ad.block ≠ g)
theorem Sl.onB {w w':World} {B B' k n c:Nat} {A:Option Addr} {xs:List Value} (h:Sl w B k A n c xs) (hk:0 < n → ∀ ad,A = some ad → ad.block < B → w'.heap[ad.block]? = w.heap[ad.block]? ∧ ad.block < B'):Sl w' B' k A n c xs:=
 ⟨⟨h.lst.len,fun hn => by
  obtain ⟨ad,e,hb,hc⟩:=h.lst.at_ hn
  obtain ⟨h1,h2⟩:=hk hn ad e hb
  exact ⟨ad,e,h2,fun j u hu => (World.cell?_of_block (by rw [add_block]; exact h1)).trans (hc j u hu)⟩⟩,h.cap,h.max,h.nil⟩
theorem Sl.onK {S:Nat → Prop} {w w':World} {k n c:Nat} {A:Option Addr} {xs:List Value} (h:Sl w w.heap.size k A n c xs) (hk:Kept S w w') (ho:0 < n → ∀ ad,A = some ad → ¬ S ad.block):Sl w' w'.heap.size k A n c xs:=
 h.onB fun hn ad e hb => ⟨hk.block _ hb (ho hn ad e),Nat.lt_of_lt_of_le hb hk.size⟩
theorem Bx.ok.kept {S:Nat → Prop} {w w':World} {x:Bx} (h:x.ok w) (hk:Kept S w w') (ho:∀ g,S g → x.off g):x.ok w':=
 ⟨h.hl,h.hn,h.hs.onK hk (fun hn ad e hS => (ho _ hS).1 hn ad e rfl),h.bl,h.bs.onK hk (fun hn ad e hS => (ho _ hS).2 hn ad e rfl)⟩
theorem Bx.ok.below {w w':World} {x:Bx} (h:x.ok w) (hb:Below w.heap.size w w'):x.ok w':=⟨h.hl,h.hn,h.hs.up hb,h.bl,h.bs.up hb⟩
theorem Sl.off_new {w:World} {B k n c:Nat} {A:Option Addr} {xs:List Value} (h:Sl w B k A n c xs) (hn:0 < n) {ad:Addr} (e:A = some ad):ad.block < B:=by
 obtain ⟨ad',e',hb,_⟩:=h.lst.at_ hn
 rw [e] at e'; simp only [Option.some.injEq] at e'; subst e'; exact hb
theorem Bx.ok.off_new {w:World} {x:Bx} (h:x.ok w) {g:Nat} (hg:w.heap.size ≤ g):x.off g:=
 ⟨fun hn ad e => by have:=h.hs.off_new hn e; omega,fun hn ad e => by have:=h.bs.off_new hn e; omega⟩
theorem infoIq : (Tryz.prog.info? 3).map (fun i => (i.zero, i.size, i.bytes)) = some (some (.int .i64 0), 1, 8) := by kernel_rfl
theorem ints_oneq (l : List Int) : ∀ u ∈ l.map (Value.int .i64), u.oneCell' = true := by
  intro u hu
  obtain ⟨x, _, rfl⟩ := List.mem_map.1 hu
  rfl
set_option maxRecDepth 100000 in
theorem growIq (n : Nat) (w : World) (hn : n ≤ 1000000) :
    Calls Tryz.prog 165 #[.slice none 0 0, .int .i64 n] w fun e w' => ∃ v, e = .returned v ∧ w'.ownsRow w.heap.size 3 1 v 0 [] ∧ Below w.heap.size w w' := by
  obtain ⟨i0, hi0, hz0, hz1, hz2⟩ := info_parts infoIq
  by_cases h0 : n = 0
  · subst h0
    go_enter Tryz.func165, Tryz.ntmps165
    go_wp2
    go_ret
    exact ⟨_, rfl, World.ownsRow_nil _ _ _ _, Below.refl _ _⟩
  · have hp : 0 < n := by omega
    have hpi : (0 : Int) < (n : Int) := by omega
    go_enter Tryz.func165, Tryz.ntmps165
    go_wp2_with (first
      | (at_builtin
         refine wpList_append_made rfl (.tmp 20) (.tmp 21) 44 3 rfl 3 i0 _ 1 Tryz.underlying44 Tryz.underlying3 hi0 hz0 hz1 rfl n rfl rfl hp (by decide) (by omega) (by rw [hz2]; omega) ?_
         intro c1 w1 hown hB hc1))
    go_ret
    exact ⟨_, rfl, hown, hB⟩
def catIq (d : Nat → List Int) : Nat → List Int
  | 0 => []
  | k + 1 => catIq d k ++ d k
theorem catIq_le (d : Nat → List Int) : ∀ {k m : Nat}, k ≤ m → (catIq d k).length ≤ (catIq d m).length
  | k, 0, h => by
    obtain rfl : k = 0 := by omega
    exact Nat.le_refl _
  | k, m + 1, h => by
    by_cases e : k = m + 1
    · subst e; exact Nat.le_refl _
    · have := catIq_le d (k := k) (m := m) (by omega)
      simp only [catIq, List.length_append]
      omega
set_option maxHeartbeats 1000000 in
set_option maxRecDepth 100000 in
theorem concatIq (gO m cO : Nat) (A : Nat → Option Addr) (n c : Nat → Nat) (d : Nat → List Int) (w : World) (hm : m ≤ 1000) (hd : ∀ k, k < m → (d k).length = n k) (hn : (catIq d m).length ≤ 1000000) (hO : ∀ k, k < m → w.cell? ⟨gO, k, none⟩ = some (.slice (A k) (n k) (c k))) (h : ∀ k, k < m → Sl w w.heap.size 1 (A k) (n k) (c k) (List.map (Value.int .i64) (d k))) :
    Calls Tryz.prog 124 #[.slice (some ⟨gO, 0, none⟩) m cO] w fun e w' => ∃ v, e = .returned v ∧ w'.ownsRow w.heap.size 3 1 v (catIq d m).length (List.map (Value.int .i64) (catIq d m)) ∧ Below w.heap.size w w' := by
  obtain ⟨i0, hi0, hz0, hz1, hz2⟩ := info_parts infoIq
  have HO := Lib.hid hO
  have HD := Lib.hid hd
  clear hO hd
  go_enter Tryz.func124, Tryz.ntmps124
  go_wp2
  go_loop [3, 11] (fun s i => ∃ k : Nat, k ≤ m ∧ i = .int .i64 k ∧ s = .int .i64 (catIq d k).length) (fun _ i => m - (intOf i).toNat)
  case atStart => exact ⟨0, by omega, rfl, rfl⟩
  case round =>
    obtain ⟨k, hk, rfl, rfl⟩ := hrel
    have hle := catIq_le d hk
    by_cases hkm : k < m
    · have hle2 := catIq_le d (k := k + 1) (m := m) (by omega)
      have hO := HO.out k hkm
      have hlk : (catIq d (k + 1)).length = (catIq d k).length + n k := by simp only [catIq, List.length_append, HD.out k hkm]
      have HLK := Lib.hid hlk
      have hnk : n k ≤ 1000000 := by omega
      generalize hL : (catIq d k).length = L at *
      have HL := Lib.hid hL
      clear hlk hL
      go_wp2
      go_round
      case rel => exact ⟨k + 1, by omega, by go_num, by rw [HLK.out]; go_num⟩
      case measure => simp [intOf]; omega
    · obtain rfl : k = m := by omega
      generalize hL : (catIq d k).length = L at *
      have HL := Lib.hid hL
      clear hL
      go_wp2_with fail
      refine (growIq L w (by omega)).mono ?_
      rintro e w1 ⟨v, rfl, hown, hB⟩
      obtain ⟨A1, c1, rfl⟩ := slice_of_own hown
      go_wp2
      go_loopw [6, 27] (fun vv i wr => ∃ (q : Nat), q ≤ k ∧ i = .int .i64 q ∧ Below w.heap.size w wr ∧ wr.ownsRow w.heap.size 3 1 vv (catIq d q).length (List.map (Value.int .i64) (catIq d q))) (fun _ i _ => k - (intOf i).toNat)
      case atStart => exact ⟨0, by omega, rfl, hB, hown⟩
      case round =>
        clear hown hB
        rename Value => v0
        obtain ⟨q, hq, rfl, hB, hown⟩ := hrel
        have hle := catIq_le d hq
        by_cases hqk : q < k
        · have hO : _ := HO.out q hqk
          have hOw : ∀ wx, Below w.heap.size w wx → wx.cell? ⟨gO, q, none⟩ = some (.slice (A q) (n q) (c q)) := fun wx hb => by
            rw [hb.cell (World.block_lt_of_cell? w _ hO)]; exact hO
          have hOr := hOw _ hB
          have hle2 := catIq_le d (k := q + 1) (m := k) (by omega)
          have hlk : (catIq d (q + 1)).length = (catIq d q).length + n q := by simp only [catIq, List.length_append, HD.out q hqk]
          have hnq : (catIq d q).length + n q ≤ 1000000 := by have := HL.out; omega
          have HLK := Lib.hid hlk
          have hs := (h q hqk).below hB
          clear hlk hO hOw
          obtain ⟨A2, c2, rfl⟩ := slice_of_own hown
          have hob : ∀ g, (Value.slice A2 (catIq d q).length c2).ownBlock = some g → w.heap.size ≤ g := fun g hg => (hown.lt g hg).1
          have hsB := hB.size
          generalize hLq : (catIq d q).length = Lq at *
          generalize hNq : n q = Nq at *
          generalize hAq : A q = Aq at *
          generalize hcq : c q = cq at *
          have HAll := Lib.hid (And.intro hLq (And.intro hNq (And.intro hAq hcq)))
          clear hLq hNq hAq hcq
          go_wp2_with (first
            | (at_builtin
               refine wpList_append_lst _ rfl (.tmp 31) (.tmp 32) 44 rfl w.heap.size 3 i0 _ 1 8 Tryz.underlying44 hi0 hz0 hz1 hz2 rfl (by decide) (.slice A2 Lq c2) Lq (List.map (Value.int .i64) (catIq d q)) rfl hown w.heap.size Aq Nq cq (List.map (Value.int .i64) (d q)) rfl hs.lst (ints_oneq _) (by unfold maxLen; omega) (by omega) hsB ?_
               intro v4 w4 hown4 hg4 hat4))
          have hB4 : Below w.heap.size w w4 := Below.grown hB hg4 hsB hob
          have hown5 : w4.ownsRow w.heap.size 3 1 v4 (catIq d (q + 1)).length (List.map (Value.int .i64) (catIq d (q + 1))) := by
            rw [HLK.out]
            simp only [catIq, List.map_append]
            exact hown4
          clear hown hown4 hg4 hat4 hOr hs hob hB
          go_wp2
          go_roundw
          case rel => exact ⟨q + 1, by omega, by go_num, hB4, hown5⟩
          case measure => simp [intOf]; omega
        · obtain rfl : q = k := by omega
          obtain ⟨A2, c2, rfl⟩ := slice_of_own hown
          go_wp2
          go_ret
          exact ⟨_, rfl, hown, hB⟩
structure Rh where
 A:Option Addr
 n:Nat
 c:Nat
 t:Int
def Rh.cs (r:Rh):List Value:=[.slice r.A r.n r.c,.int .i64 r.t]
def zeroRh:Rh:=⟨none,0,0,0⟩
def flatRh (d:List Rh):List Value:=d.flatMap Rh.cs
def gRh (d:List Rh) (i:Nat):Rh:=d.getD i zeroRh
theorem flatRh_cons (p:Rh) (d:List Rh):flatRh (p :: d) = .slice p.A p.n p.c :: .int .i64 p.t :: flatRh d:=rfl
theorem flatRh_length (d:List Rh):(flatRh d).length = d.length * 2:=by
 induction d with
 | nil => rfl
 | cons p d ih => rw [flatRh_cons]; simp only [List.length_cons,ih]; omega
theorem flatRh_append (d e:List Rh):flatRh (d ++ e) = flatRh d ++ flatRh e:=by simp [flatRh]
theorem flatRh_at0:∀ (d:List Rh) (i:Nat),i < d.length → (flatRh d)[i * 2]? = some (.slice (gRh d i).A (gRh d i).n (gRh d i).c)
 | p :: d,0,_ => rfl
 | p :: d,i + 1,h => by
  rw [flatRh_cons,show (i + 1) * 2 = i * 2 + 1 + 1 from by omega]
  simp only [List.getElem?_cons_succ]
  exact flatRh_at0 d i (by simpa using h)
theorem flatRh_at1:∀ (d:List Rh) (i:Nat),i < d.length → (flatRh d)[i * 2 + 1]? = some (.int .i64 (gRh d i).t)
 | p :: d,0,_ => rfl
 | p :: d,i + 1,h => by
  rw [flatRh_cons,show (i + 1) * 2 + 1 = i * 2 + 1 + 1 + 1 from by omega]
  simp only [List.getElem?_cons_succ]
  exact flatRh_at1 d i (by simpa using h)
theorem flatRh_take:∀ (d:List Rh) (n:Nat),(flatRh d).take (n * 2) = flatRh (d.take n)
 | _,0 => by simp [flatRh]
 | [],n + 1 => by simp [flatRh]
 | p :: d,n + 1 => by
  rw [flatRh_cons,show (n + 1) * 2 = n * 2 + 1 + 1 from by omega]
  simp only [List.take_succ_cons]
  rw [flatRh_take d n]
  rfl
theorem ownRh_at {w:World} {base:Nat} {t:TypeId} {g n c:Nat} {d:List Rh} (h:w.ownsRow base t 2 (.slice (some ⟨g,0,none⟩) n c) n (flatRh d)) (hd:d.length = n) {k:Nat} (hk:k < n):w.cell? ⟨g,k * 2,none⟩ = some (.slice (gRh d k).A (gRh d k).n (gRh d k).c) ∧ w.cell? ⟨g,k * 2 + 1,none⟩ = some (.int .i64 (gRh d k).t):=
 ⟨(h.cellAt (k * 2) (by omega)).trans (flatRh_at0 d k (by omega)),(h.cellAt (k * 2 + 1) (by omega)).trans (flatRh_at1 d k (by omega))⟩
theorem infoRh:(Tryz.prog.info? 31).map (fun i => (i.zero,i.size,i.bytes)) = some (some (.agg #[.slice none 0 0,.int .i64 0]),2,32):=by kernel_rfl
structure Rx where
 h:Rh
 d:List Hp
def Rx.ok (w:World) (x:Rx):Prop:=x.d.length = x.h.n ∧ x.h.n ≤ 1000000 ∧ Sl w w.heap.size 3 x.h.A x.h.n x.h.c (flatHp x.d)
def Rx.off (g:Nat) (x:Rx):Prop:=∀ ad,x.h.A = some ad → ad.block ≠ g
def zeroRx:Rx:=⟨zeroRh,[]⟩
instance inhRx:Inhabited Rx:=⟨zeroRx⟩
def gRx (l:List Rx) (i:Nat):Rx:=l.getD i zeroRx
def hdRx (l:List Rx):List Rh:=l.map Rx.h
theorem gRx_mem {d:List Rx} {i:Nat} (h:i < d.length):gRx d i ∈ d:=by
 unfold gRx; rw [List.getD_eq_getElem?_getD,List.getElem?_eq_getElem h]; simp
theorem gRx_hd {d:List Rx} {i:Nat} (h:i < d.length):gRh (hdRx d) i = (gRx d i).h:=by
 unfold gRh gRx hdRx
 rw [List.getD_eq_getElem?_getD,List.getD_eq_getElem?_getD,List.getElem?_map,List.getElem?_eq_getElem h]
 rfl
theorem Rx.ok.below {w w':World} {x:Rx} (h:x.ok w) (hb:Below w.heap.size w w'):x.ok w':=⟨h.1,h.2.1,h.2.2.up hb⟩
theorem Sl.on_ {w w':World} {B B' k n c:Nat} {A:Option Addr} {xs:List Value} (h:Sl w B k A n c xs) (hk:∀ ad,A = some ad → ad.block < B → w'.heap[ad.block]? = w.heap[ad.block]? ∧ ad.block < B'):Sl w' B' k A n c xs:=
 ⟨⟨h.lst.len,fun hn => by
  obtain ⟨ad,e,hb,hc⟩:=h.lst.at_ hn
  obtain ⟨h1,h2⟩:=hk ad e hb
  exact ⟨ad,e,h2,fun j u hu => (World.cell?_of_block (by rw [add_block]; exact h1)).trans (hc j u hu)⟩⟩,h.cap,h.max,h.nil⟩
theorem Rx.ok.kept {w w':World} {x:Rx} {g:Nat} (h:x.ok w) (hg:w.grownBy w' (some g)) (ho:x.off g):x.ok w':=
 ⟨h.1,h.2.1,h.2.2.on_ fun ad e hb => ⟨hg.block _ hb (fun e2 => ho ad e (by injection e2)),Nat.lt_of_lt_of_le hb hg.size⟩⟩
def Rx.rt (x:Rx):List Hp × Int:=(x.d,x.h.t)
def RV (w:World) (v:Value) (t:List Hp × Int):Prop:=∃ A n c,v = .agg #[.slice A n c,.int .i64 t.2] ∧ t.1.length = n ∧ n ≤ 1000000 ∧ Sl w w.heap.size 3 A n c (flatHp t.1)
def RL (w:World) (v:Value) (l:List (List Hp × Int)):Prop:=∃ A n c,∃ L:List Rx,v = .slice A n c ∧ L.length = n ∧ L.map Rx.rt = l ∧ Sl w w.heap.size 2 A n c (flatRh (hdRx L)) ∧ ∀ x ∈ L,x.ok w
theorem RV.below {w w':World} {v:Value} {t:List Hp × Int} (h:RV w v t) (hb:Below w.heap.size w w'):RV w' v t:=by
 obtain ⟨A,n,c,h1,h2,h3,h4⟩:=h
 exact ⟨A,n,c,h1,h2,h3,h4.up hb⟩
theorem RL.below {w w':World} {v:Value} {l:List (List Hp × Int)} (h:RL w v l) (hb:Below w.heap.size w w'):RL w' v l:=by
 obtain ⟨A,n,c,L,h1,h2,h3,h4,h5⟩:=h
 exact ⟨A,n,c,L,h1,h2,h3,h4.up hb,fun x hx => (h5 x hx).below hb⟩
theorem RL.nil0 (w:World):RL w (.slice none 0 0) []:=⟨none,0,0,[],rfl,rfl,rfl,Sl.nil0 _ _ _,fun x hx => by cases hx⟩
theorem RL.len {w:World} {v:Value} {l:List (List Hp × Int)} {k:Nat} (h:RL w v l) (hk:l.length = k):∃ A c,v = .slice A k c:=by
 obtain ⟨A,n,c,L,h1,h2,h3,_,_⟩:=h
 obtain rfl:n = k:=by rw [← h2,← hk,← h3,List.length_map]
 exact ⟨A,c,h1⟩
theorem RL.lit {w:World} (T:TypeId) (L:List Rx) (n:Nat) (cs:Array Value) (l:List (List Hp × Int)) (hT:T = 31) (hn:L.length = n) (hm:n ≤ 1000000) (hc:cs.toList = flatRh (hdRx L)) (hl:L.map Rx.rt = l) (hok:∀ x ∈ L,x.ok w):RL (w.alloc (.cells cs T)) (.slice (some ⟨w.heap.size,0,none⟩) n n) l:=by
 subst hT
 refine ⟨_,n,n,L,rfl,hn,hl,?_,fun x hx => (hok x hx).below ((Below.refl _ _).alloc (Nat.le_refl _) _)⟩
 have hz:cs.size = n * 2:=by rw [← Array.length_toList,hc,flatRh_length]; simp [hdRx,hn]
 have h:=Sl.of_own (own_lit w 0 31 2 n cs (Nat.zero_le _) hz (by unfold maxLen; omega))
 rw [hc] at h
 exact h
theorem RV.rx {w:World} {A:Option Addr} {n c:Nat} {x t:Int} {d:List Hp} (h:RV w (.agg #[.slice A n c,.int .i64 x]) (d,t)):(⟨⟨A,n,c,x⟩,d⟩:Rx).ok w ∧ x = t:=by
 obtain ⟨A',n',c',h1,h2,h3,h4⟩:=h
 injection h1 with h1
 simp at h1
 obtain ⟨⟨rfl,rfl,rfl⟩,rfl⟩:=h1
 exact ⟨⟨h2,h3,h4⟩,rfl⟩
theorem own_keptJ {S:Nat → Prop} {w w':World} {base:Nat} {e:TypeId} {size n:Nat} {v:Value} {xs:List Value} (h:w.ownsRow base e size v n xs) (hk:Kept S w w') (hv:∀ g,v.ownBlock = some g → ¬ S g):w'.ownsRow base e size v n xs:=by
 refine ⟨h.1,?_⟩
 rcases h.2 with hn | ⟨g,cap,cur,rfl,hb,hgg,rest⟩
 ·exact .inl hn
 ·refine .inr ⟨g,cap,cur,rfl,hb,?_,rest⟩
  rw [hk.block g (Array.getElem?_eq_some_iff.1 hgg).1 (hv g rfl)]
  exact hgg
theorem below_keptJ {S:Nat → Prop} {B:Nat} {w w1 w2:World} (hb:Below B w w1) (hB:B ≤ w.heap.size) (hk:Kept S w1 w2) (hS:∀ k,S k → B ≤ k):Below B w w2:=
 ⟨hk.os.trans hb.os,hk.tape.trans hb.tape,hk.output.trans hb.output,Nat.le_trans hb.size hk.size,fun k hkB => (hk.block k (by have:=hb.size; omega) (fun h => by have:=hS k h; omega)).trans (hb.block k hkB)⟩
theorem own_posJ {w:World} {base:Nat} {e:TypeId} {size n:Nat} {v:Value} {xs:List Value} (h:w.ownsRow base e size v n xs) (hn:0 < n):∃ g c,v = .slice (some ⟨g,0,none⟩) n c ∧ n ≤ c:=by
 rcases h.2 with ⟨rfl,rfl⟩ | ⟨g',cap,cur,rfl,_,_,hc,_⟩
 ·omega
 ·exact ⟨_,_,rfl,hc⟩
theorem own_belowK {w w':World} {base:Nat} {e:TypeId} {size n:Nat} {v:Value} {xs:List Value} (h:w.ownsRow base e size v n xs) (hb:Below w.heap.size w w'):w'.ownsRow base e size v n xs:=
 own_keptJ h (S:=fun _ => False) (Kept.of_below hb) (fun _ _ f => f)
theorem Sl.keptJ {S:Nat → Prop} {w w':World} {k n c:Nat} {A:Option Addr} {xs:List Value} (h:Sl w w.heap.size k A n c xs) (hk:Kept S w w') (ho:0 < n → ∀ ad,A = some ad → ¬ S ad.block):Sl w' w'.heap.size k A n c xs:=
 ⟨⟨h.lst.len,fun hn => by
  obtain ⟨ad,e,hb,hc⟩:=h.lst.at_ hn
  exact ⟨ad,e,Nat.lt_of_lt_of_le hb hk.size,fun j u hu => (World.cell?_of_block (by rw [add_block]; exact hk.block _ hb (ho hn ad e))).trans (hc j u hu)⟩⟩,h.cap,h.max,h.nil⟩
theorem Sl.off_newJ {w:World} {B k n c:Nat} {A:Option Addr} {xs:List Value} (h:Sl w B k A n c xs) (hn:0 < n) {ad:Addr} (e:A = some ad):ad.block < B:=by
 obtain ⟨ad',e',hb,_⟩:=h.lst.at_ hn
 rw [e] at e'; simp only [Option.some.injEq] at e'; subst e'; exact hb
end Go.Proofs.YtodcoockhkghdaaGreat
