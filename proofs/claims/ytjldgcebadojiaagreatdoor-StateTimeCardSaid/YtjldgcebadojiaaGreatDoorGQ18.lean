/- Several texts of mine in one: Parse, DWords. No condition. -/
import Derived.Test.YtjldgcebadojiaaGreatDoorChecked
import Derived.Test.YtjldgcebadojiaaGreatDoorGQ0
import Derived.Laws.RangeAny
import Derived.Test.YtjldgcebadojiaaGreatDoorGQ21
import Derived.Test.YtjldgcebadojiaaGreatDoorGQ5
namespace Go.Proofs.YtjldgcebadojiaaGreatDoor
open Go.ChangeShapes Go.WideShapes Go.ChangeAt Go.RowKit Go.Sort
set_option linter.unusedSimpArgs false
set_option linter.unusedVariables false

def dfold:Int → List UInt8 → Option Int
 | n,[] => some n
 | n,c :: r => if 48 ≤ c.toNat ∧ c.toNat ≤ 57 ∧ n ≤ (9223372036854775807 - ((c.toNat:Int) - 48)) / 10 then dfold (n * 10 + ((c.toNat:Int) - 48)) r else none
def lead (l:List UInt8):Bool:=l.isEmpty || (decide (1 < l.length) && l.head? == some 48)
def parseF (l:List UInt8) (high:Int):Option Int:=
 if lead l = true then none else match dfold 0 l with
  | some n => if n ≤ high then some n else none
  | none => none

theorem dfold_drop {s:ByteArray} {pos:Nat} (h:pos < s.size) (n:Int) :
  dfold n (s.data.toList.drop pos) = if 48 ≤ (s[pos]'h).toNat ∧ (s[pos]'h).toNat ≤ 57 ∧ n ≤ (9223372036854775807 - (((s[pos]'h).toNat:Int) - 48)) / 10 then dfold (n * 10 + (((s[pos]'h).toNat:Int) - 48)) (s.data.toList.drop (pos + 1)) else none:=by
 have h':pos < s.data.toList.length:=by simpa using h
 rw [List.drop_eq_getElem_cons h']
 rfl

def numV (p:Option Int):Value:=match p with
 | some n => .tuple #[.int .i64 n,.bool true]
 | none => .tuple #[.int .i64 0,.bool false]
theorem ret_num_none {p:Option Int} (h:p = none):Ending.returned (.tuple #[.int .i64 0,.bool false]) = .returned (numV p):=by rw [h]; rfl
theorem ret_num_some {p:Option Int} {n:Int} (h:p = some n):Ending.returned (.tuple #[.int .i64 n,.bool true]) = .returned (numV p):=by rw [h]; rfl

theorem below_iter (w:World) (s:ByteArray) (pos:Nat):Below w.heap.size w (w.iter s pos):=(Below.refl _ _).alloc (Nat.le_refl _) _

theorem lead_cases (s:ByteArray):((s.toList).isEmpty = true ∧ lead s.data.toList = true) ∨ ((s.toList).isEmpty = false ∧ ∃ h:0 < s.size,((1:Int) < (s.size:Int) ∧ ((((s[0]'h).toNat:Int) == 48) = true) ∧ lead s.data.toList = true ∨
  (¬ (1:Int) < (s.size:Int) ∨ (1:Int) < (s.size:Int) ∧ ((((s[0]'h).toNat:Int) == 48) = false)) ∧ lead s.data.toList = false)):=by
 have e:s.toList = s.data.toList:=by
  rw [ByteArray.toList_eq]
 have hz:s.size = s.data.toList.length:=by simp
 cases hl:s.data.toList with
 | nil => exact .inl ⟨by rw [e,hl]; rfl,by rfl⟩
 | cons c r =>
  have h:0 < s.size:=by rw [hz,hl]; simp
  have hc:s[0]'h = c:=by
   have:s.data.toList[0]'(by rw [← hz]; exact h) = c:=by simp [hl]
   rw [← this]
   rfl
  refine .inr ⟨by rw [e,hl]; rfl,h,?_⟩
  rw [hc,hz,hl]
  by_cases h1:(1:Int) < ((c :: r).length:Int)
  ·by_cases h2:c = 48
   ·refine .inl ⟨h1,by rw [h2]; rfl,?_⟩
    have:1 < (c :: r).length:=by omega
    simp [lead,h2] at this ⊢
    exact this
   ·refine .inr ⟨.inr ⟨h1,?_⟩,?_⟩
    ·rw [beq_eq_false_iff_ne]
     intro h3
     apply h2
     apply UInt8.toNat_inj.1
     exact Int.ofNat_inj.1 h3
    ·simp [lead,h2]
  ·refine .inr ⟨.inl h1,?_⟩
   have:(c :: r).length ≤ 1:=by omega
   simp [lead] at this ⊢
   intro h3
   rw [this] at h3
   simp at h3

set_option maxHeartbeats 1000000 in
set_option maxRecDepth 100000 in
theorem parse_any (s:ByteArray) (high:Int) (hs:s.size ≤ maxLen) (w:World) :
  Calls Tryz.prog 177 #[.string s,.int .i64 high] w fun e w' => e = .returned (numV (parseF s.data.toList high)) ∧ Below w.heap.size w w':=by
 unfold maxLen at hs
 rcases lead_cases s with ⟨h0,hl⟩ | ⟨h0,hp,⟨h1,h2,hl⟩ | ⟨hc,hl⟩⟩
 ·have HP:=Lib.hid (show parseF s.data.toList high = none by unfold parseF; rw [if_pos hl])
  clear hl
  go_enter Tryz.func177,Tryz.ntmps177
  go_wp2
  go_ret2
  exact ⟨ret_num_none HP.out,Below.refl _ _⟩
 ·have HP:=Lib.hid (show parseF s.data.toList high = none by unfold parseF; rw [if_pos hl])
  clear hl
  go_enter Tryz.func177,Tryz.ntmps177
  go_wp2
  go_ret2
  exact ⟨ret_num_none HP.out,Below.refl _ _⟩
 ·have HP:=Lib.hid (show parseF s.data.toList high = match dfold 0 s.data.toList with | some n => if n ≤ high then some n else none | none => none by unfold parseF; rw [if_neg (by rw [hl]; exact Bool.false_ne_true)])
  clear hl
  rcases hc with hc | ⟨hc1,hc2⟩
  all_goals
   go_enter Tryz.func177,Tryz.ntmps177
   go_wp2
   go_loopw [6] (fun v w' => ∃ (pos:Nat) (n:Int),w' = w.iter s pos ∧ v = .int .i64 n ∧ 0 ≤ n ∧ n ≤ 9223372036854775807 ∧ dfold 0 s.data.toList = dfold n (s.data.toList.drop pos)) (fun _ w' => s.size - w'.iterPos w.heap.size)
   case atStart => exact ⟨0,0,rfl,rfl,by omega,by omega,rfl⟩
   case round =>
    obtain ⟨pos,n,rfl,rfl,hn0,hn1,hd⟩:=hrel
    have HD:=Lib.hid hd
    clear hd
    by_cases hp:pos < s.size
    ·have hstep:=Lib.hid (dfold_drop hp n)
     obtain ⟨c,hc⟩:∃ c:Nat,(s[pos]'hp).toNat = c:=⟨_,rfl⟩
     have hstep2:=hstep.out
     rw [hc] at hstep2
     have HS:=Lib.hid hstep2
     clear hstep hstep2
     by_cases ha:c < 128
     ·have hnx:∀ ty,(Instr.next (.pointer (some ⟨w.heap.size,0,none⟩)) true ty).run Tryz.prog (w.iter s pos) = _:=fun ty => run_next_ascii w s pos ty hp (by rw [hc]; exact ha)
      rw [hc] at hnx
      clear hc
      by_cases hd1:48 ≤ c
      ·by_cases hd2:c ≤ 57
       ·by_cases hm:n ≤ (9223372036854775807 - ((c:Int) - 48)) / 10
        ·have HE:=Lib.hid (HS.out.trans (if_pos ⟨hd1,hd2,hm⟩))
         clear HS
         go_wp2
         go_roundw
         case rel => exact ⟨pos + 1,n * 10 + ((c:Int) - 48),rfl,by first | rfl | go_num,by omega,by omega,HD.out.trans HE.out⟩
         case measure => simp; omega
        ·have HE:=Lib.hid (HS.out.trans (if_neg (fun h => hm h.2.2)))
         clear HS
         go_wp2
         go_ret2
         exact ⟨ret_num_none (by rw [HP.out,HD.out,HE.out]),below_iter _ _ _⟩
       ·have HE:=Lib.hid (HS.out.trans (if_neg (fun h => hd2 h.2.1)))
        clear HS
        go_wp2
        go_ret2
        exact ⟨ret_num_none (by rw [HP.out,HD.out,HE.out]),below_iter _ _ _⟩
      ·have HE:=Lib.hid (HS.out.trans (if_neg (fun h => hd1 h.1)))
       clear HS
       go_wp2
       go_ret2
       exact ⟨ret_num_none (by rw [HP.out,HD.out,HE.out]),below_iter _ _ _⟩
     ·have HE:=Lib.hid (HS.out.trans (if_neg (fun h => by omega)))
      have hh:=decode_high s pos hp (by omega)
      have hle:=decode_le s pos
      have hnx:∀ ty,(Instr.next (.pointer (some ⟨w.heap.size,0,none⟩)) true ty).run Tryz.prog (w.iter s pos) = _:=fun ty => run_next_any w s pos ty hp
      obtain ⟨v,hv⟩:∃ v,(Utf8.decode s pos).1 = v:=⟨_,rfl⟩
      obtain ⟨u,hu⟩:∃ u,(Utf8.decode s pos).2 = u:=⟨_,rfl⟩
      rw [hv] at hh hle
      simp only [hv,hu] at hnx
      obtain ⟨hh1,_⟩:=hh
      clear HS hv hu hc
      go_wp2
      go_ret2
      exact ⟨ret_num_none (by rw [HP.out,HD.out,HE.out]),below_iter _ _ _⟩
    ·have hnx:∀ ty,(Instr.next (.pointer (some ⟨w.heap.size,0,none⟩)) true ty).run Tryz.prog (w.iter s pos) = _:=fun ty => run_next_end w s pos ty hp
     have HE:=Lib.hid (show dfold 0 s.data.toList = some n by rw [HD.out,List.drop_eq_nil_of_le (by simp; omega)]; rfl)
     by_cases hh:n ≤ high
     ·go_wp2
      go_ret2
      exact ⟨ret_num_some (by rw [HP.out,HE.out]; exact if_pos hh),below_iter _ _ _⟩
     ·go_wp2
      go_ret2
      exact ⟨ret_num_none (by rw [HP.out,HE.out]; exact if_neg (by omega)),below_iter _ _ _⟩
def opW:List Bytes:=[[],[97],[100],[99]]
def kdW:List Bytes:=[[],[99,111,110,116,97,99,116],[114,97,110,103,101]]
theorem opw_any (w:World):Calls Tryz.prog 107 #[] w fun e w' => e = .returned (.slice (some ⟨w.heap.size,0,none⟩) 4 4) ∧ Sl w' w'.heap.size 1 (some ⟨w.heap.size,0,none⟩) 4 4 (vs opW) ∧ Below w.heap.size w w':=by
 have ho:=own_lit w w.heap.size 9 1 4 #[.string (bs []),.string (bs [97]),.string (bs [100]),.string (bs [99])] (Nat.le_refl _) rfl (by simp [maxLen])
 have hB:Below w.heap.size w (w.alloc (.cells #[.string (bs []),.string (bs [97]),.string (bs [100]),.string (bs [99])] 9)):=by (repeat (first | exact Below.refl _ _ | refine Below.alloc ?_ (by first | omega | (simp; done) | (simp; omega)) _ | refine Below.setCell ?_ (by first | omega | (simp; done) | (simp; omega)) _ | refine Below.drew ?_))
 go_enter Tryz.func107,Tryz.ntmps107
 go_wp2_with fail
 go_ret
 exact ⟨rfl,Sl.of_own ho,hB⟩
theorem kdw_any (w:World):Calls Tryz.prog 108 #[] w fun e w' => e = .returned (.slice (some ⟨w.heap.size,0,none⟩) 3 3) ∧ Sl w' w'.heap.size 1 (some ⟨w.heap.size,0,none⟩) 3 3 (vs kdW) ∧ Below w.heap.size w w':=by
 have ho:=own_lit w w.heap.size 9 1 3 #[.string (bs []),.string (bs [99,111,110,116,97,99,116]),.string (bs [114,97,110,103,101])] (Nat.le_refl _) rfl (by simp [maxLen])
 have hB:Below w.heap.size w (w.alloc (.cells #[.string (bs []),.string (bs [99,111,110,116,97,99,116]),.string (bs [114,97,110,103,101])] 9)):=by (repeat (first | exact Below.refl _ _ | refine Below.alloc ?_ (by first | omega | (simp; done) | (simp; omega)) _ | refine Below.setCell ?_ (by first | omega | (simp; done) | (simp; omega)) _ | refine Below.drew ?_))
 go_enter Tryz.func108,Tryz.ntmps108
 go_wp2_with fail
 go_ret
 exact ⟨rfl,Sl.of_own ho,hB⟩
def placeF (d:List Bytes) (x:Bytes):Int:=match (List.range d.length).find? (fun i => decide (1 ≤ i) && decide (gS d i = x)) with
 | some i => (i:Int)
 | none => 0
theorem place_at {d:List Bytes} {x:Bytes} {i:Nat} (h1:1 ≤ i) (hi:i < d.length) (hx:gS d i = x) (hn:∀ j,1 ≤ j → j < i → gS d j ≠ x):placeF d x = (i:Int):=by
 unfold placeF
 have h:(List.range d.length).find? (fun i => decide (1 ≤ i) && decide (gS d i = x)) = some i:=by
  rw [List.find?_eq_some_iff_getElem]
  refine ⟨by simp [h1,hx],i,by simpa using hi,by simp,fun j hj => ?_⟩
  simp only [List.getElem_range,Bool.not_eq_true',Bool.and_eq_false_iff,decide_eq_false_iff_not]
  by_cases hj1:1 ≤ j
  ·exact .inr (hn j hj1 hj)
  ·exact .inl hj1
 rw [h]
theorem place_none {d:List Bytes} {x:Bytes} (hn:∀ j,1 ≤ j → j < d.length → gS d j ≠ x):placeF d x = 0:=by
 unfold placeF
 have h:(List.range d.length).find? (fun i => decide (1 ≤ i) && decide (gS d i = x)) = none:=by
  rw [List.find?_eq_none]
  intro j hj
  have hj':=List.mem_range.1 hj
  simp only [Bool.and_eq_true,decide_eq_true_eq,not_and]
  intro h1
  exact hn j h1 hj'
 rw [h]
def opF (x:Bytes):Int:=if x = [97] then 1 else if x = [100] then 2 else if x = [99] then 3 else 0
def kdF (x:Bytes):Int:=if x = [99,111,110,116,97,99,116] then 1 else if x = [114,97,110,103,101] then 2 else 0
theorem place_op (x:Bytes):placeF opW x = opF x:=by
 unfold opF
 split
 ·rename_i h; subst h
  exact place_at (i:=1) (by omega) (by decide) rfl (fun j h1 h2 => by omega)
 ·rename_i h1
  split
  ·rename_i h; subst h
   refine place_at (i:=2) (by omega) (by decide) rfl ?_
   intro j h1 h2
   obtain rfl:j = 1:=by omega
   decide
  ·rename_i h2
   split
   ·rename_i h; subst h
    refine place_at (i:=3) (by omega) (by decide) rfl ?_
    intro j h1 h2
    have hj:j = 1 ∨ j = 2:=by omega
    rcases hj with rfl | rfl <;> decide
   ·rename_i h3
    refine place_none fun j hj1 hj2 => ?_
    have hj:j = 1 ∨ j = 2 ∨ j = 3:=by
     have:opW.length = 4:=rfl
     omega
    rcases hj with rfl | rfl | rfl
    ·exact fun e => h1 e.symm
    ·exact fun e => h2 e.symm
    ·exact fun e => h3 e.symm
theorem place_kd (x:Bytes):placeF kdW x = kdF x:=by
 unfold kdF
 split
 ·rename_i h; subst h
  exact place_at (i:=1) (by omega) (by decide) rfl (fun j h1 h2 => by omega)
 ·rename_i h1
  split
  ·rename_i h; subst h
   refine place_at (i:=2) (by omega) (by decide) rfl ?_
   intro j h1 h2
   obtain rfl:j = 1:=by omega
   decide
  ·rename_i h2
   refine place_none fun j hj1 hj2 => ?_
   have hj:j = 1 ∨ j = 2:=by
    have:kdW.length = 3:=rfl
    omega
   rcases hj with rfl | rfl
   ·exact fun e => h1 e.symm
   ·exact fun e => h2 e.symm
set_option maxHeartbeats 1000000 in
set_option maxRecDepth 100000 in
theorem place_any (A:Option Addr) (n c:Nat) (d:List Bytes) (x:Bytes) (w:World) (hd:d.length = n) (hn:n ≤ 100000) (h:Sl w w.heap.size 1 A n c (vs d)) (r:Int) (hr:placeF d x = r) :
  Calls Tryz.prog 106 #[.slice A n c,.string (bs x)] w fun e w' => e = .returned (.int .i64 r) ∧ Below w.heap.size w w':=by
 have HD:=Lib.hid hd
 have HL:=Lib.hid h
 have HR:=Lib.hid hr
 clear hd h hr
 go_enter Tryz.func106,Tryz.ntmps106
 go_wp2
 go_loopw [5] (fun iv wr => ∃ (i:Nat),iv = .int .i64 i ∧ 1 ≤ i ∧ Hid (∀ j,1 ≤ j → j < i → gS d j ≠ x) ∧ Below w.heap.size w wr) (fun iv _ => n - (intOf iv).toNat)
 case atStart => exact ⟨1,rfl,by omega,fun j h1 h2 => by omega,Below.refl _ _⟩
 case round =>
  obtain ⟨i,rfl,hi1,HN,hB⟩:=hrel
  by_cases hin:i < n
  ·obtain ⟨ad,rfl,hab,c0⟩:=(HL.out.below hB).lst.atS HD.out hin
   have hin2:(i:Int) < (n:Int):=by omega
   by_cases he:gS d i = x
   ·rw [he] at c0
    have HE:=Lib.hid he
    clear he
    go_wp2_with fail
    go_ret
    exact ⟨by rw [← HR.out,place_at hi1 (by rw [HD.out]; exact hin) HE.out HN.out]; rfl,hB⟩
   ·have hsb:((bs (gS d i)).toList == (bs x).toList) = false:=by
     rw [beq_eq_false_iff_ne]
     intro e
     exact he ((str_ne _ _).1 e)
    have HN2:Hid (∀ j,1 ≤ j → j < i + 1 → gS d j ≠ x):=fun j h1 h2 => by
     rcases Nat.lt_or_ge j i with h3 | h3
     ·exact HN.out j h1 h3
     ·have:j = i:=by omega
      rw [this]; exact he
    clear he
    generalize bs (gS d i) = s1 at *
    go_wp2_with fail
    go_roundw
    case rel => exact ⟨i + 1,by go_num,by omega,HN2,hB⟩
    case measure => simp [intOf]; omega
  ·have hin2:¬ (i:Int) < (n:Int):=by omega
   go_wp2_with fail
   go_ret
   exact ⟨by rw [← HR.out,place_none (fun j h1 h2 => HN.out j h1 (by rw [HD.out] at h2; omega))]; rfl,hB⟩
theorem infoI04:(Tryz.prog.info? 3).map (fun i => (i.zero,i.size,i.bytes)) = some (some (.int .i64 0),1,8):=by kernel_rfl
theorem ints_app04 (a:List Int) (x:Int):(a ++ [x]).map (Value.int .i64) = a.map (Value.int .i64) ++ [.int .i64 x]:=by simp
def numsF (d:List Bytes):Option (List Int):=d.mapM (fun x => parseF x 2147483647)
theorem mapM_snoc {α β:Type} (f:α → Option β):∀ (l:List α) (x:α),(l ++ [x]).mapM f = (l.mapM f).bind fun a => (f x).map fun b => a ++ [b]
 | [],x => by cases h:f x <;> simp [h]
 | y :: l,x => by
  rw [List.cons_append,List.mapM_cons,List.mapM_cons,mapM_snoc f l x]
  cases f y <;> simp
  cases l.mapM f <;> simp
  cases f x <;> simp
theorem mapM_stop {α β:Type} (f:α → Option β):∀ (l:List α) (x:α),x ∈ l → f x = none → l.mapM f = none
 | [],_,h,_ => by cases h
 | y :: l,x,h,hx => by
  rw [List.mapM_cons]
  rcases List.mem_cons.1 h with rfl | h
  ·simp [hx]
  ·rw [mapM_stop f l x h hx]
   cases f y <;> simp
theorem numsF_len:∀ {d:List Bytes} {ns:List Int},numsF d = some ns → ns.length = d.length
 | [],ns,h => by simp [numsF] at h; subst h; rfl
 | x :: d,ns,h => by
  unfold numsF at h
  rw [List.mapM_cons] at h
  cases h1:parseF x 2147483647 with
  | none => rw [h1] at h; simp at h
  | some a =>
   rw [h1] at h
   cases h2:d.mapM (fun x => parseF x 2147483647) with
   | none => rw [h2] at h; simp at h
   | some b =>
    rw [h2] at h
    simp at h
    subst h
    have:=numsF_len (d:=d) (ns:=b) h2
    simp [this]
theorem numV_some (n:Int):numV (some n) = .tuple #[.int .i64 n,.bool true]:=rfl
theorem numV_none:numV none = .tuple #[.int .i64 0,.bool false]:=rfl
def NumsRet (base:Nat) (d:List Bytes) (w:World) (e:Ending) (w':World):Prop:=
 match numsF d with
 | some ns => ∃ v,e = .returned (.tuple #[v,.bool true]) ∧ w'.ownsRow base 3 1 v d.length (ns.map (Value.int .i64)) ∧ Below w.heap.size w w'
 | none => e = .returned (.tuple #[.slice none 0 0,.bool false]) ∧ Below w.heap.size w w'
set_option maxHeartbeats 1000000 in
set_option maxRecDepth 100000 in
theorem nums_any (A:Option Addr) (n c:Nat) (d:List Bytes) (w:World) (hd:d.length = n) (hn:n ≤ 100000) (hs:∀ x ∈ d,x.length ≤ maxLen) (h:Sl w w.heap.size 1 A n c (vs d)) :
  Calls Tryz.prog 110 #[.slice A n c] w (NumsRet w.heap.size d w):=by
 obtain ⟨i0,hi0,hz0,hz1,hz2⟩:=info_parts infoI04
 have HD:=Lib.hid hd
 have HL:=Lib.hid h
 have HS:=Lib.hid hs
 clear hd h hs
 go_enter Tryz.func110,Tryz.ntmps110
 go_wp2
 go_loopw [4,11] (fun ev iv wr => ∃ (i:Nat) (ns:List Int),iv = .int .i64 i ∧ i ≤ n ∧ Hid (numsF (d.take i) = some ns) ∧ Hid (ns.length = i) ∧ wr.ownsRow w.heap.size 3 1 ev i (ns.map (Value.int .i64)) ∧ Below w.heap.size w wr) (fun _ iv _ => n - (intOf iv).toNat)
 case atStart => exact ⟨0,[],rfl,by omega,rfl,rfl,World.ownsRow_nil _ _ _ _,Below.refl _ _⟩
 case round =>
  obtain ⟨i,ns,rfl,hi,HF,HLN,hown,hB⟩:=hrel
  have hsz:=hB.size
  obtain ⟨Ae,ce,rfl⟩:=slice_of_own hown
  by_cases hin:i < n
  ·obtain ⟨ad,rfl,hab,c0⟩:=(HL.out.below hB).lst.atS HD.out hin
   have hin2:(i:Int) < (n:Int):=by omega
   obtain ⟨x,hx⟩:∃ x,gS d i = x:=⟨_,rfl⟩
   rw [hx] at c0
   have hxl:x.length ≤ maxLen:=by
    rw [← hx,gS_eq (by rw [HD.out]; exact hin)]
    exact HS.out _ (List.getElem_mem _)
   have hsx:(bs x).size ≤ maxLen:=by rw [bs_size]; exact hxl
   have hnx:=take_nextS (l:=d) (k:=i) (by rw [HD.out]; exact hin)
   rw [hx] at hnx
   have HNX:=Lib.hid hnx
   have HSX:=Lib.hid hsx
   clear hnx hsx hxl hx
   go_wp2_with fail
   clear c0
   obtain ⟨q,hq⟩:∃ q,parseF x 2147483647 = q:=⟨_,rfl⟩
   refine (parse_any (bs x) 2147483647 HSX.out wr).mono ?_
   rw [bs_list,hq]
   have HQ:=Lib.hid hq
   clear hq
   rintro e w2 ⟨rfl,hb⟩
   replace hown:=own_below hown hb
   replace hB:=hB.trans (hb.mono hsz)
   replace hsz:=hB.size
   clear hb
   cases q with
   | none =>
    rw [numV_none]
    have hnone:numsF d = none:=mapM_stop _ d x (by
     have:x ∈ d.take (i + 1):=by rw [HNX.out]; simp
     exact List.mem_of_mem_take this) HQ.out
    have HNO:=Lib.hid hnone
    clear hnone
    go_wp2_with fail
    go_ret2
    show NumsRet _ _ _ _ _
    unfold NumsRet
    rw [HNO.out]
    exact ⟨rfl,hB⟩
   | some m =>
    rw [numV_some]
    have hf2:numsF (d.take (i + 1)) = some (ns ++ [m]):=by
     rw [HNX.out]
     unfold numsF
     rw [mapM_snoc]
     have:=HF.out
     unfold numsF at this
     rw [this]
     simp [HQ.out]
    have HF2:=Lib.hid hf2
    clear hf2
    go_wp2_with (first | (at_builtin; refine wpList_append_own _ rfl _ _ 39 rfl w.heap.size 3 i0 _ 1 8 Tryz.underlying39 hi0 hz0 hz1 hz2 rfl (by decide) _ _ _ rfl (hown.alloc _) ⟨w2.heap.size,0,none⟩ 1 1 [.int .i64 m] rfl rfl (by exact lit_cells w2 #[.int .i64 m] _ _ rfl) (by simp [Value.oneCell']) (by unfold maxLen; omega) (by omega) (by simp; omega) ?_; intro v' w3 hown' hgrow3 hnil3))
    have hbN:Below w.heap.size w w3:=(hB.alloc hsz _).grown hgrow3 (by simp; omega) (fun q hq => (hown.lt q hq).1)
    clear hgrow3 hnil3
    go_wp2_with fail
    go_roundw
    case rel => exact ⟨i + 1,ns ++ [m],by go_num,by omega,HF2,by simp [Hid,HLN.out],(by rw [ints_app04]; exact hown'),hbN⟩
    case measure => simp [intOf]; omega
  ·obtain rfl:i = n:=by omega
   have hf:=HF.out
   rw [List.take_of_length_le (by rw [HD.out]; omega)] at hf
   have HF2:=Lib.hid hf
   have HOWN:=Lib.hid hown
   clear hown hf
   go_wp2_with fail
   go_ret2
   show NumsRet _ _ _ _ _
   unfold NumsRet
   rw [HF2.out]
   exact ⟨_,rfl,by rw [HD.out]; exact HOWN.out,hB⟩
end Go.Proofs.YtjldgcebadojiaaGreatDoor
