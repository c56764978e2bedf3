/- Several texts of mine in one: Arr3, TyBk, SlBk. No condition. -/
import Derived.Test.YtjldgcebadojiaaGreatDoorChecked
import Derived.Test.YtjldgcebadojiaaGreatDoorGQ8
import Derived.ChangeKeysEq
namespace Go.Proofs.YtjldgcebadojiaaGreatDoor
open Go.ChangeShapes Go.WideShapes Go.ChangeAt Go.RowKit Go.Sort
set_option linter.unusedSimpArgs false
set_option linter.unusedVariables false
theorem eq3 (d:Nat) (a b c x y z:Int) (w:World):(Op.equalIn (d + 1 + 1) 48 (.agg #[.int .i64 a,.int .i64 b,.int .i64 c]) (.agg #[.int .i64 x,.int .i64 y,.int .i64 z])).run Tryz.prog w = .ok (decide (a = x ∧ b = y ∧ c = z)) w:=by
 obtain ⟨i,hi⟩:∃ i,Tryz.prog.info? 3 = some i:=by
  cases h:Tryz.prog.info? 3 with
  | none => exact absurd h (by decide +kernel)
  | some i => exact ⟨i,rfl⟩
 have hc:Tryz.prog.cellsOf 3 = 1:=by kernel_rfl
 have u3:=Tryz.underlying3
 have a3:=Tryz.isAgg3
 have z3:=Tryz.sizeOf3
 rw [run_equalIn_array w (d + 1) _ _ Tryz.underlying48 hi,hc,show List.range 3 = [0,1,2] from rfl]
 simp only [Op.eqItems]
 go_simp
 by_cases h1:a = x <;> by_cases h2:b = y <;> by_cases h3:c = z <;> simp_all
theorem eql3 (a b c x y z:Int) (w:World):(binOp .eql 48 (.agg #[.int .i64 a,.int .i64 b,.int .i64 c]) (.agg #[.int .i64 x,.int .i64 y,.int .i64 z])).run Tryz.prog w = .ok (.bool (decide (a = x ∧ b = y ∧ c = z))) w:=by
 rw [run_eql_struct,show (10000:Nat) = 9998 + 1 + 1 from rfl,eq3]
 rfl
structure Bk where
 id:Int
 ua:Int
 ub:Int
 uc:Int
theorem Bk.ext_ {a b:Bk} (h0:a.id = b.id) (h1:a.ua = b.ua) (h2:a.ub = b.ub) (h3:a.uc = b.uc):a = b:=by cases a; cases b; simp_all
instance:DecidableEq Bk:=fun a b => if h:a.id = b.id ∧ a.ua = b.ua ∧ a.ub = b.ub ∧ a.uc = b.uc then isTrue (Bk.ext_ h.1 h.2.1 h.2.2.1 h.2.2.2) else isFalse (by rintro rfl; simp at h)
def Bk.cs (r:Bk):List Value:=[.int .i64 r.id,.int .i64 r.ua,.int .i64 r.ub,.int .i64 r.uc]
def flatBk (d:List Bk):List Value:=d.flatMap Bk.cs
def gBk (d:List Bk) (i:Nat):Bk:=d.getD i ⟨0,0,0,0⟩
theorem flatBk_cons (p:Bk) (d:List Bk):flatBk (p :: d) = .int .i64 p.id :: .int .i64 p.ua :: .int .i64 p.ub :: .int .i64 p.uc :: flatBk d:=rfl
theorem flatBk_append (d e:List Bk):flatBk (d ++ e) = flatBk d ++ flatBk e:=by simp [flatBk]
theorem flatBk_at0:∀ (d:List Bk) (i:Nat),i < d.length → (flatBk d)[i * 4]? = some (.int .i64 (gBk d i).id)
 | p :: d,0,_ => rfl
 | p :: d,i + 1,h => by
  rw [flatBk_cons,show (i + 1) * 4 = i * 4 + 1 + 1 + 1 + 1 from by omega]
  simp only [List.getElem?_cons_succ]
  exact flatBk_at0 d i (by simpa using h)
theorem flatBk_at1:∀ (d:List Bk) (i:Nat),i < d.length → (flatBk d)[i * 4 + 1]? = some (.int .i64 (gBk d i).ua)
 | p :: d,0,_ => rfl
 | p :: d,i + 1,h => by
  rw [flatBk_cons,show (i + 1) * 4 + 1 = i * 4 + 1 + 1 + 1 + 1 + 1 from by omega]
  simp only [List.getElem?_cons_succ]
  exact flatBk_at1 d i (by simpa using h)
theorem flatBk_at2:∀ (d:List Bk) (i:Nat),i < d.length → (flatBk d)[i * 4 + 2]? = some (.int .i64 (gBk d i).ub)
 | p :: d,0,_ => rfl
 | p :: d,i + 1,h => by
  rw [flatBk_cons,show (i + 1) * 4 + 2 = i * 4 + 2 + 1 + 1 + 1 + 1 from by omega]
  simp only [List.getElem?_cons_succ]
  exact flatBk_at2 d i (by simpa using h)
theorem flatBk_at3:∀ (d:List Bk) (i:Nat),i < d.length → (flatBk d)[i * 4 + 3]? = some (.int .i64 (gBk d i).uc)
 | p :: d,0,_ => rfl
 | p :: d,i + 1,h => by
  rw [flatBk_cons,show (i + 1) * 4 + 3 = i * 4 + 3 + 1 + 1 + 1 + 1 from by omega]
  simp only [List.getElem?_cons_succ]
  exact flatBk_at3 d i (by simpa using h)
theorem flatBk_set:∀ (d:List Bk) (i:Nat) (p:Bk),(((((flatBk d).set (i * 4) (.int .i64 p.id)).set (i * 4 + 1) (.int .i64 p.ua)).set (i * 4 + 2) (.int .i64 p.ub)).set (i * 4 + 3) (.int .i64 p.uc)) = flatBk (d.set i p)
 | [],i,p => by simp [flatBk]
 | q :: d,0,p => rfl
 | q :: d,i + 1,p => by
  rw [flatBk_cons]
  rw [show (i + 1) * 4 = i * 4 + 1 + 1 + 1 + 1 from by omega]
  rw [show i * 4 + 1 + 1 + 1 + 1 + 1 = i * 4 + 1 + 1 + 1 + 1 + 1 from by omega]
  rw [show i * 4 + 1 + 1 + 1 + 1 + 2 = i * 4 + 2 + 1 + 1 + 1 + 1 from by omega]
  rw [show i * 4 + 1 + 1 + 1 + 1 + 3 = i * 4 + 3 + 1 + 1 + 1 + 1 from by omega]
  simp only [List.set_cons_succ]
  rw [flatBk_set d i p]
  rfl
theorem flatBk_take:∀ (d:List Bk) (n:Nat),(flatBk d).take (n * 4) = flatBk (d.take n)
 | _,0 => by simp [flatBk]
 | [],n + 1 => by simp [flatBk]
 | p :: d,n + 1 => by
  rw [flatBk_cons,show (n + 1) * 4 = n * 4 + 1 + 1 + 1 + 1 from by omega]
  simp only [List.take_succ_cons]
  rw [flatBk_take d n]
  rfl
theorem flatBk_drop:∀ (d:List Bk) (n:Nat),(flatBk d).drop (n * 4) = flatBk (d.drop n)
 | _,0 => by simp
 | [],n + 1 => by simp [flatBk]
 | p :: d,n + 1 => by
  rw [flatBk_cons,show (n + 1) * 4 = n * 4 + 1 + 1 + 1 + 1 from by omega]
  simp only [List.drop_succ_cons]
  rw [flatBk_drop d n]
theorem flatBk_one:∀ (l:List Bk),∀ u ∈ flatBk l,u.oneCell' = true
 | [],u,h => by simp [flatBk] at h
 | p :: l,u,h => by
  rw [flatBk_cons] at h
  simp only [List.mem_cons] at h
  rcases h with rfl | rfl | rfl | rfl | h
  all_goals first | rfl | exact flatBk_one l u h
theorem rowsBk_of:∀ (n:Nat) (ns:List Int),ns.length = n * 4 → ∃ d:List Bk,d.length = n ∧ ns.map (Value.int .i64) = flatBk d
 | 0,[],_ => ⟨[],rfl,rfl⟩
 | 0,_ :: _,h => by simp at h
 | n + 1,a0 :: a1 :: a2 :: a3 :: ns,h => by
  obtain ⟨d,h1,h2⟩:=rowsBk_of n ns (by simp at h; omega)
  exact ⟨⟨a0,a1,a2,a3⟩ :: d,by simp [h1],by simp [flatBk_cons,h2]⟩
 | n + 1,[],h => by simp at h <;> omega
 | n + 1,[_],h => by simp at h <;> omega
 | n + 1,[_,_],h => by simp at h <;> omega
 | n + 1,[_,_,_],h => by simp at h <;> omega

theorem Lst.atBk {w:World} {B:Nat} {A:Option Addr} {n:Nat} {l:List Bk} (h:Lst w B 4 A n (flatBk l)) (hl:l.length = n) {k:Nat} (hk:k < n):∃ ad,A = some ad ∧ ad.block < B ∧ w.cell? (ad.add (k * 4)) = some (.int .i64 (gBk l k).id) ∧ w.cell? ⟨(ad.add (k * 4)).block,(ad.add (k * 4)).off + 1,none⟩ = some (.int .i64 (gBk l k).ua) ∧ w.cell? ⟨(ad.add (k * 4)).block,(ad.add (k * 4)).off + 2,none⟩ = some (.int .i64 (gBk l k).ub) ∧ w.cell? ⟨(ad.add (k * 4)).block,(ad.add (k * 4)).off + 3,none⟩ = some (.int .i64 (gBk l k).uc):=by
 obtain ⟨ad,e,hb,hc⟩:=h.at_ (by omega)
 exact ⟨ad,e,hb,hc _ _ (flatBk_at0 l k (by omega)),by rw [addr_next _ _ _ (by omega)]; exact hc _ _ (flatBk_at1 l k (by omega)),by rw [addr_next _ _ _ (by omega)]; exact hc _ _ (flatBk_at2 l k (by omega)),by rw [addr_next _ _ _ (by omega)]; exact hc _ _ (flatBk_at3 l k (by omega))⟩
theorem ownBk_at {w:World} {base:Nat} {t:TypeId} {g n c:Nat} {d:List Bk} (h:w.ownsRow base t 4 (.slice (some ⟨g,0,none⟩) n c) n (flatBk d)) (hd:d.length = n) {k:Nat} (hk:k < n):w.cell? ⟨g,k * 4,none⟩ = some (.int .i64 (gBk d k).id) ∧ w.cell? ⟨g,k * 4 + 1,none⟩ = some (.int .i64 (gBk d k).ua) ∧ w.cell? ⟨g,k * 4 + 2,none⟩ = some (.int .i64 (gBk d k).ub) ∧ w.cell? ⟨g,k * 4 + 3,none⟩ = some (.int .i64 (gBk d k).uc):=
 ⟨(h.cellAt (k * 4) (by omega)).trans (flatBk_at0 d k (by omega)),(h.cellAt (k * 4 + 1) (by omega)).trans (flatBk_at1 d k (by omega)),(h.cellAt (k * 4 + 2) (by omega)).trans (flatBk_at2 d k (by omega)),(h.cellAt (k * 4 + 3) (by omega)).trans (flatBk_at3 d k (by omega))⟩
theorem ownBk_store {w:World} {base:Nat} {t:TypeId} {g n c:Nat} {d:List Bk} (h:w.ownsRow base t 4 (.slice (some ⟨g,0,none⟩) n c) n (flatBk d)) (i:Nat) (p:Bk):((((w.setCell ⟨g,i * 4,none⟩ (.int .i64 p.id)).setCell ⟨g,i * 4 + 1,none⟩ (.int .i64 p.ua)).setCell ⟨g,i * 4 + 2,none⟩ (.int .i64 p.ub)).setCell ⟨g,i * 4 + 3,none⟩ (.int .i64 p.uc)).ownsRow base t 4 (.slice (some ⟨g,0,none⟩) n c) n (flatBk (d.set i p)) ∧ w.grownBy ((((w.setCell ⟨g,i * 4,none⟩ (.int .i64 p.id)).setCell ⟨g,i * 4 + 1,none⟩ (.int .i64 p.ua)).setCell ⟨g,i * 4 + 2,none⟩ (.int .i64 p.ub)).setCell ⟨g,i * 4 + 3,none⟩ (.int .i64 p.uc)) (some g):=by
 obtain ⟨r0,g0⟩:=h.stored (i * 4) (.int .i64 p.id)
 obtain ⟨r1,g1⟩:=r0.stored (i * 4 + 1) (.int .i64 p.ua)
 obtain ⟨r2,g2⟩:=r1.stored (i * 4 + 2) (.int .i64 p.ub)
 obtain ⟨r3,g3⟩:=r2.stored (i * 4 + 3) (.int .i64 p.uc)
 rw [flatBk_set] at r3
 exact ⟨r3,grown_trans (grown_trans (grown_trans (g0) g1) g2) g3⟩
theorem gBk_mem {d:List Bk} {i:Nat} (h:i < d.length):gBk d i ∈ d:=by
 unfold gBk; rw [List.getD_eq_getElem?_getD,List.getElem?_eq_getElem h]; simp
theorem gBk_eq {d:List Bk} {i:Nat} (h:i < d.length):gBk d i = d[i]:=by
 unfold gBk; rw [List.getD_eq_getElem?_getD,List.getElem?_eq_getElem h]; rfl
theorem take_nextBk {l:List Bk} {k:Nat} (h:k < l.length):l.take (k + 1) = l.take k ++ [gBk l k]:=by
 rw [List.take_succ_eq_append_getElem h,gBk_eq h]
theorem extBk {a b:List Bk} (hl:a.length = b.length) (h:∀ i,i < a.length → gBk a i = gBk b i):a = b:=by
 refine List.ext_getElem hl fun i h1 h2 => ?_
 have:=h i h1
 rw [gBk_eq h1,gBk_eq h2] at this
 exact this
theorem neqBk (a b:Bk) (w:World):(binOp .neq 50 (.agg #[.int .i64 a.id,.int .i64 a.ua,.int .i64 a.ub,.int .i64 a.uc]) (.agg #[.int .i64 b.id,.int .i64 b.ua,.int .i64 b.ub,.int .i64 b.uc])).run Tryz.prog w = .ok (.bool (!decide (a = b))) w:=by
 have e3:=fun (a b c x y z:Int) (w:World) => eq3 9997 a b c x y z w
 simp only [Nat.reduceAdd] at e3
 have u3:=Tryz.underlying3
 have a3:=Tryz.isAgg3
 have z3:=Tryz.sizeOf3
 have hS:Tryz.prog.underlying 50 = some (.struct (Tryz.prog.fieldsOf 50)):=by kernel_rfl
 have hp:Tryz.prog.stoodInHeld 50 = false:=by kernel_rfl
 rw [run_neq_struct,show (10000:Nat) = 9999 + 1 from rfl,run_equalIn_agg w 9999 50 _ _ hS hp]
 simp only [Program.fieldsOf,Tryz.underlying50]
 go_simp
 by_cases hab:a = b
 ·subst hab; simp
 ·simp only [hab,decide_false]
  have hx:¬ (a.id = b.id ∧ a.ua = b.ua ∧ a.ub = b.ub ∧ a.uc = b.uc):=fun h => hab (Bk.ext_ h.1 h.2.1 h.2.2.1 h.2.2.2)
  by_cases h0:a.id = b.id <;> by_cases h1:a.ua = b.ua <;> by_cases h2:a.ub = b.ub <;> by_cases h3:a.uc = b.uc
  all_goals simp_all
theorem infoBk:(Tryz.prog.info? 50).map (fun i => (i.zero,i.size,i.bytes)) = some (some (.agg #[.int .i64 0,.int .i64 0,.int .i64 0,.int .i64 0]),4,32):=by kernel_rfl
set_option maxRecDepth 100000 in
theorem cloneBk (A : Option Addr) (n c : Nat) (d : List Bk) (w : World) (hd : d.length = n) (hn : n ≤ 1000000) (h : Sl w w.heap.size 4 A n c (flatBk d)) :
    Calls Tryz.prog 66 #[.slice A n c] w fun e w' => ∃ v, e = .returned v ∧ w'.ownsRow w.heap.size 50 4 v n (flatBk d) ∧ Below w.heap.size w w' := by
  obtain ⟨i0, hi0, hz0, hz1, hz2⟩ := info_parts infoBk
  have hsl := fun (w : World) (a : Option Addr) (l c : Nat) => run_eql_slice_nil (P := Tryz.prog) w 26 50 a l c Tryz.underlying26
  cases A with
  | none =>
    obtain rfl : c = 0 := h.nil rfl
    obtain rfl : n = 0 := by have := h.cap; omega
    obtain rfl : d = [] := List.eq_nil_of_length_eq_zero hd
    go_enter Tryz.func66, Tryz.ntmps66
    go_wp2
    go_ret
    exact ⟨_, rfl, World.ownsRow_nil _ _ _ _, Below.refl _ _⟩
  | some ad =>
    go_enter Tryz.func66, Tryz.ntmps66
    go_wp2_with (first
      | (at_builtin
         refine wpList_append_lst _ rfl (.tmp 5) (.tmp 6) 26 rfl w.heap.size 50 i0 _ 4 32 Tryz.underlying26 hi0 hz0 hz1 hz2 rfl (by decide) (.slice (some ⟨w.heap.size, 0, none⟩) 0 0) 0 [] rfl (World.ownsRow_made w #[] 0 (Nat.le_refl _) (by simp) (by simp)) w.heap.size (some ad) n c (flatBk d) rfl (h.lst.below ((Below.refl _ _).alloc (Nat.le_refl _) _)) (flatBk_one _) (by unfold maxLen; omega) (by omega) (by simp) ?_
         intro v1 w1 hown hg hat))
    go_ret
    refine ⟨_, rfl, by simpa using hown, Below.grown ((Below.refl _ _).alloc (Nat.le_refl _) _) hg (by simp) (fun k hk => ?_)⟩
    simp [Value.ownBlock] at hk
    omega
set_option maxHeartbeats 1000000 in
set_option maxRecDepth 100000 in
theorem equalBk (A A' : Option Addr) (n c n' c' : Nat) (d d' : List Bk) (w : World) (hd : d.length = n) (hd' : d'.length = n') (hn : n ≤ 1000000) (hn' : n' ≤ 1000000) (h : Sl w w.heap.size 4 A n c (flatBk d)) (h' : Sl w w.heap.size 4 A' n' c' (flatBk d')) :
    Calls Tryz.prog 72 #[.slice A n c, .slice A' n' c'] w fun e w' => e = .returned (.bool (decide (d = d'))) ∧ Below w.heap.size w w' := by
  by_cases hne : n = n'
  · subst hne
    have hz : ((n : Int) != (n : Int)) = false := by simp
    go_enter Tryz.func72, Tryz.ntmps72
    go_wp2
    go_loopw [13] (fun i wr => ∃ k : Nat, k ≤ n ∧ i = .int .i64 k ∧ Hid (∀ j, j < k → gBk d j = gBk d' j) ∧ Below w.heap.size w wr) (fun i _ => n - (intOf i).toNat)
    case atStart => exact ⟨0, by omega, rfl, (fun j hj => by omega), Below.refl _ _⟩
    case round =>
      obtain ⟨k, hk, rfl, HQ, hB⟩ := hrel
      by_cases hkn : k < n
      · obtain ⟨ad, rfl, hab, c0, c1, c2, c3⟩ := (h.below hB).lst.atBk hd hkn
        obtain ⟨ad', rfl, hab', e0, e1, e2, e3⟩ := (h'.below hB).lst.atBk hd' hkn
        generalize hx : gBk d k = x at *
        generalize hy : gBk d' k = y at *
        have HX := Lib.hid hx
        have HY := Lib.hid hy
        clear hx hy
        have hneq := neqBk x y
        go_wp2_with fail
        have q_c0 := fun d os => cell_regrown c0 d os
        have q_c1 := fun d os => cell_regrown c1 d os
        have q_c2 := fun d os => cell_regrown c2 d os
        have q_c3 := fun d os => cell_regrown c3 d os
        have q_e0 := fun d os => cell_regrown e0 d os
        have q_e1 := fun d os => cell_regrown e1 d os
        have q_e2 := fun d os => cell_regrown e2 d os
        have q_e3 := fun d os => cell_regrown e3 d os
        by_cases hxy : x = y
        · have HE := Lib.hid hxy
          have hrun : ∀ w0, (binOp .neq 50 (.agg #[.int .i64 x.id, .int .i64 x.ua, .int .i64 x.ub, .int .i64 x.uc]) (.agg #[.int .i64 y.id, .int .i64 y.ua, .int .i64 y.ub, .int .i64 y.uc])).run Tryz.prog w0 = .ok (.bool false) w0 := fun w0 => by rw [hneq]; simp [HE.out]
          clear hneq hxy
          try simp only [List.append]
          first | refine wp_region_text_below ?_ | refine wp_region_quiet_below (by kernel_rfl) (by kernel_rfl) ?_
          repeat (go_big_quiet_step ((fail)))
          refine wpQuiet_nil ?_
          intro _ hqw
          obtain ⟨pq, hqw⟩ := hqw
          subst hqw
          clear q_c0 q_c1 q_c2 q_c3 q_e0 q_e1 q_e2 q_e3
          have hbel := below_regrown wr pq.d pq.os
          have hB2 := hB.trans (hbel.mono hB.size)
          clear hbel c0 c1 c2 c3 e0 e1 e2 e3 hB hrun
          generalize grow (redrawn wr pq.d) pq.os = wq at *
          go_wp2
          go_roundw
          case rel => exact ⟨k + 1, by omega, by go_num, (fun j hj => by
            by_cases e : j = k
            · rw [e, HX.out, HY.out]; exact HE.out
            · exact HQ.out j (by omega)), hB2⟩
          case measure => simp [intOf]; omega
        · have hrun : ∀ w0, (binOp .neq 50 (.agg #[.int .i64 x.id, .int .i64 x.ua, .int .i64 x.ub, .int .i64 x.uc]) (.agg #[.int .i64 y.id, .int .i64 y.ua, .int .i64 y.ub, .int .i64 y.uc])).run Tryz.prog w0 = .ok (.bool true) w0 := fun w0 => by rw [hneq]; simp [hxy]
          have hfin : decide (d = d') = false := by
            rw [decide_eq_false_iff_not]
            intro e
            have e1 := HX.out
            rw [e, HY.out] at e1
            exact hxy e1.symm
          have HF := Lib.hid hfin
          clear hneq hxy hfin
          try simp only [List.append]
          first | refine wp_region_text_below ?_ | refine wp_region_quiet_below (by kernel_rfl) (by kernel_rfl) ?_
          repeat (go_big_quiet_step ((fail)))
          refine wpQuiet_nil ?_
          intro _ hqw
          obtain ⟨pq, hqw⟩ := hqw
          subst hqw
          clear q_c0 q_c1 q_c2 q_c3 q_e0 q_e1 q_e2 q_e3
          have hbel := below_regrown wr pq.d pq.os
          have hB2 := hB.trans (hbel.mono hB.size)
          clear hbel c0 c1 c2 c3 e0 e1 e2 e3 hB hrun
          generalize grow (redrawn wr pq.d) pq.os = wq at *
          go_wp2
          go_ret
          exact ⟨by rw [HF.out]; rfl, hB2⟩
      · obtain rfl : k = n := by omega
        have hfin : decide (d = d') = true := by
          rw [decide_eq_true_eq]
          exact extBk (by omega) (fun j hj => HQ.out j (by omega))
        have HF := Lib.hid hfin
        clear hfin
        go_wp2
        go_ret
        exact ⟨by rw [HF.out]; rfl, hB⟩
  · have hz : ((n : Int) != (n' : Int)) = true := by rw [bne_iff_ne]; omega
    go_enter Tryz.func72, Tryz.ntmps72
    go_wp2
    go_ret
    refine ⟨?_, Below.refl _ _⟩
    rw [decide_eq_false (show ¬ d = d' from fun e => by subst e; omega)]
    rfl
set_option maxRecDepth 100000 in
theorem growBk (n : Nat) (w : World) (hn : n ≤ 1000000) :
    Calls Tryz.prog 205 #[.slice none 0 0, .int .i64 n] w fun e w' => ∃ v, e = .returned v ∧ w'.ownsRow w.heap.size 50 4 v 0 [] ∧ Below w.heap.size w w' := by
  obtain ⟨i0, hi0, hz0, hz1, hz2⟩ := info_parts infoBk
  by_cases h0 : n = 0
  · subst h0
    go_enter Tryz.func205, Tryz.ntmps205
    go_wp2
    go_ret
    exact ⟨_, rfl, World.ownsRow_nil _ _ _ _, Below.refl _ _⟩
  · have hp : 0 < n := by omega
    have hpi : (0 : Int) < (n : Int) := by omega
    go_enter Tryz.func205, Tryz.ntmps205
    go_wp2_with (first
      | (at_builtin
         refine wpList_append_made rfl (.tmp 20) (.tmp 21) 26 3 rfl 50 i0 _ 4 Tryz.underlying26 Tryz.underlying3 hi0 hz0 hz1 rfl n rfl rfl hp (by decide) (by omega) (by rw [hz2]; omega) ?_
         intro c1 w1 hown hB hc1))
    go_ret
    exact ⟨_, rfl, hown, hB⟩
theorem noHitBk {d : List Bk} {p : Bk → Bool} (h : d.any p = false) {j : Nat} (hj : j < d.length) : p (gBk d j) = false := by
  have := List.any_eq_false.1 h _ (gBk_mem hj)
  simpa using this
theorem firstHitBk {d : List Bk} {p : Bk → Bool} (h : d.any p = true) : ∃ q, q < d.length ∧ (∀ j, j < q → p (gBk d j) = false) ∧ p (gBk d q) = true := by
  have hl : d.findIdx p < d.length := List.findIdx_lt_length.2 (by simpa using h)
  refine ⟨d.findIdx p, hl, fun j hj => ?_, ?_⟩
  · rw [gBk_eq (by omega)]
    have := List.not_of_lt_findIdx hj
    simpa using this
  · rw [gBk_eq hl]
    exact List.findIdx_getElem
structure PredBk (g : FuncId) (lb : Array Value) (row : Option Nat) (W : World) (p : Bk → Bool) : Prop where
  run : ∀ vals w, (callFunc g vals).run Tryz.prog w = .ok (.enter g vals) w
  tells : ∀ w', W.grownBy w' row → ∀ x : Bk, Calls Tryz.prog g (#[.agg #[.int .i64 x.id, .int .i64 x.ua, .int .i64 x.ub, .int .i64 x.uc]] ++ lb) w' fun e w'' => e = .returned (.bool (p x)) ∧ Below w'.heap.size w' w''
theorem PredBk.next {g : FuncId} {lb : Array Value} {row : Option Nat} {W W' : World} {p : Bk → Bool} (h : PredBk g lb row W p) (hg : W.grownBy W' row) : PredBk g lb row W' p := ⟨h.run, fun w' h' x => h.tells w' (grown_trans hg h') x⟩
theorem PredBk.below {g : FuncId} {lb : Array Value} {row : Option Nat} {W W' : World} {p : Bk → Bool} (h : PredBk g lb row W p) (hb : Below W.heap.size W W') : PredBk g lb row W' p := h.next (grown_of_below hb)
theorem filt_nextBk {d : List Bk} {p : Bk → Bool} {j : Nat} (hj : j < d.length) : (d.take (j + 1)).filter (fun x => !p x) = (d.take j).filter (fun x => !p x) ++ if p (gBk d j) = true then [] else [gBk d j] := by
  rw [take_nextBk hj, List.filter_append]
  congr 1
  cases h : p (gBk d j) <;> simp [List.filter_cons, h]
theorem filt_allBk {d : List Bk} {p : Bk → Bool} : ∀ q, q ≤ d.length → (∀ j, j < q → p (gBk d j) = false) → (d.take q).filter (fun x => !p x) = d.take q
  | 0, _, _ => by simp
  | q + 1, h, hl => by
    rw [filt_nextBk (by omega), filt_allBk q (by omega) (fun j hj => hl j (by omega)), if_neg (by rw [hl q (by omega)]; simp), ← take_nextBk (by omega)]
theorem set_stepBk {e d : List Bk} {p : Bk → Bool} {i j n : Nat} (he : e.length = n) (hd : d.length = n) (hij : i < j) (hj : j < n) (h1 : e.take i = (d.take j).filter (fun x => !p x)) (h2 : e.drop j = d.drop j) (hp : p (gBk d j) = false) :
    (e.set i (gBk d j)).take (i + 1) = (d.take (j + 1)).filter (fun x => !p x) ∧ (e.set i (gBk d j)).drop (j + 1) = d.drop (j + 1) := by
  refine ⟨?_, ?_⟩
  · rw [filt_nextBk (by omega), if_neg (by rw [hp]; simp), ← h1]
    rw [List.take_succ_eq_append_getElem (by simp; omega), List.getElem_set_self, List.take_set_of_le (Nat.le_refl _)]
  · rw [List.drop_set_of_lt (by omega), ← List.drop_drop, ← List.drop_drop, h2]
theorem drop_atBk {e d : List Bk} {j : Nat} (he : e.length = d.length) (h : e.drop j = d.drop j) (hj : j < d.length) : gBk e j = gBk d j := by
  rw [gBk_eq (by omega), gBk_eq hj]
  have h1 : (e.drop j)[0]'(by simp; omega) = (d.drop j)[0]'(by simp; omega) := by simp [h]
  simpa using h1
def catBk (d : Nat → List Bk) : Nat → List Bk
  | 0 => []
  | k + 1 => catBk d k ++ d k
theorem catBk_le (d : Nat → List Bk) : ∀ {k m : Nat}, k ≤ m → (catBk d k).length ≤ (catBk d m).length
  | k, 0, h => by
    obtain rfl : k = 0 := by omega
    exact Nat.le_refl _
  | k, m + 1, h => by
    by_cases e : k = m + 1
    · subst e; exact Nat.le_refl _
    · have := catBk_le d (k := k) (m := m) (by omega)
      simp only [catBk, List.length_append]
      omega
set_option maxHeartbeats 1000000 in
set_option maxRecDepth 100000 in
theorem concatBk (gO m cO : Nat) (A : Nat → Option Addr) (n c : Nat → Nat) (d : Nat → List Bk) (w : World) (hm : m ≤ 1000) (hd : ∀ k, k < m → (d k).length = n k) (hn : (catBk d m).length ≤ 1000000) (hO : ∀ k, k < m → w.cell? ⟨gO, k, none⟩ = some (.slice (A k) (n k) (c k))) (h : ∀ k, k < m → Sl w w.heap.size 4 (A k) (n k) (c k) (flatBk (d k))) :
    Calls Tryz.prog 153 #[.slice (some ⟨gO, 0, none⟩) m cO] w fun e w' => ∃ v, e = .returned v ∧ w'.ownsRow w.heap.size 50 4 v (catBk d m).length (flatBk (catBk d m)) ∧ Below w.heap.size w w' := by
  obtain ⟨i0, hi0, hz0, hz1, hz2⟩ := info_parts infoBk
  have HO := Lib.hid hO
  have HD := Lib.hid hd
  clear hO hd
  go_enter Tryz.func153, Tryz.ntmps153
  go_wp2
  go_loop [3, 11] (fun s i => ∃ k : Nat, k ≤ m ∧ i = .int .i64 k ∧ s = .int .i64 (catBk d k).length) (fun _ i => m - (intOf i).toNat)
  case atStart => exact ⟨0, by omega, rfl, rfl⟩
  case round =>
    obtain ⟨k, hk, rfl, rfl⟩ := hrel
    have hle := catBk_le d hk
    by_cases hkm : k < m
    · have hle2 := catBk_le d (k := k + 1) (m := m) (by omega)
      have hO := HO.out k hkm
      have hlk : (catBk d (k + 1)).length = (catBk d k).length + n k := by simp only [catBk, List.length_append, HD.out k hkm]
      have HLK := Lib.hid hlk
      have hnk : n k ≤ 1000000 := by omega
      generalize hL : (catBk d k).length = L at *
      have HL := Lib.hid hL
      clear hlk hL
      go_wp2
      go_round
      case rel => exact ⟨k + 1, by omega, by go_num, by rw [HLK.out]; go_num⟩
      case measure => simp [intOf]; omega
    · obtain rfl : k = m := by omega
      generalize hL : (catBk d k).length = L at *
      have HL := Lib.hid hL
      clear hL
      go_wp2_with fail
      refine (growBk L w (by omega)).mono ?_
      rintro e w1 ⟨v, rfl, hown, hB⟩
      obtain ⟨A1, c1, rfl⟩ := slice_of_own hown
      go_wp2
      go_loopw [6, 27] (fun vv i wr => ∃ (q : Nat), q ≤ k ∧ i = .int .i64 q ∧ Below w.heap.size w wr ∧ wr.ownsRow w.heap.size 50 4 vv (catBk d q).length (flatBk (catBk d q))) (fun _ i _ => k - (intOf i).toNat)
      case atStart => exact ⟨0, by omega, rfl, hB, hown⟩
      case round =>
        clear hown hB
        rename Value => v0
        obtain ⟨q, hq, rfl, hB, hown⟩ := hrel
        have hle := catBk_le d hq
        by_cases hqk : q < k
        · have hO : _ := HO.out q hqk
          have hOw : ∀ wx, Below w.heap.size w wx → wx.cell? ⟨gO, q, none⟩ = some (.slice (A q) (n q) (c q)) := fun wx hb => by
            rw [hb.cell (World.block_lt_of_cell? w _ hO)]; exact hO
          have hOr := hOw _ hB
          have hle2 := catBk_le d (k := q + 1) (m := k) (by omega)
          have hlk : (catBk d (q + 1)).length = (catBk d q).length + n q := by simp only [catBk, List.length_append, HD.out q hqk]
          have hnq : (catBk d q).length + n q ≤ 1000000 := by have := HL.out; omega
          have HLK := Lib.hid hlk
          have hs := (h q hqk).below hB
          clear hlk hO hOw
          obtain ⟨A2, c2, rfl⟩ := slice_of_own hown
          have hob : ∀ g, (Value.slice A2 (catBk d q).length c2).ownBlock = some g → w.heap.size ≤ g := fun g hg => (hown.lt g hg).1
          have hsB := hB.size
          generalize hLq : (catBk d q).length = Lq at *
          generalize hNq : n q = Nq at *
          generalize hAq : A q = Aq at *
          generalize hcq : c q = cq at *
          have HAll := Lib.hid (And.intro hLq (And.intro hNq (And.intro hAq hcq)))
          clear hLq hNq hAq hcq
          go_wp2_with (first
            | (at_builtin
               refine wpList_append_lst _ rfl (.tmp 31) (.tmp 32) 26 rfl w.heap.size 50 i0 _ 4 32 Tryz.underlying26 hi0 hz0 hz1 hz2 rfl (by decide) (.slice A2 Lq c2) Lq (flatBk (catBk d q)) rfl hown w.heap.size Aq Nq cq (flatBk (d q)) rfl hs.lst (flatBk_one _) (by unfold maxLen; omega) (by omega) hsB ?_
               intro v4 w4 hown4 hg4 hat4))
          have hB4 : Below w.heap.size w w4 := Below.grown hB hg4 hsB hob
          have hown5 : w4.ownsRow w.heap.size 50 4 v4 (catBk d (q + 1)).length (flatBk (catBk d (q + 1))) := by
            rw [HLK.out]
            simp only [catBk, flatBk_append]
            exact hown4
          clear hown hown4 hg4 hat4 hOr hs hob hB
          go_wp2
          go_roundw
          case rel => exact ⟨q + 1, by omega, by go_num, hB4, hown5⟩
          case measure => simp [intOf]; omega
        · obtain rfl : q = k := by omega
          obtain ⟨A2, c2, rfl⟩ := slice_of_own hown
          go_wp2
          go_ret
          exact ⟨_, rfl, hown, hB⟩
end Go.Proofs.YtjldgcebadojiaaGreatDoor
