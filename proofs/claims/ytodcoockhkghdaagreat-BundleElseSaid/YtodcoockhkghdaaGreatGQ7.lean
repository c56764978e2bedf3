/- Several texts of mine in one: App, Open, Mem2, HeapS, HeapP, HeapQ, HeapN, Cells. No condition. -/
import Derived.Test.YtodcoockhkghdaaGreatGQ6
import Derived.Maps.AppendAt
import Derived.Deep.RegionLaw
import Derived.Deep.Slices
import Derived.Deep.Fields
namespace Go.Proofs.YtodcoockhkghdaaGreat
open Go.ChangeShapes Go.WideShapes Go.ChangeAt Go.RowKit Go.Sort
set_option linter.unusedSimpArgs false
set_option linter.unusedVariables false

theorem step_append_own {P:Program} {ops:Array Oper} {o:Oper} {a:Act} {w:World} {K:Act → World → Prop} {Q:Exit → Act → World → Prop} {E:Prop} (hgd:o.guard = none) (s x:Operand) (t:TypeId)
  (ho:o.op = .call { callee:=.builtin .append,args:=#[s,x],argTypes:=#[t,t] })
  (base:Nat) (e:TypeId) (i:TypeInfo) (z:Value) (size bytes:Nat) (ht:P.underlying t = some (.slice e)) (hi:P.info? e = some i) (hz:i.zero = some z)
  (hsize:i.size = size) (hby:i.bytes = bytes) (hzs:z.cells.size = size) (hsz:0 < size)
  (v:Value) (n:Nat) (xs:List Value) (hs:a.eval s = v) (hown:w.ownsRow base e size v n xs)
  (ad:Addr) (m c:Nat) (news:List Value) (hx:a.eval x = .slice (some ad) m c) (hl:news.length = m * size) (hnews:∀ j u,news[j]? = some u → w.cell? (ad.add j) = some u) (h1:∀ u ∈ news,u.oneCell' = true)
  (h63:n + m ≤ maxLen) (hbytes:(n + m) * bytes ≤ 140737488355328) (hbase:base ≤ w.heap.size)
  (h:∀ v' w',w'.ownsRow base e size v' (n + m) (xs ++ news) → w.grownBy w' v.ownBlock → (v' = .slice none 0 0 ↔ v = .slice none 0 0 ∧ m = 0) → (v'.ownBlock = v.ownBlock ∨ v'.ownBlock = some w.heap.size) → K (a.put o.dst v') w') :
  if Region.wanted o (yielded ops a.tmps) = true then Oper.wp P o a w K Q else E:=by
 rw [if_pos (by simp [Region.wanted,hgd])]
 obtain ⟨v',w',hr,h2,h3,h4,h5⟩:=run_append_own_at (P:=P) w base t o.type e i z size bytes ht hi hz hsize hby hzs hsz v n xs hown ad m c news hl hnews h1 h63 hbytes hbase
 unfold Oper.wp execOp
 simp only [ho,resolve,invoke,builtin,Sem.run_bind,Sem.run_pure,Result.andThen_ok,List.map_toArray,List.map_cons,List.map_nil,hs,hx,hr]
 exact h v' w' h2 h3 h4 h5

structure Kept (S:Nat → Prop) (w w':World):Prop where
 os:w'.os = w.os
 tape:w'.tape = w.tape
 output:w'.output = w.output
 size:w.heap.size ≤ w'.heap.size
 block:∀ k,k < w.heap.size → ¬ S k → w'.heap[k]? = w.heap[k]?
section
variable {S:Nat → Prop} {w w' w'':World}
theorem Kept.refl (S:Nat → Prop) (w:World):Kept S w w:=⟨rfl,rfl,rfl,Nat.le_refl _,fun _ _ _ => rfl⟩
theorem Kept.of_grown {row:Option Nat} (h:w.grownBy w' row) (hS:∀ k,row = some k → k < w.heap.size → S k):Kept S w w':=
 ⟨h.os,h.tape,h.output,h.size,fun k hk hn => h.block k hk (fun e => hn (hS k e.symm hk))⟩
theorem Kept.of_below (h:Below w.heap.size w w'):Kept S w w':=⟨h.os,h.tape,h.output,h.size,fun k hk _ => h.block k hk⟩
theorem Kept.below (h:Kept (fun _ => False) w w'):Below w.heap.size w w':=⟨h.os,h.tape,h.output,h.size,fun k hk => h.block k hk (fun x => x)⟩
theorem Kept.trans {S':Nat → Prop} (h:Kept S w w') (k:Kept S' w' w'') (hS:∀ i,i < w.heap.size → S' i → S i):Kept S w w'':=
 ⟨k.os.trans h.os,k.tape.trans h.tape,k.output.trans h.output,Nat.le_trans h.size k.size,fun i hi hn => (k.block i (Nat.lt_of_lt_of_le hi h.size) (fun x => hn (hS i hi x))).trans (h.block i hi hn)⟩
theorem Kept.drew (h:Kept S w w'):Kept S w w'.drew:=⟨h.os,h.tape,h.output,h.size,h.block⟩
theorem Kept.set {g:Nat} (h:Kept S w w') (hg:g < w.heap.size → S g) (i:Nat) (u:Value):Kept S w (w'.setCell ⟨g,i,none⟩ u):=
 ⟨h.os,h.tape,h.output,by simpa using h.size,fun k hk hn => (Below.heap_setCell w' ⟨g,i,none⟩ u k (fun e => hn (by simp at e; subst e; exact hg hk))).trans (h.block k hk hn)⟩
theorem Kept.alloc (h:Kept S w w') (o:Obj):Kept S w (w'.alloc o):=
 ⟨h.os,h.tape,h.output,by have:=h.size; simp; omega,fun k hk hn => (Below.heap_alloc w' o k (by have:=h.size; omega)).trans (h.block k hk hn)⟩
theorem Kept.grow_ {row:Option Nat} (h:Kept S w w') (k:w'.grownBy w'' row) (hS:∀ i,i < w.heap.size → row = some i → S i):Kept S w w'':=
 h.trans (S':=fun i => row = some i) (Kept.of_grown k fun i hi _ => hi) hS
theorem Kept.blok {g:Nat} {t:TypeId} {cs:Array Value} (k:Kept S w w') (h:Blok w g t cs) (hn:¬ S g):Blok w' g t cs:=(k.block g h.lt hn).trans h
theorem Kept.owns {base:Nat} {e:TypeId} {size n:Nat} {v:Value} {xs:List Value} (k:Kept S w w') (h:w.ownsRow base e size v n xs) (hn:∀ g,v.ownBlock = some g → ¬ S g):w'.ownsRow base e size v n xs:=by
 refine ⟨h.1,?_⟩
 rcases h.2 with hx | ⟨g,cap,cur,rfl,hb,hgg,rest⟩
 ·exact .inl hx
 ·refine .inr ⟨g,cap,cur,rfl,hb,?_,rest⟩
  rw [k.block g (Array.getElem?_eq_some_iff.1 hgg).1 (hn g rfl)]
  exact hgg
end
end Go.Proofs.YtodcoockhkghdaaGreat
namespace Go.Proofs.YtodcoockhkghdaaGreat
open Go.ChangeShapes Go.WideShapes Go.ChangeAt Go.RowKit Go.Sort
set_option linter.unusedSimpArgs false
set_option linter.unusedVariables false

theorem add_block (a:Addr) (n:Nat):(a.add n).block = a.block:=by unfold Addr.add; split <;> rfl
theorem add_zero_ (a:Addr):a.add 0 = a:=by unfold Addr.add; simp
theorem add_plus (a:Addr) (i j:Nat):(a.add i).add j = a.add (i + j):=by
 unfold Addr.add
 by_cases hi:i = 0 <;> by_cases hj:j = 0 <;> simp [hi,hj,Nat.add_assoc]

structure Lst (w:World) (B k:Nat) (A:Option Addr) (n:Nat) (xs:List Value):Prop where
 len:xs.length = n * k
 at_:0 < n → ∃ ad,A = some ad ∧ ad.block < B ∧ ∀ j u,xs[j]? = some u → w.cell? (ad.add j) = some u
section
variable {w w':World} {B k n:Nat} {A:Option Addr} {xs:List Value}
theorem Lst.kept {S:Nat → Prop} (h:Lst w B k A n xs) (hk:∀ i,i < B → w'.heap[i]? = w.heap[i]?):Lst w' B k A n xs:=
 ⟨h.len,fun hn => by
  obtain ⟨ad,e,hb,hc⟩:=h.at_ hn
  exact ⟨ad,e,hb,fun j u hu => (World.cell?_of_block (by rw [add_block]; exact hk _ hb)).trans (hc j u hu)⟩⟩
theorem Lst.below (h:Lst w B k A n xs) (hb:Below B w w'):Lst w' B k A n xs:=h.kept (S:=fun _ => False) fun i hi => hb.block i hi
theorem Lst.more {B':Nat} (h:Lst w B k A n xs) (hB:B ≤ B'):Lst w B' k A n xs:=
 ⟨h.len,fun hn => by
  obtain ⟨ad,e,hb,hc⟩:=h.at_ hn
  exact ⟨ad,e,by omega,hc⟩⟩
theorem Lst.of_own {base:Nat} {e:TypeId} {c:Nat} (h:w.ownsRow base e k (.slice A n c) n xs):Lst w w.heap.size k A n xs:=by
 refine ⟨h.1,fun hn => ?_⟩
 rcases h.2 with ⟨_,h0⟩ | ⟨g,cap,cur,he,hb,hg,_⟩
 ·omega
 ·have hA:A = some ⟨g,0,none⟩:=by injection he
  subst hA
  refine ⟨⟨g,0,none⟩,rfl,(h.lt g rfl).2,fun j u hu => h.cells (g:=g) rfl j u hu⟩
end

section
variable {H:Type} {enc:TypeId × Value → H} {P:Program}
theorem open_rows {w:World} {base b0:Nat} {r:Reach} {spare:Nat → Bool} {held:Bool} {t e:TypeId} {v:Value} {d:DataW H} {p:List MemPlace} (q:Nat) {K:Nat} (ht:P.underlying t = some (.slice e)) (hf:flatB P q e = true) (hK:P.cellsOf e = K) (hpos:0 < K)
  (hv:Value.okWide P w r b0 t v) (h:DataW.Trod enc P w base spare held t v d p) :
  ∃ (A:Option Addr) (n c:Nat) (ns:List Int),v = .slice A n c ∧ n ≤ c ∧ c ≤ maxLen ∧ Lst w w.heap.size K A n (ns.map (Value.int .i64)) ∧ ns.length = n * K ∧ ∀ m ∈ ns,(Lit.int .i64 m).wf = true:=by
 obtain ⟨A,n,c,rfl⟩:=okWide_slice ht hv
 obtain ⟨fuel,hx⟩:=h
 subst hK
 rcases Go.Deep.open_slice ht hx with ⟨h0,_⟩ | ⟨a,len,cap,m,q',D,Pl,hcs,hb,hl,hm,hmm,_,hi⟩
 ·have h0':Value.slice A n c = .slice none 0 0:=by simpa [Value.cells] using h0
  injection h0' with h1 h2 h3
  subst h1 h2 h3
  exact ⟨none,0,0,[],rfl,Nat.le_refl _,by simp,⟨by simp,fun h => by omega⟩,by simp,by simp⟩
 ·have h0':Value.slice A n c = .slice (some a) len cap:=by simpa [Value.cells] using hcs
  injection h0' with h1 h2 h3
  subst h1 h2 h3
  have hnm:n ≤ m:=by rw [hmm]; split <;> omega
  have key:∀ i,i ≤ n → ∃ ns:List Int,ns.length = i * P.cellsOf e ∧ (∀ j u,(ns.map (Value.int .i64))[j]? = some u → w.cell? (a.add j) = some u) ∧ ∀ m ∈ ns,(Lit.int .i64 m).wf = true:=by
   intro i
   induction i with
   | zero => exact fun _ => ⟨[],by simp,by simp,by simp⟩
   | succ i ih =>
    intro hin
    obtain ⟨ns,n1,n2,n3⟩:=ih (by omega)
    obtain ⟨cs',hc,htr⟩:=hi i (by omega)
    obtain ⟨_,hcl,hat⟩:=World.cells?_some hc
    obtain ⟨ms,e1,e2⟩:=ints_of_cells (flat_cell q hf htr)
    refine ⟨ns ++ ms,?_,fun j u hu => ?_,fun x hx => ?_⟩
    ·have hml:ms.length = P.cellsOf e:=by rw [← hcl,e1]; simp
     rw [List.length_append,n1,hml,Nat.add_mul,Nat.one_mul]
    ·rw [List.map_append] at hu
     by_cases hj:j < ns.length
     ·rw [List.getElem?_append_left (by simpa using hj)] at hu
      exact n2 j u hu
     ·rw [List.getElem?_append_right (by simpa using hj)] at hu
      have hjl:j - ns.length < P.cellsOf e:=by
       have:=(List.getElem?_eq_some_iff.1 hu).1
       rw [List.length_map] at this
       rw [← e1,hcl] at this
       simpa using this
      have:=hat (j - ns.length) hjl
      rw [add_plus,n1] at this
      rw [show i * P.cellsOf e + (j - i * P.cellsOf e) = j from by omega] at this
      rw [this,e1,← n1]
      simpa using hu
    ·rcases List.mem_append.1 hx with hx | hx
     ·exact n3 x hx
     ·exact e2 x hx
  obtain ⟨ns,n1,n2,n3⟩:=key n (Nat.le_refl _)
  refine ⟨some a,n,c,ns,rfl,hl,hm,⟨by simpa using n1,fun hn => ⟨a,rfl,?_,n2⟩⟩,n1,n3⟩
  have h0:0 < ns.length:=by rw [n1]; exact Nat.mul_pos hn hpos
  have:=n2 0 (.int .i64 ns[0]) (by simp)
  rw [add_zero_] at this
  exact block_lt_of_cell this
end
end Go.Proofs.YtodcoockhkghdaaGreat
namespace Go.Proofs.YtodcoockhkghdaaGreat
open Go.ChangeShapes Go.WideShapes Go.ChangeAt Go.RowKit Go.Sort
set_option linter.unusedSimpArgs false
set_option linter.unusedVariables false
theorem Blok.new (w:World) (t:TypeId) (cs:Array Value):Blok (w.alloc (.cells cs t)) w.heap.size t cs:=heap_alloc_new w _
theorem Blok.set_ {w:World} {g:Nat} {t:TypeId} {cs:Array Value} (h:Blok w g t cs) (i:Nat) (u:Value):Blok (w.setCell ⟨g,i,none⟩ u) g t (cs.setIfInBounds i u):=by
 unfold Blok at h ⊢
 simp [World.setCell,Array.getElem?_modify,h]
theorem Blok.far {w:World} {g:Nat} {t:TypeId} {cs:Array Value} (h:Blok w g t cs) {p:Addr} (hp:g ≠ p.block) (u:Value):Blok (w.setCell p u) g t cs:=(Below.heap_setCell w p u g hp).trans h
theorem Blok.alloc {w:World} {g:Nat} {t:TypeId} {cs:Array Value} (h:Blok w g t cs) (o:Obj):Blok (w.alloc o) g t cs:=(Below.heap_alloc w o g h.lt).trans h
theorem Blok.kept {S:Nat → Prop} {w w':World} {g:Nat} {t:TypeId} {cs:Array Value} (h:Blok w g t cs) (k:Kept S w w') (hn:¬ S g):Blok w' g t cs:=k.blok h hn
theorem blok4 {w:World} {g:Nat} {t:TypeId} {a0 a1 a2 a3:Value} (h:Blok w g t #[a0,a1,a2,a3]):w.cell? ⟨g,0,none⟩ = some a0 ∧ w.cell? ⟨g,1,none⟩ = some a1 ∧ w.cell? ⟨g,2,none⟩ = some a2 ∧ w.cell? ⟨g,3,none⟩ = some a3 ∧ g < w.heap.size:=⟨h.cell 0,h.cell 1,h.cell 2,h.cell 3,h.lt⟩
theorem ret4 {w W:World} {b:Nat} {T:TypeId} {z0 z1 z2 z3:Value} (h:Blok W b T #[z0,z1,z2,z3]) (hB:Below w.heap.size w W) (hle:w.heap.size ≤ b) (v0 v1 v2 v3:Value):Blok ((((W.setCell ⟨b,0,none⟩ v0).setCell ⟨b,1,none⟩ v1).setCell ⟨b,2,none⟩ v2).setCell ⟨b,3,none⟩ v3) b T #[v0,v1,v2,v3] ∧ Below w.heap.size w ((((W.setCell ⟨b,0,none⟩ v0).setCell ⟨b,1,none⟩ v1).setCell ⟨b,2,none⟩ v2).setCell ⟨b,3,none⟩ v3) ∧ W.grownBy ((((W.setCell ⟨b,0,none⟩ v0).setCell ⟨b,1,none⟩ v1).setCell ⟨b,2,none⟩ v2).setCell ⟨b,3,none⟩ v3) (some b):=by
 refine ⟨?_,(((hB.setCell (p:=⟨b,0,none⟩) hle v0).setCell (p:=⟨b,1,none⟩) hle v1).setCell (p:=⟨b,2,none⟩) hle v2).setCell (p:=⟨b,3,none⟩) hle v3,grown_trans (grown_trans (grown_trans (grown_set _ _ _) (grown_set _ _ _)) (grown_set _ _ _)) (grown_set _ _ _)⟩
 have h2:=(((h.set_ 0 v0).set_ 1 v1).set_ 2 v2).set_ 3 v3
 simpa using h2
end Go.Proofs.YtodcoockhkghdaaGreat
namespace Go.Proofs.YtodcoockhkghdaaGreat
open Go.ChangeShapes Go.WideShapes Go.ChangeAt Go.RowKit Go.Sort Hp
set_option linter.unusedSimpArgs false
set_option linter.unusedVariables false
namespace Hp
def pk1 (d:List Rd) (i:Nat):Nat:=if 2 * i + 1 < d.length ∧ ahd (gt d (2 * i + 1)) (gt d i) = true then 2 * i + 1 else i
theorem pick_eq (d:List Rd) (i:Nat):pick d i = if 2 * i + 2 < d.length ∧ ahd (gt d (2 * i + 2)) (gt d (pk1 d i)) = true then 2 * i + 2 else pk1 d i:=rfl
def pkB (d:List Rd) (i b:Nat):Nat:=if b = 0 then i else if b = 1 then pk1 d i else pick d i
theorem pkB_step {d:List Rd} {i b:Nat} (hb:b < 2) (hn:2 * i + 1 + b < d.length):pkB d i (b + 1) = if ahd (gt d (2 * i + 1 + b)) (gt d (pkB d i b)) = true then 2 * i + 1 + b else pkB d i b:=by
 have h:b = 0 ∨ b = 1:=by omega
 rcases h with rfl | rfl
 ·show pk1 d i = _
  unfold pk1
  simp only [show pkB d i 0 = i from rfl,Nat.add_zero] at *
  simp [hn]
 ·show pick d i = _
  rw [pick_eq]
  simp only [show pkB d i 1 = pk1 d i from rfl,show 2 * i + 1 + 1 = 2 * i + 2 from rfl] at *
  simp [hn]
theorem pkB_end {d:List Rd} {i b:Nat} (hb:b ≤ 2) (h:¬ b < 2 ∨ d.length ≤ 2 * i + 1 + b):pick d i = pkB d i b:=by
 have hc:b = 0 ∨ b = 1 ∨ b = 2:=by omega
 rw [pick_eq]
 rcases hc with rfl | rfl | rfl
 ·simp only [show pkB d i 0 = i from rfl]
  unfold pk1
  rw [if_neg (fun h' => by omega),if_neg (fun h' => by omega)]
 ·simp only [show pkB d i 1 = pk1 d i from rfl]
  rw [if_neg (fun h' => by omega)]
 ·rfl
end Hp
set_option maxHeartbeats 4000000 in
set_option maxRecDepth 100000 in
theorem sink_any (hb g cap:Nat) (d0:List (Int × Int)) (w:World) (hcap:d0.length ≤ cap) (hsz:d0.length ≤ 1000000) (h0:HeapAt w hb g cap d0) (hu:downInv d0 0) :
  Calls Tryz.prog 179 #[.pointer (some ⟨hb,0,none⟩),.int .i64 0] w fun e w' => e = .returned (.tuple #[]) ∧ ∃ d',d'.length = d0.length ∧ d'.Perm d0 ∧ isHeap d' ∧ HeapAt w' hb g cap d' ∧ w.grownBy w' (some g):=by
  go_enter Tryz.func179,Tryz.ntmps179
  go_wp2
  refine wp_scope_label (fun a' w' => ∃ (k:Nat) (d:List (Int × Int)),d.length = d0.length ∧ d.Perm d0 ∧ downInv d k ∧ k ≤ d.length ∧ HeapAt w' hb g cap d ∧ w.grownBy w' (some g) ∧ ∃ u2 u3 u4 u5 u6 u7 u8 u9 u10 u11 u12 u13 u14 u15 u16 u17 u18 u19 u20 u21 u22 u23 u24 u25 u26 u27 u28 u29 u30 u31 u32 u33 u34 u35 u36 u37 u38 u39 u40 u41 u42 u43 u44 u45 u46 u47 u48 u49 u50 u51 u52 u53 u54 u55 u56 u57 u58 u59 u60 u61 u62 u63 u64 u65 u66 u67 u68 u69 u70 u71:Value,a' = { tmps:=#[.pointer (some ⟨hb,0,none⟩),.int .i64 k,u2,u3,u4,u5,u6,u7,u8,u9,u10,u11,u12,u13,u14,u15,u16,u17,u18,u19,u20,u21,u22,u23,u24,u25,u26,u27,u28,u29,u30,u31,u32,u33,u34,u35,u36,u37,u38,u39,u40,u41,u42,u43,u44,u45,u46,u47,u48,u49,u50,u51,u52,u53,u54,u55,u56,u57,u58,u59,u60,u61,u62,u63,u64,u65,u66,u67,u68,u69,u70,u71],defers:=[] })
   (fun a' _ => d0.length - (intOf (a'.tmps.getD 1 undef)).toNat) ?_ ?_
  ·exact ⟨0,d0,rfl,List.Perm.refl _,hu,by omega,h0,grown_refl _ _,_,_,_,_,_,_,_,_,_,_,_,_,_,_,_,_,_,_,_,_,_,_,_,_,_,_,_,_,_,_,_,_,_,_,_,_,_,_,_,_,_,_,_,_,_,_,_,_,_,_,_,_,_,_,_,_,_,_,_,_,_,_,_,_,_,_,_,_,_,_,rfl⟩
  ·rintro a' wo ⟨k,d,hd,hp,hi,hk,hA0,hg0,⟨u2,u3,u4,u5,u6,u7,u8,u9,u10,u11,u12,u13,u14,u15,u16,u17,u18,u19,u20,u21,u22,u23,u24,u25,u26,u27,u28,u29,u30,u31,u32,u33,u34,u35,u36,u37,u38,u39,u40,u41,u42,u43,u44,u45,u46,u47,u48,u49,u50,u51,u52,u53,u54,u55,u56,u57,u58,u59,u60,u61,u62,u63,u64,u65,u66,u67,u68,u69,u70,u71,rfl⟩⟩
   have hdc:d.length ≤ cap:=by omega
   have hdm:d.length ≤ 1000000:=by omega
   have hdh:=Lib.hid hd
   clear hd
   go_wp2
   go_loopw [4,5] (fun f b wr => ∃ (c q:Nat),q ≤ 2 ∧ c ≤ 2 * k + q ∧ b = .int .i64 (2 * (k:Int) + 1 + (q:Int)) ∧ f = .int .i64 c ∧ Hid (c = pkB d k q) ∧ HeapAt wr hb g cap d ∧ w.grownBy wr (some g)) (fun _ b _ => (2 * (k:Int) + 4 - intOf b).toNat)
   case atStart => exact ⟨k,0,by omega,by omega,by go_num,rfl,rfl,hA0,hg0⟩
   case round =>
    obtain ⟨c,q,hq,hcq,rfl,rfl,HC,hA,hg⟩:=hrel
    clear hA0 hg0
    have cb:wr.cell? ⟨hb,0,none⟩ = some (.slice (some ⟨g,0,none⟩) d.length cap):=hA.head.cell 0
    have fb:=hA.head.free 0
    have hne:=hA.ne_
    by_cases hrun:q < 2 ∧ 2 * k + 1 + q < d.length
    ·obtain ⟨hq2,hbl⟩:=hrun
     have hcl:c < d.length:=by omega
     have cb0:=hA.fst hbl
     have cb1:=hA.snd hbl
     have cc0:=hA.fst hcl
     have cc1:=hA.snd hcl
     obtain ⟨m,hm⟩:∃ m:Nat,2 * k + 1 + q = m:=⟨_,rfl⟩
     have hmi:2 * (k:Int) + 1 + (q:Int) = (m:Int):=by omega
     rw [hm] at cb0 cb1 hbl
     rw [hmi]
     have HM:=Lib.hid hm
     have hm2:(m:Int) ≤ 2 * (k:Int) + 2:=by omega
     have hml:(m:Int) < (d.length:Int):=by omega
     clear hm hmi
     go_wp2
     have q_cb:=fun d os => cell_regrown cb d os
     have q_cb0:=fun d os => cell_regrown cb0 d os
     have q_cb1:=fun d os => cell_regrown cb1 d os
     have q_cc0:=fun d os => cell_regrown cc0 d os
     have q_cc1:=fun d os => cell_regrown cc1 d os
     cases ha:ahd (gt d m) (gt d c)
     ·have HA:=Lib.hid ha
      clear ha
      try simp only [List.append]
      first | refine wp_region_text_below ?_ | refine wp_region_quiet_below (by kernel_rfl) (by kernel_rfl) ?_
      repeat (go_big_quiet_step ((go_at_call 186; with_reducible exact Calls.regrown_of (HA.out ▸ ahead_any (gt d m) (gt d c) _))))
      refine wpQuiet_nil ?_
      intro _ hqw
      obtain ⟨pq,hqw⟩:=hqw
      subst hqw
      clear q_cb q_cb0 q_cb1 q_cc0 q_cc1
      have hbel:=below_regrown wr pq.d pq.os
      generalize hwq:grow (redrawn wr pq.d) pq.os = wq at *
      have hA2:=hA.grown (grown_of_below (row:=none) hbel) (by simp) (by simp)
      have hg2:=grown_trans hg (grown_of_below (row:=some g) hbel)
      clear hwq hbel hA hg cb cb0 cb1 cc0 cc1 fb
      go_wp2
      go_roundw
      case rel => exact ⟨c,q + 1,by omega,by omega,by have:=HM.out; go_num,rfl,by have h:=pkB_step hq2 (d:=d) (i:=k) (by have:=HM.out; omega); rw [← HC.out,HM.out,HA.out] at h; exact h.symm,hA2,hg2⟩
      case measure => simp [intOf]; omega
     ·have HA:=Lib.hid ha
      clear ha
      try simp only [List.append]
      first | refine wp_region_text_below ?_ | refine wp_region_quiet_below (by kernel_rfl) (by kernel_rfl) ?_
      repeat (go_big_quiet_step ((go_at_call 186; with_reducible exact Calls.regrown_of (HA.out ▸ ahead_any (gt d m) (gt d c) _))))
      refine wpQuiet_nil ?_
      intro _ hqw
      obtain ⟨pq,hqw⟩:=hqw
      subst hqw
      clear q_cb q_cb0 q_cb1 q_cc0 q_cc1
      have hbel:=below_regrown wr pq.d pq.os
      generalize hwq:grow (redrawn wr pq.d) pq.os = wq at *
      have hA2:=hA.grown (grown_of_below (row:=none) hbel) (by simp) (by simp)
      have hg2:=grown_trans hg (grown_of_below (row:=some g) hbel)
      clear hwq hbel hA hg cb cb0 cb1 cc0 cc1 fb
      go_wp2
      go_roundw
      case rel => exact ⟨m,q + 1,by omega,by have:=HM.out; omega,by have:=HM.out; go_num,rfl,by have h:=pkB_step hq2 (d:=d) (i:=k) (by have:=HM.out; omega); rw [← HC.out,HM.out,HA.out] at h; exact h.symm,hA2,hg2⟩
      case measure => simp [intOf]; omega
    ·have hend:pick d k = c:=by rw [HC.out]; exact pkB_end hq (by omega)
     have HE:=Lib.hid hend
     clear hend
     have hcase:(q < 2 ∧ d.length ≤ 2 * k + 1 + q) ∨ q = 2:=by omega
     clear hrun
     rcases hcase with ⟨hq2,hlen⟩ | rfl
     all_goals
      by_cases hkc:c = k
      ·subst hkc
       have hkk:((c:Int) != (c:Int)) = false:=by simp
       go_wp2
       simp only [Exit.jump]
       go_end0
       exact ⟨rfl,d,hdh.out,hp,down_end hi HE.out,hA,hg⟩
      ·have hkk:((c:Int) != (k:Int)) = true:=by rw [bne_iff_ne]; omega
       have hkl:k < d.length:=by
        have:=pick_cases d k; rw [HE.out] at this; omega
       obtain ⟨n1,n2,n3,n4⟩:=down_step hi hkl (by rw [HE.out]; exact hkc)
       rw [HE.out] at n1 n2 n3 n4
       have N1:=Lib.hid n1
       clear n1 n4
       go_wp2
       have cb:wr.cell? ⟨hb,0,none⟩ = some (.slice (some ⟨g,0,none⟩) d.length cap):=hA.head.cell 0
       have ck0:=hA.fst hkl
       have ck1:=hA.snd hkl
       have cp0:=hA.fst n3
       have cp1:=hA.snd n3
       have fk0:=hA.row.frozenAt (k * 2)
       have fk1:=hA.row.frozenAt (k * 2 + 1)
       have fp0:=hA.row.frozenAt (c * 2)
       have fp1:=hA.row.frozenAt (c * 2 + 1)
       go_region
       go_wp2
       have hS:=hA.swap hkl n3
       go_step3
       refine ⟨rfl,⟨c,swp d k c,by rw [swp_length]; exact hdh.out,(swp_perm d k c hkl n3).trans hp,N1.out,by rw [swp_length]; omega,hS.1.drew,grown_trans hg (grown_drew hS.2),_,_,_,_,_,_,_,_,_,_,_,_,_,_,_,_,_,_,_,_,_,_,_,_,_,_,_,_,_,_,_,_,_,_,_,_,_,_,_,_,_,_,_,_,_,_,_,_,_,_,_,_,_,_,_,_,_,_,_,_,_,_,_,_,_,_,_,_,_,_,rfl⟩,?_⟩
       have:=hdh.out
       simp [intOf]
       omega
end Go.Proofs.YtodcoockhkghdaaGreat
namespace Go.Proofs.YtodcoockhkghdaaGreat
open Go.ChangeShapes Go.WideShapes Go.ChangeAt Go.RowKit Go.Sort Hp
set_option linter.unusedSimpArgs false
set_option linter.unusedVariables false
theorem ready_info:(Tryz.prog.info? 150).map (fun i => (i.zero,i.size,i.bytes)) = some (some (.agg #[.int .i64 0,.int .i64 0]),2,16):=by kernel_rfl
structure HeapV (w:World) (hb:Nat) (v:Value) (d:List (Int × Int)):Prop where
 head:Blok w hb 223 #[v]
 row:w.ownsRow 0 150 2 v d.length (flat2 d)
theorem own_pos {w:World} {base:Nat} {e:TypeId} {size n:Nat} {v:Value} {xs:List Value} (h:w.ownsRow base e size v n xs) (hn:0 < n):∃ g c,v = .slice (some ⟨g,0,none⟩) n c ∧ n ≤ c:=by
 rcases h.2 with ⟨rfl,rfl⟩ | ⟨g',cap,cur,rfl,_,_,hc,_⟩
 ·omega
 ·exact ⟨_,_,rfl,hc⟩
theorem HeapV.at_ {w:World} {hb g cap:Nat} {d:List (Int × Int)} (h:HeapV w hb (.slice (some ⟨g,0,none⟩) d.length cap) d):HeapAt w hb g cap d:=⟨h.head,h.row⟩
theorem HeapAt.v {w:World} {hb g cap:Nat} {d:List (Int × Int)} (h:HeapAt w hb g cap d):HeapV w hb (.slice (some ⟨g,0,none⟩) d.length cap) d:=⟨h.head,h.row⟩
set_option maxHeartbeats 2000000 in
set_option maxRecDepth 100000 in
theorem push_any (hb:Nat) (v:Value) (d:List (Int × Int)) (r:Int × Int) (w:World) (hsz:d.length < 1000000) (h0:HeapV w hb v d) (hh:isHeap d) :
  Calls Tryz.prog 152 #[.pointer (some ⟨hb,0,none⟩),.agg #[.int .i64 r.1,.int .i64 r.2]] w fun e w' => e = .returned (.tuple #[]) ∧ ∃ v' d',d'.Perm (d ++ [r]) ∧ isHeap d' ∧ HeapV w' hb v' d' ∧ Kept (fun k => k = hb ∨ v.ownBlock = some k) w w' ∧ (v'.ownBlock = v.ownBlock ∨ ∃ k,w.heap.size ≤ k ∧ v'.ownBlock = some k):=by
 obtain ⟨i0,hi0,hz0,hz1,hz2⟩:=info_parts ready_info
 have cb:w.cell? ⟨hb,0,none⟩ = some v:=h0.head.cell 0
 have fb:=h0.head.free 0
 have hbl:=h0.head.lt
 go_enter Tryz.func152,Tryz.ntmps152
 go_wp2
 go_region_law (refine step_append_own rfl (.tmp 8) (.tmp 10) 105 rfl 0 150 i0 _ 2 16 Tryz.underlying105 hi0 hz0 hz1 hz2 rfl (by decide) v d.length (flat2 d) rfl ((h0.row.alloc _).alloc _) ⟨w.heap.size + 1,0,none⟩ 1 1 [.int .i64 r.1,.int .i64 r.2] rfl rfl (by exact lit_cells _ #[.int .i64 r.1,.int .i64 r.2] _ _ (by simp)) (by simp [Value.oneCell']) (by unfold maxLen; omega) (by omega) (by omega) ?_; intro v1 w1 hown1 hg1 hx hwh1; clear hx; obtain ⟨g1,c1,rfl,hc1⟩:=own_pos hown1 (by omega); have hb1:=Blok.over h0.head hg1 (Blok.ne_own h0.row h0.head (by decide)) (by (repeat (first | exact Below.refl _ _ | refine Below.alloc ?_ (by first | omega | (simp; done) | (simp; omega)) _ | refine Below.setCell ?_ (by first | omega | (simp; done) | (simp; omega)) _ | refine Below.drew ?_))); have cb1:w1.cell? ⟨hb,0,none⟩ = some v:=hb1.cell 0; have fb1:=hb1.free 0; have HW:=Lib.hid hwh1; clear hwh1)
 all_goals
  have hne:=Blok.ne_own hown1 hb1 (by decide)
  have hnb:hb ≠ g1:=by
   simp only [Value.ownBlock] at hne
   exact fun e => hne (by rw [e])
  have hA:HeapAt ((w1.setCell ⟨hb,0,none⟩ (.slice (some ⟨g1,0,none⟩) (d.length + 1) c1))) hb g1 c1 (d ++ [r]):=by
   refine ⟨?_,?_⟩
   ·rw [List.length_append]
    exact one_setCell hb1
   ·rw [List.length_append,flat2_append]
    exact ownsRow_setCell_other hown1 (by simpa using hne) _
  have hu:=up_start hh r
  have hK:Kept (fun k => k = hb ∨ v.ownBlock = some k) w ((w1.setCell ⟨hb,0,none⟩ (.slice (some ⟨g1,0,none⟩) (d.length + 1) c1))):=by
   exact Kept.set (Kept.grow_ (Kept.of_below (by (repeat (first | exact Below.refl _ _ | refine Below.alloc ?_ (by first | omega | (simp; done) | (simp; omega)) _ | refine Below.setCell ?_ (by first | omega | (simp; done) | (simp; omega)) _ | refine Below.drew ?_)))) hg1 (fun i _ h => .inr h)) (fun _ => .inl rfl) _ _
  clear cb fb cb1 fb1 hb1 hg1 hown1 hne
  generalize hwq:((w1.setCell ⟨hb,0,none⟩ (.slice (some ⟨g1,0,none⟩) (d.length + 1) c1))) = wq at *
  have cb:wq.cell? ⟨hb,0,none⟩ = some (.slice (some ⟨g1,0,none⟩) (d.length + 1) c1):=by
   have:=hA.head.cell 0
   rw [List.length_append] at this
   exact this
  clear hwq
  go_wp2_with fail
  refine (rise_any hb g1 c1 d.length (d ++ [r]) wq (by simpa using hc1) (by simp; omega) hA hu).mono ?_
  rintro e w2 ⟨rfl,d',k1,k2,k3,k4,k5⟩
  have K1:=Lib.hid k1
  clear k1
  go_wp2
  go_end0
  refine ⟨rfl,_,d',k2,k3,k4.v,Kept.grow_ hK k5 (fun i hi h => ?_),?_⟩
  ·rcases HW.out with e | e
   ·exact .inr (e ▸ h)
   ·have e2:some g1 = _:=e
    rw [h] at e2; simp at e2; omega
  ·rcases HW.out with e | e
   ·exact .inl e
   ·refine .inr ⟨_,?_,e⟩
    simp
    omega
set_option maxRecDepth 100000 in
theorem peek_none (hb:Nat) (v:Value) (w:World) (h0:HeapV w hb v []) :
  Calls Tryz.prog 178 #[.pointer (some ⟨hb,0,none⟩)] w fun e w' => e = .returned (.tuple #[.agg #[.int .i64 0,.int .i64 0],.bool false]) ∧ Below w.heap.size w w':=by
 have cb:w.cell? ⟨hb,0,none⟩ = some v:=h0.head.cell 0
 obtain ⟨A,c,rfl⟩:=slice_of_own h0.row
 have hl:=h0.head.lt
 clear h0
 go_enter Tryz.func178,Tryz.ntmps178
 go_wp2
 exact bodyPost_ret (v:=.tuple #[.agg #[.int .i64 0,.int .i64 0],.bool false]) (by simp [results,Tryz.results178,go_sem]) rfl ⟨rfl,by (repeat (first | exact Below.refl _ _ | refine Below.alloc ?_ (by first | omega | (simp; done) | (simp; omega)) _ | refine Below.setCell ?_ (by first | omega | (simp; done) | (simp; omega)) _ | refine Below.drew ?_))⟩
set_option maxHeartbeats 1000000 in
set_option maxRecDepth 100000 in
theorem peek_some (hb g cap:Nat) (d:List (Int × Int)) (w:World) (h0:HeapAt w hb g cap d) (hd:0 < d.length) :
  Calls Tryz.prog 178 #[.pointer (some ⟨hb,0,none⟩)] w fun e w' => e = .returned (.tuple #[.agg #[.int .i64 (gt d 0).1,.int .i64 (gt d 0).2],.bool true]) ∧ Below w.heap.size w w':=by
 have cb:w.cell? ⟨hb,0,none⟩ = some (.slice (some ⟨g,0,none⟩) d.length cap):=h0.head.cell 0
 have c0:w.cell? ⟨g,0,none⟩ = some (.int .i64 (gt d 0).1):=by have:=h0.fst hd; rw [Nat.zero_mul] at this; exact this
 have c1:w.cell? ⟨g,1,none⟩ = some (.int .i64 (gt d 0).2):=by have:=h0.snd hd; rw [Nat.zero_mul,Nat.zero_add] at this; exact this
 have hl:=h0.head.lt
 have hgl:g < w.heap.size:=(h0.row.lt g rfl).2
 have hz:((d.length:Int) == 0) = false:=beq_eq_false_iff_ne.2 (by omega)
 clear h0
 go_enter Tryz.func178,Tryz.ntmps178
 go_wp2
 exact bodyPost_ret (v:=.tuple #[.agg #[.int .i64 (gt d 0).1,.int .i64 (gt d 0).2],.bool true]) (by simp [results,Tryz.results178,go_sem]) rfl ⟨rfl,by (repeat (first | exact Below.refl _ _ | refine Below.alloc ?_ (by first | omega | (simp; done) | (simp; omega)) _ | refine Below.setCell ?_ (by first | omega | (simp; done) | (simp; omega)) _ | refine Below.drew ?_))⟩
set_option maxRecDepth 100000 in
theorem pop_none (hb:Nat) (v:Value) (w:World) (h0:HeapV w hb v []) :
  Calls Tryz.prog 151 #[.pointer (some ⟨hb,0,none⟩)] w fun e w' => e = .returned (.tuple #[.agg #[.int .i64 0,.int .i64 0],.bool false]) ∧ Below w.heap.size w w':=by
 have hB0:Below w.heap.size w (w.alloc (.cells #[.int .i64 0,.int .i64 0] 150)):=(Below.refl _ _).alloc (Nat.le_refl _) _
 have h1:HeapV (w.alloc (.cells #[.int .i64 0,.int .i64 0] 150)) hb v []:=⟨h0.head.below hB0 h0.head.lt,h0.row.alloc _⟩
 have hl:=h0.head.lt
 clear h0
 go_enter Tryz.func151,Tryz.ntmps151
 go_wp2_with fail
 refine (peek_none hb v _ h1).mono ?_
 rintro e w1 ⟨rfl,hB⟩
 have hR:=(Blok.new w 150 #[.int .i64 0,.int .i64 0]).below hB (by simp)
 have r0:w1.cell? ⟨w.heap.size,0,none⟩ = some (.int .i64 0):=hR.cell 0
 have r1:w1.cell? ⟨w.heap.size,1,none⟩ = some (.int .i64 0):=hR.cell 1
 have f0:=hR.free 0
 have f1:=hR.free 1
 have hs:=hB.size
 simp only [World.size_alloc] at hs
 have hlt:w.heap.size < w1.heap.size:=by omega
 clear h1 hR
 go_wp2
 refine bodyPost_ret (v:=.tuple #[.agg #[.int .i64 0,.int .i64 0],.bool false]) ?_ rfl ⟨rfl,?_⟩
 ·simp [results,Tryz.results151,go_sem,r0,r1,hlt]
 ·(repeat (first | exact Below.refl _ _ | exact hB | refine Below.alloc ?_ (by first | omega | (simp; done) | (simp; omega)) _ | refine Below.setCell ?_ (by first | omega | (simp; done) | (simp; omega)) _ | refine Below.drew ?_ | refine Below.trans ?_ (hB.mono (by first | omega | (simp; done) | (simp; omega)))))
theorem own_take {w:World} {base:Nat} {e:TypeId} {size n m g c:Nat} {xs:List Value} (h:w.ownsRow base e size (.slice (some ⟨g,0,none⟩) n c) n xs) (hm:m ≤ n):w.ownsRow base e size (.slice (some ⟨g,0,none⟩) m c) m (xs.take (m * size)):=by
 have hle:m * size ≤ n * size:=Nat.mul_le_mul_right _ hm
 refine ⟨by rw [List.length_take,h.1]; omega,?_⟩
 rcases h.2 with ⟨h',_⟩ | ⟨g',cap,cur,h',hb,hg,hc,hcm,hs,ht⟩
 ·simp at h'
 ·simp only [Value.slice.injEq,Option.some.injEq,Addr.mk.injEq,and_true,true_and] at h'
  obtain ⟨rfl,rfl⟩:=h'
  refine .inr ⟨g,c,cur,rfl,hb,hg,by omega,hcm,hs,?_⟩
  rw [← ht,List.take_take]
  congr 1
  omega
theorem flat2_cut (d:List (Int × Int)) (h:0 < d.length):flat2 (cutF d) = ((flat2 (d.set 0 (gt d (d.length - 1)))).take ((d.length - 1) * 2)):=by
 rw [flat2_take]; rfl
set_option maxHeartbeats 2000000 in
set_option maxRecDepth 100000 in
theorem pop_some (hb g cap:Nat) (d:List (Int × Int)) (w:World) (hcap:d.length ≤ cap) (hsz:d.length ≤ 1000000) (h0:HeapAt w hb g cap d) (hh:isHeap d) (hd:0 < d.length) :
  Calls Tryz.prog 151 #[.pointer (some ⟨hb,0,none⟩)] w fun e w' => e = .returned (.tuple #[.agg #[.int .i64 (gt d 0).1,.int .i64 (gt d 0).2],.bool true]) ∧ ∃ d',(gt d 0 :: d').Perm d ∧ isHeap d' ∧ HeapAt w' hb g cap d' ∧ Kept (fun k => k = hb ∨ k = g) w w':=by
 have hB0:Below w.heap.size w (w.alloc (.cells #[.int .i64 0,.int .i64 0] 150)):=(Below.refl _ _).alloc (Nat.le_refl _) _
 have h1:HeapAt (w.alloc (.cells #[.int .i64 0,.int .i64 0] 150)) hb g cap d:=h0.grown (grown_of_below (row:=none) hB0) (by simp) (by simp)
 have hl:=h0.head.lt
 have hgl:g < w.heap.size:=(h0.row.lt g rfl).2
 clear h0
 go_enter Tryz.func151,Tryz.ntmps151
 go_wp2_with fail
 refine (peek_some hb g cap d _ h1 hd).mono ?_
 rintro e w1 ⟨rfl,hB⟩
 have hR:=(Blok.new w 150 #[.int .i64 0,.int .i64 0]).below hB (by simp)
 have hA:=h1.grown (grown_of_below (row:=none) hB) (by simp) (by simp)
 have hs:=hB.size
 simp only [World.size_alloc] at hs
 have hlt:w.heap.size < w1.heap.size:=by omega
 have hK:=Kept.of_below (S:=fun k => k = hb ∨ k = g) (hB0.trans (hB.mono (by simp)))
 have cb:w1.cell? ⟨hb,0,none⟩ = some (.slice (some ⟨g,0,none⟩) d.length cap):=hA.head.cell 0
 have fb:=hA.head.free 0
 have hne:=hA.ne_
 have hdm:d.length - 1 < d.length:=by omega
 obtain ⟨m,hm⟩:∃ m,d.length = m + 1:=⟨d.length - 1,by omega⟩
 have cl0:=hA.fst hdm
 have cl1:=hA.snd hdm
 have e0:=hA.row.frozenAt 0
 have e1:=hA.row.frozenAt 1
 have z0:=hA.fst hd
 have z1:=hA.snd hd
 have hml:m < d.length:=by omega
 rw [show d.length - 1 = m from by omega] at cl0 cl1
 rw [Nat.zero_mul] at z0
 rw [Nat.zero_mul,Nat.zero_add] at z1
 have HM:=Lib.hid hm
 have hl1:hb < w1.heap.size:=by omega
 have hgl1:g < w1.heap.size:=by omega
 clear h1 hm hdm
 go_wp2
 rw [show (d.length:Int) - 1 = (m:Int) from by have:=HM.out; omega]
 have hF:=Blok.new w1 150 #[.int .i64 (gt d 0).1,.int .i64 (gt d 0).2]
 have hBa:Below w1.heap.size w1 (w1.alloc (.cells #[.int .i64 (gt d 0).1,.int .i64 (gt d 0).2] 150)):=(Below.refl _ _).alloc (Nat.le_refl _) _
 have hR2:=hR.below hBa hlt
 have hA2:=hA.grown (grown_of_below (row:=none) hBa) (by simp) (by simp)
 have hK2:=hK.alloc (.cells #[.int .i64 (gt d 0).1,.int .i64 (gt d 0).2] 150)
 have hFR:w1.heap.size ≠ w.heap.size:=by omega
 have hFb:hb ≠ w1.heap.size:=by omega
 have hFg:g ≠ w1.heap.size:=by omega
 have hRb:hb ≠ w.heap.size:=by omega
 have hRg:g ≠ w.heap.size:=by omega
 clear hR hA hK cb fb cl0 cl1 e0 e1 z0 z1 hBa hB hB0 hs hlt hl1 hgl1
 generalize hwq:w1.alloc (.cells #[.int .i64 (gt d 0).1,.int .i64 (gt d 0).2] 150) = w2 at *
 generalize w1.heap.size = F at *
 generalize hRn:w.heap.size = R at *
 clear hwq
 have hm1:d.length - 1 = m:=by have:=HM.out; omega
 have cb:w2.cell? ⟨hb,0,none⟩ = some (.slice (some ⟨g,0,none⟩) d.length cap):=hA2.head.cell 0
 have fb:=hA2.head.free 0
 have cl0:=hA2.fst hml
 have cl1:=hA2.snd hml
 have e0:=hA2.row.frozenAt 0
 have e1:=hA2.row.frozenAt 1
 have z0:=hA2.fst hd
 have z1:=hA2.snd hd
 rw [Nat.zero_mul] at z0
 rw [Nat.zero_mul,Nat.zero_add] at z1
 have HN:=Lib.hid hRn
 have HM1:=Lib.hid hm1
 clear hRn hm1
 go_region
 have hS:=hA2.store 0 (gt d m)
 rw [Nat.zero_mul,Nat.zero_add] at hS
 have hA3:=hS.1.drew
 have hg3:=grown_drew hS.2
 have hK3:=Kept.grow_ hK2 hg3 (fun i _ h => .inr (by simpa using h.symm))
 have hR3:=hR2.grown hg3 (fun e => hRg (by simpa using e.symm))
 have hF3:=hF.grown hg3 (fun e => hFg (by simpa using e.symm))
 clear hS hA2 hg3 hK2 hR2 hF cb fb cl0 cl1 e0 e1 z0 z1
 generalize ((w2.setCell ⟨g,0,none⟩ (.int .i64 (gt d m).1)).setCell ⟨g,1,none⟩ (.int .i64 (gt d m).2)).drew = w3 at *
 have cb:w3.cell? ⟨hb,0,none⟩ = some (.slice (some ⟨g,0,none⟩) d.length cap):=by
  have:=hA3.head.cell 0
  rw [List.length_set] at this
  exact this
 have fb:=hA3.head.free 0
 have hmc:m ≤ cap:=by omega
 go_wp2_with fail
 have hA4:HeapAt (w3.setCell ⟨hb,0,none⟩ (.slice (some ⟨g,0,none⟩) m cap)) hb g cap (cutF d):=by
  refine ⟨?_,?_⟩
  ·rw [cut_length,HM1.out]
   exact one_setCell hA3.head
  ·rw [cut_length,HM1.out,flat2_cut d hd,HM1.out]
   have hx:=hA3.row
   rw [List.length_set] at hx
   exact ownsRow_setCell_other (own_take hx (by omega)) (by simp only [Value.ownBlock]; intro e; exact hne (by simpa using e.symm)) _
 have hK4:=hK3.set (g:=hb) (fun _ => .inl rfl) 0 (.slice (some ⟨g,0,none⟩) m cap)
 have hR4:=hR3.far (p:=⟨hb,0,none⟩) (fun e => hRb e.symm) (.slice (some ⟨g,0,none⟩) m cap)
 have hF4:=hF3.far (p:=⟨hb,0,none⟩) (fun e => hFb e.symm) (.slice (some ⟨g,0,none⟩) m cap)
 clear hA3 hK3 hR3 hF3 cb fb
 generalize w3.setCell ⟨hb,0,none⟩ (.slice (some ⟨g,0,none⟩) m cap) = w4 at *
 refine (sink_any hb g cap (cutF d) w4 (by rw [cut_length]; omega) (by rw [cut_length]; omega) hA4 (cut_down hh)).mono ?_
 rintro e w5 ⟨rfl,d',k1,k2,k3,k4,k5⟩
 have K1:=Lib.hid k1
 have hR5:=hR4.grown k5 (fun e => hRg (by simpa using e.symm))
 have hF5:=hF4.grown k5 (fun e => hFg (by simpa using e.symm))
 have r0:w5.cell? ⟨R,0,none⟩ = some (.int .i64 0):=hR5.cell 0
 have r1:w5.cell? ⟨R,1,none⟩ = some (.int .i64 0):=hR5.cell 1
 have f0:=hR5.free 0
 have f1:=hR5.free 1
 have q0:w5.cell? ⟨F,0,none⟩ = some (.int .i64 (gt d 0).1):=hF5.cell 0
 have q1:w5.cell? ⟨F,1,none⟩ = some (.int .i64 (gt d 0).2):=hF5.cell 1
 have hK5:=Kept.grow_ hK4 k5 (fun i _ h => .inr (by simpa using h.symm))
 clear k1 hR4 hF4 hA4 hK4 k5
 go_wp2
 refine bodyPost_ret (v:=.tuple #[.agg #[.int .i64 (gt d 0).1,.int .i64 (gt d 0).2],.bool true]) ?_ rfl ⟨rfl,d',?_,k3,?_,?_⟩
 ·simp [results,Tryz.results151,go_sem,r0,r1,hFR]
 ·exact (List.Perm.cons _ k2).trans (cut_perm hd)
 ·have g1:=grown_set (g:=R) w5 0 (.int .i64 (gt d 0).1)
  exact (k4.grown (row:=some R) (grown_trans g1 (grown_set (g:=R) _ 1 (.int .i64 (gt d 0).2))) (by simpa using fun e => hRb e.symm) (by simpa using fun e => hRg e.symm))
 ·exact (hK5.set (g:=R) (fun h => by have:=HN.out; omega) 0 _).set (g:=R) (fun h => by have:=HN.out; omega) 1 _
structure HeapB (w:World) (B hb:Nat) (v:Value) (d:List (Int × Int)) (l:List (Int × Int)):Prop where
 at_:HeapV w hb v d
 heap:isHeap d
 perm:d.Perm l
 hb:B ≤ hb
 own:∀ k,v.ownBlock = some k → B ≤ k
theorem take_next {l:List (Int × Int)} {k:Nat} (h:k < l.length):l.take (k + 1) = l.take k ++ [gt l k]:=by
 rw [List.take_succ_eq_append_getElem h]
 congr 2
 unfold gt
 rw [List.getD_eq_getElem?_getD,List.getElem?_eq_getElem h]
 rfl
theorem add_next (ad:Addr) (j m:Nat) (hm:0 < m):(⟨(ad.add j).block,(ad.add j).off + m,none⟩:Addr) = ad.add (j + m):=by
 unfold Addr.add
 by_cases hj:j = 0
 ·subst hj; simp; omega
 ·simp [hj]; omega
theorem Lst.fst2 {w:World} {B:Nat} {A:Option Addr} {n:Nat} {l:List (Int × Int)} (h:Lst w B 2 A n (flat2 l)) (hl:l.length = n) {k:Nat} (hk:k < n):∃ ad,A = some ad ∧ ad.block < B ∧ w.cell? (ad.add (k * 2)) = some (.int .i64 (gt l k).1) ∧ w.cell? ⟨(ad.add (k * 2)).block,(ad.add (k * 2)).off + 1,none⟩ = some (.int .i64 (gt l k).2):=by
 obtain ⟨ad,e,hb,hc⟩:=h.at_ (by omega)
 exact ⟨ad,e,hb,hc _ _ (by rw [flat2_fst l k (by omega)]; rfl),by rw [add_next _ _ _ (by omega)]; exact hc _ _ (by rw [flat2_snd l k (by omega)]; rfl)⟩
theorem Kept.below_of {S:Nat → Prop} {B:Nat} {w w1 w2:World} (hk:Kept S w1 w2) (hB:Below B w w1) (hs:B ≤ w1.heap.size) (hS:∀ k,k < B → ¬ S k):Below B w w2:=
 ⟨hk.os.trans hB.os,hk.tape.trans hB.tape,hk.output.trans hB.output,Nat.le_trans hB.size hk.size,fun k h => (hk.block k (by omega) (hS k h)).trans (hB.block k h)⟩
theorem HeapV.below {w w':World} {hb:Nat} {v:Value} {d:List (Int × Int)} (h:HeapV w hb v d) (hB:Below w.heap.size w w'):HeapV w' hb v d:=
 ⟨h.head.below hB h.head.lt,h.row.kept (grown_of_below (row:=some w.heap.size) hB) (.inr (fun e => by have:=(h.row.lt _ e).2; omega))⟩
theorem HeapB.below {w w':World} {B hb:Nat} {v:Value} {d l:List (Int × Int)} (h:HeapB w B hb v d l) (hB:Below w.heap.size w w'):HeapB w' B hb v d l:=⟨h.at_.below hB,h.heap,h.perm,h.hb,h.own⟩
set_option maxHeartbeats 2000000 in
set_option maxRecDepth 100000 in
theorem new_any (A:Option Addr) (n c:Nat) (l:List (Int × Int)) (w:World) (hl:l.length = n) (hn:n ≤ 1000000) (hA:Lst w w.heap.size 2 A n (flat2 l)) :
  Calls Tryz.prog 150 #[.slice A n c] w fun e w' => ∃ hb v d,e = .returned (.pointer (some ⟨hb,0,none⟩)) ∧ HeapB w' w.heap.size hb v d l ∧ Below w.heap.size w w':=by
 go_enter Tryz.func150,Tryz.ntmps150
 go_wp2
 go_loopw [10] (fun i wr => ∃ (k:Nat) (v:Value) (d:List (Int × Int)),k ≤ n ∧ i = .int .i64 k ∧ HeapB wr w.heap.size w.heap.size v d (l.take k) ∧ Below w.heap.size w wr) (fun i _ => n - (intOf i).toNat)
 case atStart => 
  refine ⟨0,.slice none 0 0,[],by omega,rfl,⟨⟨Blok.new _ _ _,World.ownsRow_nil _ _ _ _⟩,?_,List.Perm.refl _,Nat.le_refl _,by simp [Value.ownBlock]⟩,by (repeat (first | exact Below.refl _ _ | refine Below.alloc ?_ (by first | omega | (simp; done) | (simp; omega)) _ | refine Below.setCell ?_ (by first | omega | (simp; done) | (simp; omega)) _ | refine Below.drew ?_))⟩
  intro j h0 h1
  simp at h1
 case round =>
  obtain ⟨k,v,d,hk,rfl,hH,hB⟩:=hrel
  by_cases hlt:k < n
  ·obtain ⟨ad,rfl,hab,c0,c1⟩:=(hA.below hB).fst2 hl hlt
   have habw:ad.block < wr.heap.size:=by have:=hB.size; omega
   go_wp2_with fail
   have hBa:Below wr.heap.size wr (wr.alloc (.cells #[.int .i64 (gt l k).1,.int .i64 (gt l k).2] 150)):=(Below.refl _ _).alloc (Nat.le_refl _) _
   have hH2:=hH.below hBa
   have hdl:d.length < 1000000:=by
    have:=hH.perm.length_eq
    rw [List.length_take] at this
    omega
   refine (push_any _ v d (gt l k) _ hdl hH2.at_ hH2.heap).mono ?_
   rintro e w1 ⟨rfl,v1,d1,k1,k2,k3,k4,k5⟩
   have hB2:Below w.heap.size w w1:=k4.below_of (hB.trans (hBa.mono hB.size)) (by have:=hB.size; simp; omega) (fun i hi => by
    rintro (e | e)
    ·omega
    ·have:=hH.own i e; omega)
   have hP:HeapB w1 w.heap.size w.heap.size v1 d1 (l.take (k + 1)):=by
    refine ⟨k3,k2,?_,Nat.le_refl _,?_⟩
    ·rw [take_next (by omega)]
     exact k1.trans (hH.perm.append_right _)
    ·intro i hi
     rcases k5 with e | ⟨j,hj,e⟩
     ·exact hH.own i (by rw [← e]; exact hi)
     ·rw [e] at hi
      have:=hB.size
      simp at hj hi
      omega
   clear k1 k2 k3 k4 k5 c0 c1 hBa hH2
   go_wp2
   go_roundw
   case rel => exact ⟨k + 1,v1,d1,by omega,by go_num,hP,hB2⟩
   case measure => simp [intOf]; omega
  ·go_wp2
   go_ret
   obtain rfl:k = n:=by omega
   refine ⟨_,v,d,rfl,?_,hB⟩
   rw [List.take_of_length_le (by omega)] at hH
   exact hH
end Go.Proofs.YtodcoockhkghdaaGreat
namespace Go.Proofs.YtodcoockhkghdaaGreat
open Go.ChangeShapes Go.WideShapes Go.ChangeAt Go.RowKit Go.Sort
set_option linter.unusedSimpArgs false
set_option linter.unusedVariables false
theorem Blok.cells2 {w:World} {g:Nat} {T:TypeId} {a b:Value} (h:Blok w g T #[a,b]):w.cell? ⟨g,0,none⟩ = some a ∧ w.cell? ⟨g,1,none⟩ = some b ∧ g < w.heap.size:=⟨h.cell 0,h.cell 1,h.lt⟩
theorem Blok.cells4 {w:World} {g:Nat} {T:TypeId} {a b c d:Value} (h:Blok w g T #[a,b,c,d]):w.cell? ⟨g,0,none⟩ = some a ∧ w.cell? ⟨g,1,none⟩ = some b ∧ w.cell? ⟨g,2,none⟩ = some c ∧ w.cell? ⟨g,3,none⟩ = some d ∧ g < w.heap.size:=⟨h.cell 0,h.cell 1,h.cell 2,h.cell 3,h.lt⟩
theorem Blok.cells5 {w:World} {g:Nat} {T:TypeId} {a b c d e:Value} (h:Blok w g T #[a,b,c,d,e]):w.cell? ⟨g,0,none⟩ = some a ∧ w.cell? ⟨g,1,none⟩ = some b ∧ w.cell? ⟨g,2,none⟩ = some c ∧ w.cell? ⟨g,3,none⟩ = some d ∧ w.cell? ⟨g,4,none⟩ = some e ∧ g < w.heap.size:=⟨h.cell 0,h.cell 1,h.cell 2,h.cell 3,h.cell 4,h.lt⟩
end Go.Proofs.YtodcoockhkghdaaGreat
