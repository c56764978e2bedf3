/- The document's rows of IDs, all of them, and what of them are routes: All. They make new memory alone. -/
import Derived.Test.YtmbaklodgpcegaaGreatRef17
import Derived.Test.YtmbaklodgpcegaaGreatRef13c
import Derived.Test.YtmbaklodgpcegaaGreatRef12d
namespace Go.Proofs.YtmbaklodgpcegaaGreat
open Go.ChangeShapes Go.WideShapes Go.ChangeAt Go.RowKit Go.Sort Go.Maps
set_option linter.unusedSimpArgs false
set_option linter.unusedVariables false
theorem flat_len {α β : Type} {c : Nat} {g : α → List β} : ∀ {l : List α}, (∀ a ∈ l, (g a).length ≤ c) → (l.flatMap g).length ≤ l.length * c
  | [], _ => by simp
  | x :: r, h => by
    rw [List.flatMap_cons, List.length_append, List.length_cons, Nat.add_mul]
    have h1 := h x (List.mem_cons_self ..)
    have h2 := flat_len (g := g) (l := r) fun a ha => h a (List.mem_cons_of_mem _ ha)
    omega
def nextF (l : List Ed) (size q : Int) (sh : List Int) (f : Int) (k : Nat) (es : List Ed) (t : Int) (e : Ed) : List (List Int) := match e.pass t size with | none => [] | some p => rowsF l size q sh f k (es ++ [e]) e.tn p.2
theorem nextF_some {l : List Ed} {size q f t : Int} {sh : List Int} {k : Nat} {es : List Ed} {e : Ed} {p : Int × Int} (h : e.pass t size = some p) : nextF l size q sh f k es t e = rowsF l size q sh f k (es ++ [e]) e.tn p.2 := by unfold nextF; rw [h]
theorem rowsF_step (l : List Ed) (size q f : Int) (sh : List Int) (k : Nat) (es : List Ed) (m t : Int) : rowsF l size q sh f (k + 1) es m t = growT l size q sh f (nextF l size q sh f k es t) es m t := by
  rw [rowsF]
  unfold growT
  congr 1
  split
  · rfl
  · refine congrArg (fun g => l.flatMap g) (funext fun e => ?_)
    unfold growG nextF
    split
    · cases hp : e.pass t size with
      | none => rfl
      | some p => simp only []
    · rfl
theorem rowsF_len {l : List Ed} {size q f : Int} {sh : List Int} (hl : l.length ≤ 10) : ∀ (k : Nat) (es : List Ed) (m t : Int), (rowsF l size q sh f k es m t).length ≤ cntF k
  | 0, es, m, t => by rw [rowsF]; simp [cntF]
  | k + 1, es, m, t => by
    rw [rowsF_step]
    unfold growT
    rw [List.length_cons, cntF]
    split
    · simp
    · have h := flat_len (c := cntF k) (l := l) (g := growG size sh f (nextF l size q sh f k es t) es m t) (fun e _ => by
        unfold growG
        split
        · split
          · simp
          · unfold nextF
            split
            · simp
            · exact rowsF_len hl k ..
        · simp)
      have h2 : l.length * cntF k ≤ 10 * cntF k := Nat.mul_le_mul_right _ hl
      omega
theorem cntF_le9 {k : Nat} (h : k ≤ 9) : cntF k ≤ 1111111111 := by
  have : k = 0 ∨ k = 1 ∨ k = 2 ∨ k = 3 ∨ k = 4 ∨ k = 5 ∨ k = 6 ∨ k = 7 ∨ k = 8 ∨ k = 9 := by omega
  rcases this with rfl | rfl | rfl | rfl | rfl | rfl | rfl | rfl | rfl | rfl <;> decide
theorem grown_any (A : Option Addr) (n c : Nat) (l : List Ed) (f q now size : Int) (As : Option Addr) (ns cs : Nat) (sh : List Int)
    (hd : l.length = n) (hn : n ≤ 10) (hds : sh.length = ns) (hns : ns ≤ 1000000) (hask : askE l f now size = true) : ∀ (k : Nat) (es : List Ed) (m t : Int) (Ai : Option Addr) (ni ci : Nat) (w : World), k ≤ 10 → n ≤ es.length + k →
    IsRte l f m now size sh es t → es.length = ni → Sl w w.heap.size 8 A n c (flatEd l) → Sl w w.heap.size 1 As ns cs (sh.map (Value.int .i64)) → Sl w w.heap.size 1 Ai ni ci ((es.map Ed.id).map (Value.int .i64)) →
    Calls Tryz.prog 39 #[.slice A n c, .slice Ai ni ci, .int .i64 f, .int .i64 q, .int .i64 now, .int .i64 size, .slice As ns cs] w (GrownP w ⟨Ai, ni, ci, es.map Ed.id⟩ (rowsF l size q sh f k es m t))
  | 0, es, m, t, Ai, ni, ci, w, hk, hkn, hst, hni, hle, hls, hli => by
    have h := grown_step A n c l f q now size As ns cs sh es m t Ai ni ci w (fun _ => []) 0 hd hn hds hns hask hst hni (by omega) (fun _ => Nat.le_refl _) hle hls hli (fun e s a he hf hn1 hs hp A9 c9 w' hb hs9 => by
      have := (rte_one hst he hf hn1 hs hp).len
      rw [List.length_append, List.length_singleton] at this
      omega)
    have e : growT l size q sh f (fun _ => []) es m t = rowsF l size q sh f 0 es m t := by
      unfold growT
      rw [rowsF]
      have e2 : growG size sh f (fun _ => []) es m t = fun _ => [] := by
        funext e
        unfold growG
        split
        · split <;> rfl
        · rfl
      rw [e2]
      split
      · rfl
      · rw [List.flatMap_eq_nil_iff.2 (fun _ _ => rfl)]
    rw [e] at h
    exact h
  | k + 1, es, m, t, Ai, ni, ci, w, hk, hkn, hst, hni, hle, hls, hli => by
    have h := grown_step A n c l f q now size As ns cs sh es m t Ai ni ci w (nextF l size q sh f k es t) (cntF k) hd hn hds hns hask hst hni (cntF_le9 (by omega)) (fun e => by
        unfold nextF
        split
        · exact Nat.zero_le _
        · exact rowsF_len (by omega) k ..) hle hls hli (fun e s a he hf hn1 hs hp A9 c9 w' hb hs9 => by
      have h2 := grown_any A n c l f q now size As ns cs sh hd hn hds hns hask k (es ++ [e]) e.tn a A9 (ni + 1) c9 w' (by omega) (by rw [List.length_append, List.length_singleton]; omega) (rte_one hst he hf hn1 hs hp) (by rw [List.length_append, hni]; rfl) (hle.up hb) (hls.up hb) hs9
      rw [nextF_some hp]
      exact h2)
    rw [← rowsF_step] at h
    exact h
/-- What the document has in All. -/
def DocR (l : List Ed) (f q now size by_ : Int) (sh : List Int) (p : Rtp) : Prop := askE l f now size = true ∧ nodeB q = true ∧ (∃ es, IsRte l f q now size sh es p.2 ∧ p.1 = hopsE size now es) ∧ p.2 ≤ by_
def AllP (l : List Ed) (f q now size by_ : Int) (sh : List Int) (w : World) (e : Ending) (w' : World) : Prop := ∃ (v : Value) (R : List Rtp), e = .returned v ∧ RO w' w.heap.size v R ∧ SrtT R ∧ (∀ p, p ∈ R ↔ DocR l f q now size by_ sh p) ∧ Below w.heap.size w w'
theorem route_ids {l : List Ed} {ids : List Int} {f q now size : Int} {p : Rtp} (h : routeE l ids f q now size = some p) : idsT p = ids := by
  obtain ⟨es, h1, h2, h3, _⟩ := rte_of_route h
  unfold idsT
  rw [h3, hopsE_ids, h2]
theorem docR_of {l : List Ed} {f q now size by_ : Int} {sh : List Int} {n : Nat} {L : List Ix} {out R : List Rtp} (hd : l.length = n) (ha : askE l f now size = true) (hq : nodeB q = true) (hm : L.map Ix.l = rowsF l size q sh f n [] f now)
    (hO : ∀ p, p ∈ out ↔ ∃ x ∈ L, routeE l x.l f q now size = some p ∧ p.2 ≤ by_) (h1 : ∀ z ∈ R, z ∈ out) (h2 : ∀ z ∈ out, ∃ y ∈ R, cT z y = 0) : ∀ p, p ∈ R ↔ DocR l f q now size by_ sh p := by
  subst hd
  intro p
  constructor
  · intro h
    obtain ⟨x, hx, hr, hb⟩ := (hO p).1 (h1 p h)
    exact ⟨ha, hq, (doc_mem ha hq).1 ⟨x.l, by rw [← hm]; exact List.mem_map_of_mem hx, hr⟩, hb⟩
  · rintro ⟨_, _, h3, hb⟩
    obtain ⟨ids, hi, hr⟩ := (doc_mem ha hq).2 h3
    rw [← hm] at hi
    obtain ⟨x, hx, rfl⟩ := List.mem_map.1 hi
    obtain ⟨y, hy, hz⟩ := h2 p ((hO p).2 ⟨x, hx, hr, hb⟩)
    obtain ⟨x2, _, hr2, _⟩ := (hO y).1 (h1 y hy)
    have e := (cT_zero hz).1
    rw [route_ids hr, route_ids hr2] at e
    rw [e, hr2] at hr
    injection hr with hr
    rw [← hr]; exact hy
set_option maxHeartbeats 16000000 in
set_option maxRecDepth 100000 in
theorem rall17_any (A : Option Addr) (n c : Nat) (l : List Ed) (f q now size by_ : Int) (As : Option Addr) (ns cs : Nat) (sh : List Int) (w : World) (hd : l.length = n) (hn : n ≤ 10) (hds : sh.length = ns) (hns : ns ≤ 1000000)
    (hle : Sl w w.heap.size 8 A n c (flatEd l)) (hls : Sl w w.heap.size 1 As ns cs (sh.map (Value.int .i64))) :
    Calls Tryz.prog 16 #[.slice A n c, .int .i64 f, .int .i64 q, .int .i64 now, .int .i64 size, .int .i64 by_, .slice As ns cs] w (AllP l f q now size by_ sh w) := by
  obtain ⟨i0, hi0, hz0, hz1, hz2⟩ := info_parts infoRh
  have HD := Lib.hid hd
  have HDS := Lib.hid hds
  have HL := Lib.hid (fun w' (hb : Below w.heap.size w w') => hle.up hb)
  have HLS := Lib.hid (fun w' (hb : Below w.heap.size w w') => hls.up hb)
  obtain ⟨ak, hak⟩ : ∃ b, (askE l f now size && nodeB q) = b := ⟨_, rfl⟩
  have HAK := Lib.hid hak
  clear hd hds hle hls hak
  go_enter Tryz.func16, Tryz.ntmps16
  go_wp2_with fail
  refine (rasked12_any A n c l f q now size w HD.out (by omega) (HL.out _ (Below.refl _ _)) ak HAK.out).mono ?_
  rintro e w1 ⟨rfl, hb1⟩
  cases ak with
  | false =>
    have HF : AllP l f q now size by_ sh w (.returned (.slice none 0 0)) w1 := by
      refine ⟨_, [], rfl, RO.nil _ _, List.Pairwise.nil, fun p => ⟨fun h => (by cases h), fun h => ?_⟩, hb1⟩
      have h3 := HAK.out
      rw [h.1, h.2.1] at h3
      cases h3
    have HFF := Lib.hid HF
    clear HF
    go_wp2_with fail
    go_ret
    exact HFF.out
  | true =>
    have hq1 : askE l f now size = true ∧ nodeB q = true := (Bool.and_eq_true _ _).mp HAK.out
    have h0 : IsRte l f f now size sh [] now := ⟨fun x hx => (by cases hx), List.nodup_cons.2 ⟨by simp, List.nodup_nil⟩, fun y hy => (by cases hy), rfl⟩
    have HG := grown_any A n c l f q now size As ns cs sh HD.out hn HDS.out hns hq1.1 n [] f now none 0 0 w1 hn (by simp) h0 rfl (HL.out _ hb1) (HLS.out _ hb1) (Sl.of_own (World.ownsRow_nil w1 0 3 1))
    have HQ1 := Lib.hid hq1
    clear hq1 h0
    go_wp2_with fail
    refine HG.mono ?_
    rintro e w2 ⟨vr, L, rfl, hown, hm, hok, hnw, hb2⟩
    obtain ⟨Ar, cr, rfl⟩ := slice_of_own hown
    have hLl : L.length ≤ 11111111111 := by
      have h1 := rowsF_len (l := l) (size := size) (q := q) (f := f) (sh := sh) (by rw [HD.out]; exact hn) n [] f now
      rw [← hm, List.length_map] at h1
      exact Nat.le_trans h1 (cntF_le hn)
    have HB2 := Lib.hid (hb1.trans (hb2.mono hb1.size))
    have HOWN := Lib.hid hown
    have HM := Lib.hid hm
    have HOK := Lib.hid hok
    clear HG hown hm hok hnw hb2 hb1
    have HIDL : Hid (∀ x ∈ L, x.l.length ≤ 10) := fun x hx => by
      have h1 : x.l ∈ rowsF l size q sh f n [] f now := by rw [← HM.out]; exact List.mem_map_of_mem hx
      have h00 : IsRte l f f now size sh [] now := ⟨fun x hx => (by cases hx), List.nodup_cons.2 ⟨by simp, List.nodup_nil⟩, fun y hy => (by cases hy), rfl⟩
      obtain ⟨es', m', t', e1, h2⟩ := rowsF_is n h00 h1
      rw [e1, List.length_map]
      exact Nat.le_trans h2.len (by rw [HD.out]; exact hn)
    go_wp2_with fail
    go_loopw [16, 17] (fun ov iv wr => ∃ (i : Nat) (O : List Rx) (A5 : Option Addr) (c5 : Nat), iv = .int .i64 (i : Int) ∧ i ≤ L.length ∧ ov = .slice A5 O.length c5 ∧ Hid (RtRow wr w2.heap.size (.slice A5 O.length c5) O) ∧ Hid (∀ p, p ∈ O.map Rx.rt ↔ ∃ x ∈ L.take i, routeE l x.l f q now size = some p ∧ p.2 ≤ by_) ∧ O.length ≤ i ∧ Below w2.heap.size w2 wr) (fun _ iv _ => L.length - (intOf iv).toNat)
    case atStart => exact ⟨0, [], none, 0, rfl, Nat.zero_le _, rfl, ⟨World.ownsRow_nil _ _ _ _, fun x hx => (by cases hx), fun x hx => (by cases hx)⟩, fun p => ⟨fun h => (by cases h), fun ⟨x, h, _⟩ => (by cases h)⟩, Nat.le_refl _, Below.refl _ _⟩
    case round =>
      obtain ⟨i, O, A5, c5, rfl, hi, rfl, HR, HMO, hOl, hB⟩ := hrel
      by_cases hin : i < L.length
      · have hOr := own_belowK HOWN.out hB
        obtain ⟨gr, cr', e5, _⟩ := own_posJ hOr (by omega)
        simp only [Value.slice.injEq] at e5
        obtain ⟨rfl, _, rfl⟩ := e5
        obtain ⟨x, hx⟩ : ∃ x, L[i] = x := ⟨_, rfl⟩
        have hxL : x ∈ L := by rw [← hx]; exact List.getElem_mem _
        have c0 : wr.cell? ⟨gr, i, none⟩ = some (.slice x.A x.n x.c) := by
          rw [hOr.cellAt i (by omega), List.getElem?_map, List.getElem?_eq_getElem hin, hx]; rfl
        have HTK : Hid (∀ y, y ∈ L.take (i + 1) ↔ y ∈ L.take i ∨ y = x) := fun y => by
          rw [List.take_succ_eq_append_getElem hin, hx, List.mem_append, List.mem_singleton]
        obtain ⟨x1, x2⟩ := (HOK.out x hxL).below hB
        have x3 := HIDL.out x hxL
        obtain ⟨xA, xn, xc, xl⟩ := x
        have X1 : Hid (xl.length = xn) := x1
        have X2 : Hid (Sl wr wr.heap.size 1 xA xn xc (xl.map (Value.int .i64))) := x2
        have hxn : xn ≤ 10 := by have h := X1.out; have h2 : xl.length ≤ 10 := x3; omega
        have c0' : wr.cell? ⟨gr, i, none⟩ = some (.slice xA xn xc) := c0
        obtain ⟨o, ho⟩ : ∃ o, routeE l xl f q now size = o := ⟨_, rfl⟩
        have HO := Lib.hid ho
        have hiI : (i : Int) < (L.length : Int) := by omega
        have HBW := Lib.hid hB
        clear hOr hx hxL c0 x1 x2 x3 ho hB
        go_wp2_with fail
        refine (rRoute12_any A n c l xA xn xc xl f q now size wr HD.out (by omega) X1.out (by omega) (HL.out _ (HB2.out.trans (HBW.out.mono HB2.out.size))) X2.out o HO.out _ rfl _ rfl).mono ?_
        rintro e wz ⟨vz, rfl, hownz, hbz⟩
        obtain ⟨nz, hnz⟩ : ∃ k, (hopsO o).length = k := ⟨_, rfl⟩
        rw [hnz] at hownz
        obtain ⟨Az, cz, rfl⟩ := slice_of_own hownz
        obtain ⟨az, haz⟩ : ∃ k, arrO o = k := ⟨_, rfl⟩
        rw [haz]
        obtain ⟨ok, hok⟩ : ∃ k, o.isSome = k := ⟨_, rfl⟩
        rw [hok]
        have HZ := Lib.hid hownz
        have HNZ := Lib.hid hnz
        have HAZ := Lib.hid haz
        have HKZ := Lib.hid hok
        have HBZ := Lib.hid hbz
        clear hownz hnz haz hok hbz c0'
        have HNO : (∀ p, routeE l xl f q now size = some p → ¬ p.2 ≤ by_) → Hid (∀ p, p ∈ O.map Rx.rt ↔ ∃ x ∈ L.take (i + 1), routeE l x.l f q now size = some p ∧ p.2 ≤ by_) := fun hno p => by
          rw [HMO.out p]
          constructor
          · rintro ⟨x, h1, h2⟩
            exact ⟨x, (HTK.out x).2 (.inl h1), h2⟩
          · rintro ⟨x, h1, h2, h3⟩
            rcases (HTK.out x).1 h1 with h4 | rfl
            · exact ⟨x, h4, h2, h3⟩
            · exact absurd h3 (hno p h2)
        have HRA : Hid (∀ ob, RtRow (wz.alloc ob) w2.heap.size (.slice A5 O.length c5) O) := fun ob => HR.out.below (HBZ.out.alloc HBZ.out.size ob)
        have HBA : Hid (∀ ob, Below w2.heap.size w2 (wz.alloc ob)) := fun ob => HBW.out.trans ((HBZ.out.alloc HBZ.out.size ob).mono HBW.out.size)
        cases ok with
        | false =>
          have HM2 := HNO (fun p hp => by
            have h := HKZ.out
            rw [← HO.out, hp] at h
            cases h)
          clear HNO
          go_wp2_with fail
          go_roundw
          case rel => exact ⟨i + 1, O, A5, c5, by go_num, by omega, rfl, HRA.out _, HM2, by omega, HBA.out _⟩
          case measure => simp [intOf]; omega
        | true =>
          obtain ⟨p, hp⟩ : ∃ p, o = some p := Option.isSome_iff_exists.1 HKZ.out
          have hpa : p.2 = az := by have h := HAZ.out; rw [hp] at h; exact h
          have hrp : routeE l xl f q now size = some p := by rw [HO.out, hp]
          by_cases hle : az ≤ by_
          · have hph : hopsO o = p.1 := by rw [hp]; rfl
            have hpn : p.1.length = nz := by rw [← hph]; exact HNZ.out
            have hpl : nz ≤ 10 := by
              have h := congrArg List.length (route_ids hrp)
              unfold idsT at h
              rw [List.length_map, X1.out] at h
              omega
            have HZP : Hid (wz.ownsRow wr.heap.size 42 3 (.slice Az nz cz) nz (flatHp p.1)) := by show World.ownsRow _ _ _ _ _ _ _; rw [← hph]; exact HZ.out
            have HPN := Lib.hid hpn
            have HRP := Lib.hid hrp
            have HPA := Lib.hid hpa
            have HROW := Lib.hid (own_belowK HR.out.row HBZ.out)
            have hwz := HBZ.out.size
            have hw2 := HBW.out.size
            clear HNO hp hpa hrp hph hpn HZ
            go_upto_region 7 with (first | (at_builtin; refine wpList_append_own_at _ rfl (.tmp 60) (.tmp 62) 43 rfl w2.heap.size 27 i0 _ 2 32 Tryz.underlying43 hi0 hz0 hz1 hz2 rfl (by decide) (.slice A5 O.length c5) O.length (flatRh (hdRx O)) rfl ((HROW.out.alloc _).alloc _) ⟨wz.heap.size + 1, 0, none⟩ 1 1 [.slice Az nz cz, .int .i64 az] rfl rfl (by first | exact lit_cells _ #[.slice Az nz cz, .int .i64 az] _ _ rfl | (have h := lit_cells (wz.alloc (.cells #[.slice Az nz cz, .int .i64 az] 27)) #[.slice Az nz cz, .int .i64 az] 27 _ rfl; rw [World.size_alloc] at h; exact h)) (by simp [Value.oneCell']) (by unfold maxLen; omega) (by omega) (by simp; omega) ?_; intro v4 w4 hown4 hg4 hx4 hat4))
            obtain ⟨A6, c6, rfl⟩ := slice_of_own hown4
            have hK4 : Kept (fun g => (Value.slice A5 O.length c5).ownBlock = some g) wz w4 := Kept.grow_ (((Kept.refl _ _).alloc _).alloc _) hg4 (fun i _ h => h)
            have hO5 : ∀ g, (Value.slice A5 O.length c5).ownBlock = some g → w2.heap.size ≤ g ∧ g < wr.heap.size := fun g hg => HR.out.row.lt g hg
            have hx3 : (⟨⟨Az, nz, cz, az⟩, p.1⟩ : Rx).ok wz := ⟨HPN.out, by show nz ≤ _; omega, Sl.of_own HZP.out⟩
            have hx3o : ∀ g, g < wr.heap.size → Rx.offP g ⟨⟨Az, nz, cz, az⟩, p.1⟩ := fun g hg hp ae e => by
              have e' : Az = some ae := e
              obtain ⟨g', c', e2, _⟩ := own_posJ HZP.out hp
              simp only [Value.slice.injEq] at e2
              have e3 := e2.1
              rw [e'] at e3
              injection e3 with e3
              subst e3
              have := (HZP.out.lt g' (by rw [e'] ; rfl)).1
              show g' ≠ g
              omega
            have hal : ∀ g, (Value.slice A6 (O.length + 1) c6).ownBlock = some g → (Value.slice A5 O.length c5).ownBlock = some g ∨ wz.heap.size ≤ g := fun g hg => by
              rcases hat4 with h | h
              · exact .inl (h.symm.trans hg)
              · rw [hg] at h
                simp only [Option.some.injEq] at h
                right
                rw [h]
                simp
                try omega
            have hOl2 : (O ++ [(⟨⟨Az, nz, cz, az⟩, p.1⟩ : Rx)]).length = O.length + 1 := by rw [List.length_append]; rfl
            have HR4 : Hid (RtRow w4 w2.heap.size (.slice A6 (O.length + 1) c6) (O ++ [(⟨⟨Az, nz, cz, az⟩, p.1⟩ : Rx)])) := by
              refine ⟨?_, fun y hy => ?_, fun y hy g hg => ?_⟩
              · rw [hOl2, hdRx_app, hdRx_one]; exact hown4
              · rcases List.mem_append.1 hy with hy | hy
                · exact ((HR.out.ok y hy).below HBZ.out).keptP hK4 (fun g hg => HR.out.off y hy g hg)
                · rw [List.mem_singleton.1 hy]; exact hx3.keptP hK4 (fun g hg => hx3o g (hO5 g hg).2)
              · rcases List.mem_append.1 hy with hy | hy
                · rcases hal g hg with h | h
                  · exact HR.out.off y hy g h
                  · exact ((HR.out.ok y hy).below HBZ.out).offP_new h
                · rw [List.mem_singleton.1 hy]
                  rcases hal g hg with h | h
                  · exact hx3o g (hO5 g h).2
                  · exact hx3.offP_new h
            have HM4 : Hid (∀ z, z ∈ (O ++ [(⟨⟨Az, nz, cz, az⟩, p.1⟩ : Rx)]).map Rx.rt ↔ ∃ x ∈ L.take (i + 1), routeE l x.l f q now size = some z ∧ z.2 ≤ by_) := fun z => by
              have hpz : (⟨⟨Az, nz, cz, az⟩, p.1⟩ : Rx).rt = p := by show (p.1, az) = p; rw [← HPA.out]
              rw [List.map_append, List.mem_append, HMO.out z, List.map_cons, List.map_nil, List.mem_singleton, hpz]
              constructor
              · rintro (⟨x, h1, h2⟩ | rfl)
                · exact ⟨x, (HTK.out x).2 (.inl h1), h2⟩
                · exact ⟨_, (HTK.out _).2 (.inr rfl), HRP.out, by rw [HPA.out]; exact hle⟩
              · rintro ⟨x, h1, h2, h3⟩
                rcases (HTK.out x).1 h1 with h4 | rfl
                · exact .inl ⟨x, h4, h2, h3⟩
                · right
                  have h5 := HRP.out
                  rw [h2] at h5
                  exact Option.some.inj h5
            have hBv : Below w2.heap.size w2 w4 := below_keptJ (HBW.out.trans (HBZ.out.mono HBW.out.size)) (Nat.le_refl _) hK4 (fun g hg => (hO5 g hg).1)
            clear hown4 hg4 hx4 hat4 hK4 hO5 hx3 hx3o hal HROW HRA HBA
            go_wp2_with fail
            go_roundw
            case rel => exact ⟨i + 1, O ++ [⟨⟨Az, nz, cz, az⟩, p.1⟩], A6, c6, by go_num, by omega, by rw [hOl2], by rw [hOl2]; exact HR4.out, HM4, by omega, hBv⟩
            case measure => simp [intOf]; omega
          · have HM2 := HNO (fun p' hp' => by
              rw [hrp] at hp'
              injection hp' with hp'
              rw [← hp', hpa]
              exact hle)
            have hgt : ¬ az ≤ by_ := hle
            clear HNO hrp hpa hp
            go_wp2_with fail
            go_roundw
            case rel => exact ⟨i + 1, O, A5, c5, by go_num, by omega, rfl, HRA.out _, HM2, by omega, HBA.out _⟩
            case measure => simp [intOf]; omega
      · obtain rfl : i = L.length := by omega
        have HC := rsort13_any A5 O.length c5 O wr rfl (by omega) (Sl.of_own HR.out.row) HR.out.ok
        have HBW := Lib.hid hB
        clear hB
        go_wp2_with fail
        refine HC.mono ?_
        rintro e w' ⟨v, R, rfl, hro, hs, hm1, hm2, hb⟩
        have HF : AllP l f q now size by_ sh w (.returned v) w' := by
          have h3 := HBW.out.size
          have h4 := HB2.out.size
          refine ⟨v, R, rfl, hro.down (by omega), hs, docR_of HD.out HQ1.out.1 HQ1.out.2 HM.out (fun p => ?_) hm1 hm2, HB2.out.trans ((HBW.out.mono h4).trans (hb.mono (by omega)))⟩
          have h5 := HMO.out p
          rw [List.take_of_length_le (Nat.le_refl _)] at h5
          exact h5
        have HFF := Lib.hid HF
        clear HF hro hs hm1 hm2 hb HC
        go_wp2_with fail
        go_ret
        exact HFF.out
end Go.Proofs.YtmbaklodgpcegaaGreat
