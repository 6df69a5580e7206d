/-
  Texts of the proof, put together: MtShows, MtTT.
-/
import Derived.Test.YtmghocfkekggaaaG44
import Derived.Test.YtmghocfkekggaaaG50
import Derived.Test.YtmghocfkekggaaaG47
import Derived.Test.YtmghocfkekggaaaG49
import Derived.Test.YtmghocfkekggaaaG40

/-
  What a table shows: all macros of the document's, under their names, and no other.
-/
namespace Go.Proofs.Ytmghocfkekggaaa
open Go.RowKit Go.Maps

theorem look_at : ∀ {L : List Xm}, Rises L → ∀ {k : Nat} {m : Xm}, L[k]? = some m → look m.n L = some m
  | [], _, k, m, h => by simp at h
  | a :: r, hL, 0, m, h => by
    simp only [List.getElem?_cons_zero, Option.some.injEq] at h
    subst h
    rw [look_cons, if_pos rfl]
  | a :: r, hL, k + 1, m, h => by
    obtain ⟨h1, h2⟩ := List.pairwise_cons.1 hL
    have h' : r[k]? = some m := by simpa using h
    rw [look_cons, if_neg (fun e => by have := h1 m (List.mem_of_getElem? h'); rw [e, lessB_irrefl] at this; cases this)]
    exact look_at h2 h'
def ShBnd (L : List Xm) : Prop := L.length ≤ 1000 ∧ ∀ m ∈ L, m.n.size ≤ 1000 ∧ m.ps.length ≤ 500000 ∧ m.bd.length ≤ 500000 ∧ ∀ t ∈ m.bd, t.ss.length ≤ 500000
theorem look_in {x : ByteArray} {L : List Xm} {m : Xm} (h : look x L = some m) : m ∈ L := List.mem_of_find?_eq_some h
theorem Try.infoStr9 : (Try.prog.info? 9).map (fun i => (i.zero, i.size, i.bytes)) = some (some (.string ⟨#[]⟩), 1, 16) := by kernel_rfl

/-- A macro told into a box of its own. -/
theorem box_told (w : World) (m : Xm) (pv bv : Value) :
    ∃ w', sto8 (w.alloc zeroObj) w.heap.size (.string m.n) (.bool m.fn) (.bool m.va) pv bv (.string m.g) (.int .i64 m.f) (.int .i64 m.t) = w' ∧ BoxM m pv bv w.heap.size w' ∧ Hid (Below w.heap.size w w') ∧ w.heap.size < w'.heap.size :=
  ⟨_, rfl, sto8_cells (heap_alloc_new w zeroObj), Lib.hid (sto8_below ((Below.refl _ _).alloc (Nat.le_refl _) _) (Nat.le_refl _)), by rw [sto8_size]; simp⟩

def GotPost (w : World) (m : Xm) (e : Ending) (w' : World) : Prop := ∃ a n c b k d, e = .returned (.tuple #[.agg #[.string m.n, .bool m.fn, .bool m.va, .slice a n c, .slice b k d, .string m.g, .int .i64 m.f, .int .i64 m.t], .bool true]) ∧ MacAt m (.slice a n c) (.slice b k d) w' ∧ Below w.heap.size w w'

theorem got_any {X : World} {p : Nat} {mo : Option Nat} {sh : Bool} {N : Nat} {L : List Xm} {m : Xm} (hp : X.heap[p]? = some (tabObj mo sh)) (hm : MapIs X mo N fun x => look x L) (hlk : look m.n L = some m) (hb : ShBnd L) (hn : m.n.size ≤ 1000) :
    Calls Try.prog 31 #[.pointer (some ⟨p, 0, none⟩), .string m.n] X (GotPost X m) := by
  have h := get_mac (K := fun x => look x L) hp hm m.n hn (fun y hy => (hb.2 y (look_in hy)).2)
  unfold GetPost at h
  simp only [hlk, Option.isSome_some] at h
  refine h.mono fun e w' ⟨m', pv, bv, he, hma, hy, hbl⟩ => ?_
  obtain rfl : m' = m := hy m rfl
  obtain ⟨b1, n1, d1, rfl⟩ := hma.1.form
  obtain ⟨b2, n2, d2, rfl⟩ := hma.2.form
  exact ⟨_, _, _, _, _, _, he, hma, hbl⟩

set_option maxRecDepth 100000 in
set_option maxHeartbeats 6400000 in
theorem shows_any {w : World} {p : Nat} {mo : Option Nat} {sh : Bool} {N : Nat} {P : List Mv} {lv : Value} (hp : w.heap[p]? = some (tabObj mo sh)) (hm : MapIs w mo N fun x => look x (nameL P)) (hr : MRow P lv w) (hL : Rises (nameL P)) (hN : N ≤ 1000) (hb : ShBnd (nameL P)) :
    Calls Try.prog 17 #[.pointer (some ⟨p, 0, none⟩), lv] w (BoolNew true w) := by
  obtain ⟨a, n, cap, rfl⟩ := hr.form
  obtain ⟨hn, hc1, hc2, -⟩ := hr.len
  unfold maxLen at hc2
  have hnl : n = (nameL P).length := by unfold nameL; rw [List.length_map]; exact hn
  have hn1 : n ≤ 1000 := by rw [hnl]; exact hb.1
  have HNP := Lib.hid hn
  have HNL := Lib.hid hnl
  have HR := Lib.hid hr
  have HL := Lib.hid hL
  have HG : Hid (∀ X : World, Below w.heap.size w X → ∀ (k : Nat) (x : Mv), P[k]? = some x → Calls Try.prog 31 #[.pointer (some ⟨p, 0, none⟩), .string x.m.n] X (GotPost X x.m)) := Lib.hid (fun X hX k x hx => got_any ((hX.block p (row_lt hp)).trans hp) (hm.over hX) (look_at hL (name_get hx)) hb (hb.2 x.m (List.mem_of_getElem? (name_get hx))).1)
  have HNM : Hid (∀ X : World, Below w.heap.size w X → Calls Try.prog 34 #[.pointer (some ⟨p, 0, none⟩)] X (NamesPost X (nameL P))) := Lib.hid (fun X hX => names_mac ((hX.block p (row_lt hp)).trans hp) (hm.over hX) hL hN)
  obtain ⟨i0, hi, hz0, hz1, hz2⟩ := info_parts Try.infoStr9
  clear hp hm hr hL hn hnl hb
  go_enter Try.func17, Try.ntmps17
  go_wp2
  go_loopw [5, 6] (fun v i wr => ∃ k : Nat, i = .int .i64 (k : Int) ∧ k ≤ n ∧ Up w 9 1 v k (((nameL P).take k).map fun m => .string m.n) wr) (fun _ i _ => n - (intOf i).toNat)
  case atStart => exact ⟨0, rfl, Nat.zero_le _, up_nil _ _ _⟩
  case round =>
    obtain ⟨k, rfl, hk, hu⟩ := hrel
    obtain ⟨na, nc, rfl, hnc1, hnc2, -⟩ := row_form hu.1
    unfold maxLen at hnc2
    have HU := Lib.hid hu
    have HBW := Lib.hid hu.2
    by_cases hlt : k < n
    · obtain ⟨x, hx⟩ : ∃ x, P[k]? = some x := ⟨_, List.getElem?_eq_getElem (by rw [← HNP.out]; exact hlt)⟩
      obtain ⟨g, o, rfl, hg, hxc, hxa⟩ := HR.out.get hx
      obtain ⟨a1, n1, c1, hpv⟩ := hxa.1.form
      obtain ⟨a2, n2, c2, hbv⟩ := hxa.2.form
      have HX := Lib.hid hx
      have HXC := Lib.hid hxc
      have HXA := Lib.hid hxa
      have HGT := Lib.hid fun X hX => HG.out X hX k x hx
      obtain ⟨e0, -⟩ := hxc.next hu.2 hg
      have hgw := Nat.lt_of_lt_of_le hg hu.2.size
      have HTK : Hid (((nameL P).take k).map (fun m => Value.string m.n) ++ [.string x.m.n] = ((nameL P).take (k + 1)).map fun m => .string m.n) := Lib.hid (by
        rw [List.take_add_one, name_get hx]
        simp)
      have hkI : (k : Int) < (n : Int) := by omega
      have hk0 : (0 : Int) ≤ (k : Int) := by omega
      clear hu hxc hxa hx
      go_wp2_with (first
        | (at_builtin; refine wpList_append_ex rfl (.tmp 17) (.tmp 23) 23 rfl _ (app_up Try.underlying23 hi hz0 hz1 hz2 rfl (by decide) (by decide) (HU.out.alloc _) (src_one _ _ _) (by simp [Value.oneCell']) (by omega)) ?_
           rintro v4 w4 hu4
           obtain ⟨a4, c4, rfl, -, -, -⟩ := row_form hu4.1
           have HU4 := Lib.hid hu4
           have HB4 := Lib.hid hu4.2
           obtain ⟨e0, -⟩ := HXC.out.next hu4.2 hg
           have hg4 := Nat.lt_of_lt_of_le hg hu4.2.size
           clear hu4)
        | (go_at_call 31
           (with_reducible refine (HGT.out _ HB4.out).mono ?_)
           rintro e w5 ⟨b1, m1, d1, b2, m2, d2, rfl, hma5, hb5⟩
           have HB5 := Lib.hid hb5
           have HMA5 := Lib.hid hma5
           clear hma5 hb5))
      have hb6 : Below w5.heap.size w5 (w5.alloc (mObj x.m (.slice b1 m1 d1) (.slice b2 m2 d2))) := (Below.refl _ _).alloc (Nat.le_refl _) _
      have hq6 : (w5.alloc (mObj x.m (.slice b1 m1 d1) (.slice b2 m2 d2))).heap[w5.heap.size]? = some (mObj x.m (.slice b1 m1 d1) (.slice b2 m2 d2)) := heap_alloc_new w5 _
      obtain ⟨w6, hw6⟩ : ∃ w6, w5.alloc (mObj x.m (.slice b1 m1 d1) (.slice b2 m2 d2)) = w6 := ⟨_, rfl⟩
      have hw6' : w5.alloc (Obj.cells #[Value.string x.m.n, Value.bool x.m.fn, Value.bool x.m.va, Value.slice b1 m1 d1, Value.slice b2 m2 d2, Value.string x.m.g, Value.int IntKind.i64 x.m.f, Value.int IntKind.i64 x.m.t] 38) = w6 := hw6
      rw [hw6] at hb6 hq6
      rw [hw6']
      obtain ⟨⟨y0, y1, y2, y3, y4, y5, y6, y7⟩, -⟩ := mObj_cells hq6
      obtain ⟨q, hq⟩ : ∃ q, w5.heap.size = q := ⟨_, rfl⟩
      have hqs := row_lt hq6
      rw [hq] at y0 y1 y2 y3 y4 y5 y6 y7 hqs ⊢
      have HB46 : Hid (Below w4.heap.size w4 w6) := Lib.hid (below_up HB5.out hb6)
      have HB6 : Hid (Below w.heap.size w w6) := Lib.hid (below_up HB4.out HB46.out)
      have HU6 : Hid (Up w 9 1 (.slice a4 (k + 1) c4) (k + 1) (((nameL P).take (k + 1)).map fun m => .string m.n) w6) := Lib.hid (by
        have h4 := HU4.out
        rw [HTK.out] at h4
        exact ⟨ownsRow_over h4.1 fun g hg => HB46.out.block g (World.ownsRow.lt h4.1 g hg).2, HB6.out⟩)
      have HMA6 : Hid (MacAt x.m (.slice b1 m1 d1) (.slice b2 m2 d2) w6) := Lib.hid ((HMA5.out.over (by exact hb6)))
      clear hw6 hw6' hb6 hq6 hq HU4 HMA5 HB5 e0 hg4
      obtain ⟨e0, e1, e2, e3, e4, e5, e6, e7⟩ := HXC.out.next HB6.out hg
      have hg6 := Nat.lt_of_lt_of_le hg HB6.out.size
      have HFL : Hid (∀ X : World, Below w6.heap.size w6 X → Calls Try.prog 33 #[macV x.m (.slice b1 m1 d1) (.slice b2 m2 d2)] X (SamePost X x.m (.slice b1 m1 d1) (.slice b2 m2 d2))) := Lib.hid (fun X hX => flat9_any (HMA6.out.over hX))
      have HWH : Hid (∀ X : World, Below w6.heap.size w6 X → Calls Try.prog 32 #[macV x.m (.slice b1 m1 d1) (.slice b2 m2 d2), macV x.m x.pv x.bv] X (BoolNew true X)) := Lib.hid (fun X hX => rWhole_any (HMA6.out.over hX) (HXA.out.over (HB6.out.trans (hX.mono HB6.out.size))))
      unfold macV at HFL HWH
      rw [hpv] at e3 HWH
      rw [hbv] at e4 HWH
      clear hpv hbv
      go_region_held3 (fun w' => w'.cell? ⟨g, o + k * 8, none⟩ = some (.string x.m.n) ∧ w'.cell? ⟨g, o + k * 8 + 1, none⟩ = some (.bool x.m.fn) ∧ w'.cell? ⟨g, o + k * 8 + 2, none⟩ = some (.bool x.m.va) ∧ w'.cell? ⟨g, o + k * 8 + 3, none⟩ = some (.slice a1 n1 c1) ∧ w'.cell? ⟨g, o + k * 8 + 4, none⟩ = some (.slice a2 n2 c2) ∧ w'.cell? ⟨g, o + k * 8 + 5, none⟩ = some (.string x.m.g) ∧ w'.cell? ⟨g, o + k * 8 + 6, none⟩ = some (.int .i64 x.m.f) ∧ w'.cell? ⟨g, o + k * 8 + 7, none⟩ = some (.int .i64 x.m.t) ∧ w'.cell? ⟨q, 0, none⟩ = some (.string x.m.n) ∧ w'.cell? ⟨q, 1, none⟩ = some (.bool x.m.fn) ∧ w'.cell? ⟨q, 2, none⟩ = some (.bool x.m.va) ∧ w'.cell? ⟨q, 3, none⟩ = some (.slice b1 m1 d1) ∧ w'.cell? ⟨q, 4, none⟩ = some (.slice b2 m2 d2) ∧ w'.cell? ⟨q, 5, none⟩ = some (.string x.m.g) ∧ w'.cell? ⟨q, 6, none⟩ = some (.int .i64 x.m.f) ∧ w'.cell? ⟨q, 7, none⟩ = some (.int .i64 x.m.t))
        (first | go_keep)
        (first
          | (go_at_call 33
             (refine (HFL.out _ (Below.refl _ _).drew).mono ?_)
             rintro e w7 ⟨rfl, hb7⟩
             have hb7 := below_up (Below.refl w6.heap.size w6).drew hb7
             have HB7 := Lib.hid hb7
             have k0 := bcell hb7 e0 hg6
             have k1 := bcell hb7 e1 hg6
             have k2 := bcell hb7 e2 hg6
             have k3 := bcell hb7 e3 hg6
             have k4 := bcell hb7 e4 hg6
             have k5 := bcell hb7 e5 hg6
             have k6 := bcell hb7 e6 hg6
             have k7 := bcell hb7 e7 hg6
             have z0 := bcell hb7 y0 hqs
             have z1 := bcell hb7 y1 hqs
             have z2 := bcell hb7 y2 hqs
             have z3 := bcell hb7 y3 hqs
             have z4 := bcell hb7 y4 hqs
             have z5 := bcell hb7 y5 hqs
             have z6 := bcell hb7 y6 hqs
             have z7 := bcell hb7 y7 hqs
             unfold macV
             clear hb7)
          | (go_at_call 32
             (refine (HWH.out _ HB7.out).mono ?_)
             rintro e w8 ⟨rfl, hb8⟩
             have HB8 := Lib.hid (below_up HB7.out hb8)
             have hb68 := below_up HB7.out hb8
             have j0 := bcell hb68 e0 hg6
             have j1 := bcell hb68 e1 hg6
             have j2 := bcell hb68 e2 hg6
             have j3 := bcell hb68 e3 hg6
             have j4 := bcell hb68 e4 hg6
             have j5 := bcell hb68 e5 hg6
             have j6 := bcell hb68 e6 hg6
             have j7 := bcell hb68 e7 hg6
             have x0 := bcell hb68 y0 hqs
             have x1 := bcell hb68 y1 hqs
             have x2 := bcell hb68 y2 hqs
             have x3 := bcell hb68 y3 hqs
             have x4 := bcell hb68 y4 hqs
             have x5 := bcell hb68 y5 hqs
             have x6 := bcell hb68 y6 hqs
             have x7 := bcell hb68 y7 hqs
             clear hb8 hb68))
      have HU8 : Hid (Up w 9 1 (.slice a4 (k + 1) c4) (k + 1) (((nameL P).take (k + 1)).map fun m => .string m.n) w8) := Lib.hid ⟨ownsRow_over HU6.out.1 fun g hg => HB8.out.block g (World.ownsRow.lt HU6.out.1 g hg).2, HB6.out.trans (HB8.out.mono HB6.out.size)⟩
      go_wp2
      go_roundw
      case rel => exact ⟨k + 1, by go_num, hlt, HU8.out⟩
      case measure => simp [intOf]; omega
    · obtain rfl : k = n := by omega
      have hkI : ¬ (k : Int) < (k : Int) := by omega
      have HSR : Hid (StrsV ((nameL P).map Xm.n) (.slice na k nc) wr) := Lib.hid (by
        have h := HU.out.1
        rw [show (nameL P).take k = nameL P from List.take_of_length_le (by rw [← HNL.out]; exact Nat.le_refl _)] at h
        have e : ((nameL P).map fun m => Value.string m.n) = ((nameL P).map Xm.n).map Value.string := by rw [List.map_map]; rfl
        rw [e, show k = ((nameL P).map Xm.n).length from by rw [List.length_map]; exact HNL.out] at h
        have := strsV_row h
        rw [← show k = ((nameL P).map Xm.n).length from by rw [List.length_map]; exact HNL.out] at this
        exact this)
      clear hu
      go_wp2_with (first
        | (go_at_call 34
           (with_reducible refine (HNM.out _ HBW.out).mono ?_)
           rintro e w2 ⟨v, rfl, hv, hb2⟩
           obtain ⟨va, vn, vc, rfl⟩ := hv.form
           have HV := Lib.hid hv
           have HB2 := Lib.hid (below_up HBW.out hb2)
           have HSR2 := Lib.hid (HSR.out.over hb2)
           clear hv hb2)
        | (go_at_call 21
           (with_reducible refine (aTexts_any HV.out HSR2.out).mono ?_)
           rintro e w3 ⟨rfl, z3, rfl⟩))
      go_ret
      exact bool_new (by simp) (HB2.out.trans ((Below.of_drews _ _).mono HB2.out.size))

end Go.Proofs.Ytmghocfkekggaaa

/-
  Two tables side by side, and a copy.
-/
namespace Go.Proofs.Ytmghocfkekggaaa
open Go.RowKit Go.Maps

/-- The copy, and what the document kept. -/
def OT (p : Nat) (mo : Option Nat) (sh : Bool) (ov kv : Value) (oc : Bool) (w : World) : Prop :=
  match oc with
  | false => ov = .pointer none ∧ kv = .slice none 0 0
  | true => ∃ p2 mo2 N2 P0, ov = .pointer (some ⟨p2, 0, none⟩) ∧ w.heap[p2]? = some (tabObj mo2 true) ∧ MapIs w mo2 N2 (fun x => look x (nameL P0)) ∧ p2 ≠ p ∧ (sh = false → ∀ b, mo2 = some b → mo ≠ some b) ∧ MRow P0 kv w ∧ Rises (nameL P0) ∧ ShBnd (nameL P0) ∧ N2 ≤ 1000
structure TT (W : World) (p q : Nat) (mo : Option Nat) (sh : Bool) (N : Nat) (L : List Xm) (lv : Value) (P : List Mv) (ov kv : Value) (oc : Bool) (w : World) : Prop where
  tab : w.heap[p]? = some (tabObj mo sh)
  map : MapIs w mo N fun x => look x L
  doc : w.heap[q]? = some (docT lv)
  row : MRow P lv w
  oth : OT p mo sh ov kv oc w
  low : W.heap.size ≤ p ∧ W.heap.size ≤ q ∧ ∀ b, mo = some b → W.heap.size ≤ b
  bel : Below W.heap.size W w

theorem doc_not_tab {w : World} {p q : Nat} {mo : Option Nat} {sh : Bool} {lv : Value} (h : w.heap[p]? = some (tabObj mo sh)) (k : w.heap[q]? = some (docT lv)) : q ≠ p := by
  rintro rfl
  rw [h] at k
  unfold tabObj docT at k
  simp only [Option.some.injEq, Obj.cells.injEq] at k
  exact absurd k.2.1 (by decide)
theorem doc_not_map {w : World} {q b N : Nat} {K : ByteArray → Option Xm} {lv : Value} (h : MapIs w (some b) N K) (k : w.heap[q]? = some (docT lv)) : q ≠ b := by
  rintro rfl
  obtain ⟨D, ⟨es, c, h1, -⟩, -⟩ := h
  rw [h1] at k
  cases k

theorem TT.over {W : World} {p q : Nat} {mo : Option Nat} {sh : Bool} {N : Nat} {L : List Xm} {lv : Value} {P : List Mv} {ov kv : Value} {oc : Bool} {w w' : World} (h : TT W p q mo sh N L lv P ov kv oc w) (b : Below w.heap.size w w') : TT W p q mo sh N L lv P ov kv oc w' := by
  refine ⟨(b.block p (row_lt h.tab)).trans h.tab, h.map.over b, (b.block q (row_lt h.doc)).trans h.doc, h.row.over b, ?_, h.low, below_up h.bel b⟩
  have ho := h.oth
  cases oc with
  | false => exact ho
  | true =>
    obtain ⟨p2, mo2, N2, P0, e, h1, h2, h3, h4, h5, h6⟩ := ho
    exact ⟨p2, mo2, N2, P0, e, (b.block p2 (row_lt h1)).trans h1, h2.over b, h3, h4, h5.over b, h6⟩

/-- A write of the project's table. -/
theorem TT.turnT {W : World} {p q : Nat} {mo mo' : Option Nat} {sh sh' : Bool} {N N' : Nat} {L L' : List Xm} {lv : Value} {P : List Mv} {ov kv : Value} {oc : Bool} {w w' : World} (h : TT W p q mo sh N L lv P ov kv oc w) (ht : w'.heap[p]? = some (tabObj mo' sh')) (hm : MapIs w' mo' N' fun x => look x L')
    {b : Nat} (hmo : mo' = some b) (hsh : sh' = false) (hb : w.heap.size ≤ b ∨ mo = some b ∧ sh = false) (t : Turned (Tq p mo sh) w w') : TT W p q mo' sh' N' L' lv P ov kv oc w' := by
  subst hmo hsh
  have hlow : ∀ g, Tq p mo sh g → W.heap.size ≤ g := by
    rintro g (rfl | ⟨hg, -⟩)
    · exact h.low.1
    · exact h.low.2.2 g hg
  have hq : ¬ Tq p mo sh q := by
    rintro (e | ⟨e, -⟩)
    · exact doc_not_tab h.tab h.doc e
    · subst e
      exact doc_not_map h.map h.doc rfl
  refine ⟨ht, hm, (t.block q (row_lt h.doc) hq).trans h.doc, h.row.turn t, ?_, ⟨h.low.1, h.low.2.1, fun c hc => ?_⟩, t.ended h.bel hlow⟩
  · have ho := h.oth
    cases oc with
    | false => exact ho
    | true =>
      obtain ⟨p2, mo2, N2, P0, e, h1, h2, h3, h4, h5, h6⟩ := ho
      have hp2 : ¬ Tq p mo sh p2 := by
        rintro (e | ⟨e, -⟩)
        · exact h3 e
        · subst e
          exact tab_ne_map h1 h.map rfl
      refine ⟨p2, mo2, N2, P0, e, (t.block p2 (row_lt h1) hp2).trans h1, h2.turn t fun c hc => ?_, h3, fun _ c hc hbc => ?_, h5.turn t, h6⟩
      · rintro (e | ⟨e, e'⟩)
        · subst hc
          exact tab_ne_map h.tab h2 e.symm
        · exact h4 e' c hc e
      · obtain rfl : b = c := by simpa using hbc
        subst hc
        obtain ⟨D, h7, -⟩ := h2
        have := h7.lt
        rcases hb with hb | ⟨hb, hb'⟩
        · omega
        · exact h4 hb' b rfl hb
  · obtain rfl : b = c := by simpa using hc
    rcases hb with hb | ⟨hb, -⟩
    · exact Nat.le_trans h.bel.size hb
    · exact h.low.2.2 b hb
/-- A write of the document's table. -/
theorem TT.turnD {W : World} {p q : Nat} {mo : Option Nat} {sh : Bool} {N : Nat} {L : List Xm} {lv lv' : Value} {P P' : List Mv} {ov kv : Value} {oc : Bool} {w w' : World} (h : TT W p q mo sh N L lv P ov kv oc w) (hd : w'.heap[q]? = some (docT lv')) (hr : MRow P' lv' w')
    (t : Turned (fun g => g = q) w w') : TT W p q mo sh N L lv' P' ov kv oc w' := by
  refine ⟨(t.block p (row_lt h.tab) (fun e => doc_not_tab h.tab h.doc e.symm)).trans h.tab, h.map.turn t (fun b hb e => ?_), hd, hr, ?_, h.low, t.ended h.bel (fun g e => e ▸ h.low.2.1)⟩
  · subst hb
    exact doc_not_map h.map h.doc e.symm
  · have ho := h.oth
    cases oc with
    | false => exact ho
    | true =>
      obtain ⟨p2, mo2, N2, P0, e, h1, h2, h3, h4, h5, h6⟩ := ho
      refine ⟨p2, mo2, N2, P0, e, (t.block p2 (row_lt h1) (fun e => doc_not_tab h1 h.doc e.symm)).trans h1, h2.turn t fun c hc e => ?_, h3, h4, h5.turn t, h6⟩
      subst hc
      exact doc_not_map h2 h.doc e.symm
/-- The copy. -/
theorem TT.copied {W : World} {p q : Nat} {mo : Option Nat} {sh : Bool} {N : Nat} {lv : Value} {P : List Mv} {ov kv : Value} {oc : Bool} {w : World} (h : TT W p q mo sh N (nameL P) lv P ov kv oc w) (hL : Rises (nameL P)) (hb : ShBnd (nameL P)) (hN : N ≤ 1000) :
    TT W p q mo true N (nameL P) lv P (.pointer (some ⟨w.heap.size, 0, none⟩)) lv true ((w.setCell ⟨p, 1, none⟩ (.bool true)).alloc (tabObj mo true)) := by
  obtain ⟨w1, hw1⟩ : ∃ w1, w.setCell ⟨p, 1, none⟩ (.bool true) = w1 := ⟨_, rfl⟩
  have hs : w1.heap.size = w.heap.size := by rw [← hw1]; simp [World.setCell]
  have h1 : w1.heap[p]? = some (tabObj mo true) := by rw [← hw1]; exact (heap_setCell_same w p 1 _ _ _ h.tab).trans rfl
  have g : w.grownBy w1 (some p) := by rw [← hw1]; exact grown_setT w p 1 _
  have t : Turned (fun g => g = p) w w1 := (Turned.refl (fun g e _ => e ▸ tab_nostr h.tab)).grown g (fun _ => rfl)
  have hm : MapIs w1 mo N fun x => look x (nameL P) := h.map.turn t fun b hb e => by
    subst hb
    exact tab_ne_map h.tab h.map e.symm
  have hq : w1.heap[q]? = some (docT lv) := (t.block q (row_lt h.doc) (doc_not_tab h.tab h.doc)).trans h.doc
  have hr := h.row.turn t
  have b : Below w1.heap.size w1 (w1.alloc (tabObj mo true)) := (Below.refl _ _).alloc (Nat.le_refl _) _
  have hp := row_lt h.tab
  rw [hw1]
  refine ⟨(b.block p (row_lt h1)).trans h1, hm.over b, (b.block q (row_lt hq)).trans hq, hr.over b, ?_, h.low, below_up (t.ended h.bel (fun g e => e ▸ h.low.1)) b⟩
  refine ⟨w.heap.size, mo, N, P, rfl, by rw [← hs]; exact heap_alloc_new w1 _, hm.over b, by omega, (fun e => by cases e), hr.over b, hL, hb, hN⟩

-- the lists
theorem upd_put {L : List Xm} (h : Rises L) (m : Xm) : upd (fun x => look x L) m = fun x => look x (putM L m) := by
  funext x
  unfold upd
  rw [look_put h]
theorem cut_del {L : List Xm} (h : Rises L) (s : ByteArray) : cut (fun x => look x L) s = fun x => look x (delM L s) := by
  funext x
  unfold cut
  rw [look_del h]
theorem here_some {L : List Xm} {x : ByteArray} (h : hereM L x = true) : ∃ y, L[posM L x]? = some y := by
  rcases Nat.lt_or_ge (posM L x) L.length with hl | hl
  · exact ⟨_, List.getElem?_eq_getElem hl⟩
  · rw [posM_end L x hl] at h
    cases h
theorem def_same {L : List Xm} (h : Rises L) (m : Xm) : defB (fun x => look x L) m = defL L m := by
  unfold defB defL
  show (match look m.n L with | none => true | some y => sameM y m) = _
  rw [look_here h]
  cases hb : hereM L m.n with
  | false => rfl
  | true =>
    obtain ⟨y, hy⟩ := here_some hb
    simp only [if_true, hy]
theorem und_same {L : List Xm} (h : Rises L) (x : ByteArray) : (look x L).isSome = hereM L x := by
  rw [look_here h]
  cases hb : hereM L x with
  | false => rfl
  | true =>
    obtain ⟨y, hy⟩ := here_some hb
    simp only [if_true, hy]
    rfl
theorem putM_len : ∀ (L : List Xm) (m : Xm), (putM L m).length ≤ L.length + 1
  | [], m => Nat.le_refl _
  | a :: r, m => by
    unfold putM
    have := putM_len r m
    split
    · simp only [List.length_cons]; omega
    · split <;> simp
theorem delM_len : ∀ (L : List Xm) (x : ByteArray), (delM L x).length ≤ L.length
  | [], x => Nat.le_refl _
  | a :: r, x => by
    unfold delM
    have := delM_len r x
    split
    · simp only [List.length_cons]; omega
    · split <;> simp

theorem MacC.turn {x : Mv} {g o : Nat} {w w' : World} {Q : Nat → Prop} (h : MacC x g o w) (hg : g < w.heap.size) (t : Turned Q w w') : MacC x g o w' := by
  obtain ⟨c0, c1, c2, c3, c4, c5, c6, c7⟩ := h
  have hb := t.block g hg fun e => t.nos g e hg _ _ c0
  exact ⟨(World.cell?_of_block hb).trans c0, (World.cell?_of_block hb).trans c1, (World.cell?_of_block hb).trans c2, (World.cell?_of_block hb).trans c3, (World.cell?_of_block hb).trans c4, (World.cell?_of_block hb).trans c5, (World.cell?_of_block hb).trans c6, (World.cell?_of_block hb).trans c7⟩
theorem str_turn {g o : Nat} {s : ByteArray} {w w' : World} {Q : Nat → Prop} (h : w.cell? ⟨g, o, none⟩ = some (.string s)) (hg : g < w.heap.size) (t : Turned Q w w') : w'.cell? ⟨g, o, none⟩ = some (.string s) :=
  (World.cell?_of_block (t.block g hg fun e => t.nos g e hg _ _ h)).trans h

theorem TT.define {W : World} {p q : Nat} {mo : Option Nat} {sh : Bool} {N : Nat} {L : List Xm} {lv : Value} {P : List Mv} {ov kv : Value} {oc : Bool} {w : World} (h : TT W p q mo sh N L lv P ov kv oc w) (hL : Rises L) {m : Xm} {pv bv : Value} (hm : MacAt m pv bv w) (hN : N ≤ 1000) (hf : fewM m = true) :
    Calls Try.prog 12 #[.pointer (some ⟨p, 0, none⟩), macV m pv bv] w (fun e w' => e = .returned (.bool (defL L m)) ∧ ∃ mo', TT W p q mo' false (N + 1) (putM L m) lv P ov kv oc w' ∧ ∃ Q, Turned Q w w') := by
  obtain ⟨f1, f2, f3, f4⟩ := fewM_is hf
  refine (def_any hm h.tab h.map hN (by omega) f2 f3 f4).mono fun e w' ⟨he, b, g1, g2, g3, g4⟩ => ⟨by rw [he, def_same hL], some b, h.turnT g1 (by rw [← upd_put hL]; exact g2) rfl rfl g3 g4, _, g4⟩
theorem TT.defineD {W : World} {p q : Nat} {mo : Option Nat} {sh : Bool} {N : Nat} {L : List Xm} {lv : Value} {P : List Mv} {ov kv : Value} {oc : Bool} {w : World} (h : TT W p q mo sh N L lv P ov kv oc w) {m : Xm} {pv bv : Value} (hm : MacAt m pv bv w) (hP : P.length ≤ 1000) :
    Calls Try.prog 14 #[.pointer (some ⟨q, 0, none⟩), macV m pv bv] w (fun e w' => e = .returned (.bool (defL (nameL P) m)) ∧ ∃ lv' P', nameL P' = putM (nameL P) m ∧ TT W p q mo sh N L lv' P' ov kv oc w' ∧ ∃ Q, Turned Q w w') := by
  have key : Calls Try.prog 14 #[.pointer (some ⟨q, 0, none⟩), macV m pv bv] w (RDefPost w q P ⟨m, pv, bv⟩) := by
    cases hb : hereM (nameL P) m.n with
    | false => exact rdef_no (x := ⟨m, pv, bv⟩) h.doc h.row hm (by omega) hb
    | true => exact rdef_yes (x := ⟨m, pv, bv⟩) h.doc h.row hm (by omega) hb
  exact key.mono fun e w' ⟨he, lv', P', g1, g2, g3, g4⟩ => ⟨he, lv', P', g1, h.turnD g2 g3 g4, _, g4⟩
theorem TT.undef {W : World} {p q : Nat} {mo : Option Nat} {sh : Bool} {N : Nat} {L : List Xm} {lv : Value} {P : List Mv} {ov kv : Value} {oc : Bool} {w : World} (h : TT W p q mo sh N L lv P ov kv oc w) (hL : Rises L) (s : ByteArray) (hs : s.size ≤ 1000) :
    Calls Try.prog 15 #[.pointer (some ⟨p, 0, none⟩), .string s] w (fun e w' => e = .returned (.bool (hereM L s)) ∧ ∃ mo' sh', TT W p q mo' sh' N (delM L s) lv P ov kv oc w' ∧ ∃ Q, Turned Q w w') := by
  refine (undef_mac h.tab h.map s hs).mono fun e w' ⟨he, mo', sh', g1, g2, g3⟩ => ⟨by rw [he, und_same hL], mo', sh', ?_⟩
  rw [cut_del hL] at g2
  rcases g3 with ⟨⟨b, e1, e2, e3⟩, g4⟩ | ⟨e1, e2, g4⟩
  · exact ⟨h.turnT g1 g2 e1 e2 e3 g4, _, g4⟩
  · subst e1 e2
    have h' := h.over g4
    exact ⟨⟨g1, g2, h'.doc, h'.row, h'.oth, h'.low, h'.bel⟩, fun _ => False, (Turned.refl (fun g hg => hg.elim)).below g4⟩
theorem TT.undefD {W : World} {p q : Nat} {mo : Option Nat} {sh : Bool} {N : Nat} {L : List Xm} {lv : Value} {P : List Mv} {ov kv : Value} {oc : Bool} {w : World} (h : TT W p q mo sh N L lv P ov kv oc w) (s : ByteArray) (hP : P.length ≤ 1000) :
    Calls Try.prog 16 #[.pointer (some ⟨q, 0, none⟩), .string s] w (fun e w' => e = .returned (.bool (hereM (nameL P) s)) ∧ ∃ lv' P', nameL P' = delM (nameL P) s ∧ TT W p q mo sh N L lv' P' ov kv oc w' ∧ ∃ Q, Turned Q w w') := by
  have key : Calls Try.prog 16 #[.pointer (some ⟨q, 0, none⟩), .string s] w (RUndPost w q P s) := by
    cases hb : hereM (nameL P) s with
    | false => exact rund_no h.doc h.row s hb
    | true => exact rund_yes h.doc h.row s (by omega) hb
  exact key.mono fun e w' ⟨he, lv', P', g1, g2, g3, g4⟩ => ⟨he, lv', P', g1, h.turnD g2 g3 g4, _, g4⟩

end Go.Proofs.Ytmghocfkekggaaa
