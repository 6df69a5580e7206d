/-
  Texts of the proof, put together: MtGet, MtNames.
-/
import Derived.Test.YtmghocfkekggaaaG31
import Derived.Test.YtmghocfkekggaaaG43

/-
  What the project's table tells: a copy, a look, the names; what is taken away.
-/
namespace Go.Proofs.Ytmghocfkekggaaa
open Go.RowKit Go.Maps

theorem mcopy_any {w : World} {p : Nat} {mo : Option Nat} {sh : Bool} (h : w.heap[p]? = some (tabObj mo sh)) :
    Calls Try.prog 11 #[.pointer (some ⟨p, 0, none⟩)] w fun e w' => e = .returned (.pointer (some ⟨w.heap.size, 0, none⟩)) ∧ w' = (w.setCell ⟨p, 1, none⟩ (.bool true)).alloc (tabObj mo true) := by
  obtain ⟨c0, c1, cf⟩ := tab_cells h
  have f0 := cf 0
  have f1 := cf 1
  have hpl := row_lt h
  clear h
  go_enter Try.func11, Try.ntmps11
  go_wp2
  go_ret
  refine ⟨?_, rfl⟩
  simp

theorem StrsV.far {S : List ByteArray} {v : Value} {w w' : World} (h : StrsV S v w) (hs : w.heap.size ≤ w'.heap.size) (hf : ∀ g, v.ownBlock = some g → w'.heap[g]? = w.heap[g]?) : StrsV S v w' := by
  obtain ⟨a, cap, rfl, h1, h2, h3⟩ := h
  refine ⟨a, cap, rfl, h1, h2, fun k s hk => ?_⟩
  obtain ⟨g, o, rfl, hg, hc⟩ := h3 k s hk
  exact ⟨g, o, rfl, Nat.lt_of_lt_of_le hg hs, (World.cell?_of_block (hf g rfl)).trans hc⟩
/-- A macro told into a new block, and the result. -/
theorem told_end {W w : World} {m : Xm} {k : Nat} {a b : Option Addr} {n c d e : Nat} (hk : w.heap[k]? = some zeroObj) (hW : Below W.heap.size W w) (h2 : W.heap.size ≤ k) (hm : MacAt m (.slice a n c) (.slice b d e) w) (hf : ∀ g, (Value.slice a n c).ownBlock = some g → k < g) :
    ∃ w', sto8 w k (.string m.n) (.bool m.fn) (.bool m.va) (.slice a n c) (.slice b d e) (.string m.g) (.int .i64 m.f) (.int .i64 m.t) = w' ∧ BoxM m (.slice a n c) (.slice b d e) k w' ∧ Hid (MacAt m (.slice a n c) (.slice b d e) w' ∧ Below W.heap.size W w') :=
  ⟨_, rfl, sto8_cells hk, Lib.hid ⟨⟨hm.1.far (by rw [sto8_size]; exact Nat.le_refl _) fun g hg => sto8_far (by have := hf g hg; omega), hm.2.off hk sto8_size fun g hg => sto8_far hg⟩, sto8_below hW h2⟩⟩

def GetPost (w : World) (K : ByteArray → Option Xm) (x : ByteArray) (e : Ending) (w' : World) : Prop :=
  ∃ m pv bv, e = .returned (.tuple #[macV m pv bv, .bool (K x).isSome]) ∧ MacAt m pv bv w' ∧ (∀ y, K x = some y → m = y) ∧ Below w.heap.size w w'

set_option maxRecDepth 100000 in
set_option maxHeartbeats 3200000 in
theorem get_mac {w : World} {p : Nat} {mo : Option Nat} {sh : Bool} {N : Nat} {K : ByteArray → Option Xm} (hp : w.heap[p]? = some (tabObj mo sh)) (hm : MapIs w mo N K) (x : ByteArray) (hx : x.size ≤ 1000) (hl : ∀ y, K x = some y → y.ps.length ≤ 500000 ∧ y.bd.length ≤ 500000 ∧ ∀ t ∈ y.bd, t.ss.length ≤ 500000) :
    Calls Try.prog 31 #[.pointer (some ⟨p, 0, none⟩), .string x] w (GetPost w K x) := by
  obtain ⟨el, ev, eb, hlook, hel, hel1, hel2⟩ := hm.look x hx
  have hl' : el.ps.length ≤ 500000 ∧ el.bd.length ≤ 500000 ∧ ∀ t ∈ el.bd, t.ss.length ≤ 500000 := by
    cases hK : K x with
    | none => rw [hel2 hK]; exact ⟨Nat.zero_le _, Nat.zero_le _, fun t ht => by cases ht⟩
    | some y => rw [hel1 y hK]; exact hl y hK
  obtain ⟨a3, n3, c3, rfl⟩ := hel.1.form
  obtain ⟨a4, n4, c4, rfl⟩ := hel.2.form
  have HCL : Hid (∀ X : World, Below w.heap.size w X → Calls Try.prog 28 #[.agg #[.string el.n, .bool el.fn, .bool el.va, .slice a3 n3 c3, .slice a4 n4 c4, .string el.g, .int .i64 el.f, .int .i64 el.t]] X (MacFar X el)) := Lib.hid (fun X hX => mclone_far (hel.over hX) hl'.1 hl'.2.1 hl'.2.2)
  obtain ⟨c0, c1, -⟩ := tab_cells hp
  have hpl := row_lt hp
  have H1 := Lib.hid hel1
  obtain ⟨bs, hbs⟩ : ∃ bs, (K x).isSome = bs := ⟨_, rfl⟩
  unfold GetPost
  rw [hbs] at hlook ⊢
  unfold macV at hlook
  have hl1 := hlook (w.alloc (Obj.cells #[.string ⟨#[]⟩, .bool false, .bool false, .slice none 0 0, .slice none 0 0, .string ⟨#[]⟩, .int .i64 0, .int .i64 0] 38)) ((Below.refl _ _).alloc (Nat.le_refl _) _)
  clear hp hm hel hel1 hel2 hl hl' hbs hlook
  go_enter Try.func31, Try.ntmps31
  go_wp2_with fail
  have hB0 : Below w.heap.size w ((w.alloc (Obj.cells #[.string ⟨#[]⟩, .bool false, .bool false, .slice none 0 0, .slice none 0 0, .string ⟨#[]⟩, .int .i64 0, .int .i64 0] 38)).alloc (Obj.cells #[.string el.n, .bool el.fn, .bool el.va, .slice a3 n3 c3, .slice a4 n4 c4, .string el.g, .int .i64 el.f, .int .i64 el.t] 38)) := ((Below.refl _ _).alloc (Nat.le_refl _) _).alloc (by simp) _
  have hQ1 : ((w.alloc (Obj.cells #[.string ⟨#[]⟩, .bool false, .bool false, .slice none 0 0, .slice none 0 0, .string ⟨#[]⟩, .int .i64 0, .int .i64 0] 38)).alloc (Obj.cells #[.string el.n, .bool el.fn, .bool el.va, .slice a3 n3 c3, .slice a4 n4 c4, .string el.g, .int .i64 el.f, .int .i64 el.t] 38)).heap[w.heap.size]? = some zeroObj := heap_one w _ _
  have hS1 : w.heap.size < ((w.alloc (Obj.cells #[.string ⟨#[]⟩, .bool false, .bool false, .slice none 0 0, .slice none 0 0, .string ⟨#[]⟩, .int .i64 0, .int .i64 0] 38)).alloc (Obj.cells #[.string el.n, .bool el.fn, .bool el.va, .slice a3 n3 c3, .slice a4 n4 c4, .string el.g, .int .i64 el.f, .int .i64 el.t] 38)).heap.size := by simp; omega
  obtain ⟨w1, hw1⟩ : ∃ w1, ((w.alloc (Obj.cells #[.string ⟨#[]⟩, .bool false, .bool false, .slice none 0 0, .slice none 0 0, .string ⟨#[]⟩, .int .i64 0, .int .i64 0] 38)).alloc (Obj.cells #[.string el.n, .bool el.fn, .bool el.va, .slice a3 n3 c3, .slice a4 n4 c4, .string el.g, .int .i64 el.f, .int .i64 el.t] 38)) = w1 := ⟨_, rfl⟩
  obtain ⟨b1, hb1⟩ : ∃ b1, w.heap.size = b1 := ⟨_, rfl⟩
  rw [hw1] at hB0 hQ1 hS1 ⊢
  have HBL : Hid (w.heap.size ≤ b1) := Lib.hid (by omega)
  rw [hb1] at hQ1 hS1 ⊢
  have HB0 := Lib.hid hB0
  clear hw1 hb1 hB0
  (refine (HCL.out _ HB0.out).mono ?_)
  rintro e w5 ⟨pv5, bv5, rfl, hma5, hb5, hf5⟩
  obtain ⟨a5, n5, c5, rfl⟩ := hma5.1.form
  obtain ⟨a6, n6, c6, rfl⟩ := hma5.2.form
  have hz := (hb5.block b1 (row_lt hQ1)).trans hQ1
  obtain ⟨z0, z1, z2, z3, z4, z5, z6, z7, zf⟩ := zero_cells hz
  have g0 := zf 0
  have g1 := zf 1
  have g2 := zf 2
  have g3 := zf 3
  have g4 := zf 4
  have g5 := zf 5
  have g6 := zf 6
  have g7 := zf 7
  have HEND := Lib.hid (told_end hz (below_up HB0.out hb5) HBL.out hma5 fun g hg => Nat.lt_of_lt_of_le hS1 (hf5 g hg))
  clear hma5 hb5 hf5 hz zf hQ1 hS1
  unfold macV
  go_wp2
  obtain ⟨w6, hw6, ⟨y0, y1, y2, y3, y4, y5, y6, y7⟩, HF⟩ := HEND.out
  change bodyPost _ _ _ _ _ (sto8 w5 b1 (.string el.n) (.bool el.fn) (.bool el.va) (.slice a5 n5 c5) (.slice a6 n6 c6) (.string el.g) (.int .i64 el.f) (.int .i64 el.t))
  rw [hw6]
  exact bodyPost_ret (v := .tuple #[.agg #[.string el.n, .bool el.fn, .bool el.va, .slice a5 n5 c5, .slice a6 n6 c6, .string el.g, .int .i64 el.f, .int .i64 el.t], .bool bs]) (by simp [results, Try.results31, go_sem, y0, y1, y2, y3, y4, y5, y6, y7]) rfl ⟨el, _, _, rfl, HF.out.1, H1.out, HF.out.2⟩

/-- Less one name. -/
def cut (K : ByteArray → Option Xm) (x : ByteArray) : ByteArray → Option Xm := fun y => if y = x then none else K y
theorem reads_cut {D : DataW Value} {K : ByteArray → Option Xm} {w : World} (x : ByteArray) (h : Reads D K w) : Reads (D.del (.string x.data.toList)) (cut K x) w := by
  intro y
  unfold cut
  by_cases e : y = x
  · subst e
    rw [if_pos rfl, has_del_same]
    exact ⟨rfl, fun m hm => by cases hm⟩
  · rw [if_neg e, has_del_other (lit_ne e)]
    refine ⟨(h y).1, fun m hm => ?_⟩
    obtain ⟨pv', bv', h1, h2⟩ := (h y).2 m hm
    exact ⟨pv', bv', by rw [atKey_del_other (lit_ne e)]; exact h1, h2⟩
def CutPost (w : World) (p : Nat) (mo : Option Nat) (sh : Bool) (N : Nat) (K : ByteArray → Option Xm) (x : ByteArray) (e : Ending) (w' : World) : Prop :=
  e = .returned (.bool (K x).isSome) ∧ ∃ mo' sh', w'.heap[p]? = some (tabObj mo' sh') ∧ MapIs w' mo' N (cut K x) ∧ (((∃ b, mo' = some b ∧ sh' = false ∧ (w.heap.size ≤ b ∨ mo = some b ∧ sh = false)) ∧ Turned (Tq p mo sh) w w') ∨ (mo' = mo ∧ sh' = sh ∧ Below w.heap.size w w'))

theorem isSome_no {A : Type} {o : Option A} (h : o.isSome = false) : o = none := by
  cases o with
  | none => rfl
  | some y => cases h
theorem mapIs_cut {w : World} {mo : Option Nat} {N : Nat} {K : ByteArray → Option Xm} {x : ByteArray} (h : MapIs w mo N K) (hx : K x = none) : MapIs w mo N (cut K x) := by
  have e : cut K x = K := by
    funext y
    unfold cut
    by_cases e : y = x
    · rw [if_pos e, e, hx]
    · rw [if_neg e]
  rw [e]
  exact h

set_option maxRecDepth 100000 in
set_option maxHeartbeats 3200000 in
theorem undef_mac {w : World} {p : Nat} {mo : Option Nat} {sh : Bool} {N : Nat} {K : ByteArray → Option Xm} (hp : w.heap[p]? = some (tabObj mo sh)) (hm : MapIs w mo N K) (x : ByteArray) (hx : x.size ≤ 1000) :
    Calls Try.prog 15 #[.pointer (some ⟨p, 0, none⟩), .string x] w (CutPost w p mo sh N K x) := by
  obtain ⟨el, ev, eb, hlook, hel, hel1, hel2⟩ := hm.look x hx
  obtain ⟨a3, n3, c3, rfl⟩ := hel.1.form
  obtain ⟨a4, n4, c4, rfl⟩ := hel.2.form
  obtain ⟨c0, c1, -⟩ := tab_cells hp
  have hl1 := hlook w (Below.refl _ _)
  have hl2 := hlook (w.alloc (Obj.cells #[.string ⟨#[]⟩, .bool false, .bool false, .slice none 0 0, .slice none 0 0, .string ⟨#[]⟩, .int .i64 0, .int .i64 0] 38)) ((Below.refl _ _).alloc (Nat.le_refl _) _)
  have hpl := row_lt hp
  have HP := Lib.hid hp
  have HM := Lib.hid hm
  obtain ⟨bs, hbs⟩ : ∃ bs, (K x).isSome = bs := ⟨_, rfl⟩
  have HBS := Lib.hid hbs
  unfold CutPost
  rw [hbs] at hl1 hl2 ⊢
  unfold macV at hl1 hl2
  have HB : Hid (Below w.heap.size w (w.alloc (Obj.cells #[.string el.n, .bool el.fn, .bool el.va, .slice a3 n3 c3, .slice a4 n4 c4, .string el.g, .int .i64 el.f, .int .i64 el.t] 38))) := Lib.hid ((Below.refl _ _).alloc (Nat.le_refl _) _)
  clear hp hm hel hel1 hel2 hbs hlook
  cases bs with
  | false =>
    go_enter Try.func15, Try.ntmps15
    go_wp2
    go_ret
    exact ⟨rfl, mo, sh, (HB.out.block p hpl).trans HP.out, mapIs_cut (HM.out.over HB.out) (isSome_no HBS.out), .inr ⟨rfl, rfl, HB.out⟩⟩
  | true =>
    go_enter Try.func15, Try.ntmps15
    go_wp2_with (first
      | (go_at_call 27; (with_reducible refine (own_any ((HB.out.block p hpl).trans HP.out) (HM.out.over HB.out)).mono ?_); rintro e w3 ⟨rfl, b, hp3, hm3, hbn, g3⟩; (obtain ⟨t0, -, -⟩ := tab_cells hp3); (obtain ⟨D3, hD3, hR3⟩ := hm3); have HP3 := Lib.hid hp3; have HD3 := Lib.hid hD3; have HR3 := Lib.hid hR3; have HBN := Lib.hid hbn; have HG3 := Lib.hid g3; clear hp3 hD3 hR3 hbn g3)
      | (at_delete; refine wpList_delete_own _ rfl _ _ _ _ rfl _ strKeyM Try.underlying62 _ b N D3 rfl HD3.out _ _ rfl (keyM x (by unfold maxLen; omega)) ?_; intro w4 hD4 hT4; have HD4 := Lib.hid hD4; have HT4 := Lib.hid hT4; clear hD4 hT4))
    go_ret
    have g4 := HT4.out.grown
    have hne : p ≠ b := tab_ne_map HP3.out ⟨D3, HD3.out, HR3.out⟩
    have hT3 : Turned (Tq p mo sh) w w3 := ((Turned.refl (tq_nos HP.out HM.out)).below HB.out).grown HG3.out (fun _ => .inl rfl)
    refine ⟨rfl, some b, false, (g4.block p (row_lt HP3.out) (by simpa using hne)).trans HP3.out, ⟨_, HD4.out, (reads_cut x HR3.out).bare (own_nostr HD3.out) g4.size fun g hg hgb => g4.block g hg (by simpa using hgb)⟩, .inl ⟨⟨b, rfl, rfl, HBN.out.imp (fun h => Nat.le_trans HB.out.size h) id⟩, hT3.grown g4 (fun hlt => ?_)⟩⟩
    rcases HBN.out with h | ⟨h, h'⟩
    · have := HB.out.size; omega
    · exact .inr ⟨h, h'⟩

end Go.Proofs.Ytmghocfkekggaaa

/-
  The names of the project's table: as the list has them, in order.
-/
namespace Go.Proofs.Ytmghocfkekggaaa
open Go.RowKit Go.Maps Go.Sort

def bytesM (m : Xm) : List UInt8 := m.n.data.toList
theorem look_some {x : ByteArray} {L : List Xm} : (look x L).isSome = true ↔ x ∈ L.map Xm.n := by
  unfold look
  rw [List.find?_isSome, List.mem_map]
  simp
theorem names_perm {w : World} {b N : Nat} {D : DataW Value} {L : List Xm} (hL : Rises L) (hown : w.ownsMap Try.prog 9 rawElem b N D) (hR : Reads D (fun x => look x L) w) : (L.map bytesM).Perm (strKeys D) := by
  refine Collected.perm (left := fun _ => false) ⟨?_, fun x => ?_⟩ hown strKeyM Try.underlying9 fun _ => rfl
  · refine List.pairwise_map.2 (hL.imp fun {p q} hpq e => ?_)
    have e2 : p.n = q.n := ByteArray.ext (Array.toList_inj.1 e)
    rw [e2, lessB_irrefl] at hpq
    cases hpq
  · have h1 := (hR ⟨x.toArray⟩).1
    rw [h1, look_some, List.mem_map, List.mem_map]
    constructor
    · rintro ⟨m, hm, rfl⟩
      exact ⟨⟨m, hm, rfl⟩, rfl⟩
    · rintro ⟨⟨m, hm, e⟩, -⟩
      exact ⟨m, hm, by unfold bytesM; rw [e]⟩
theorem names_sorted {L : List Xm} (hL : Rises L) {ss : List (List UInt8)} (h : ss.Perm (L.map bytesM)) : ss.mergeSort (fun x y => decide (x ≤ y)) = L.map bytesM := by
  have tr : ∀ a b c : List UInt8, leB a b = true → leB b c = true → leB a c = true := fun a b c h1 h2 => by simp only [leB, decide_eq_true_eq] at *; exact List.le_trans h1 h2
  have to : ∀ a b : List UInt8, (leB a b || leB b a) = true := fun a b => by simp only [leB, Bool.or_eq_true, decide_eq_true_eq]; exact List.le_total a b
  refine List.Perm.eq_of_pairwise (le := fun a b => leB a b = true) (fun a b _ _ h1 h2 => ?_) (List.pairwise_mergeSort tr to ss) (List.pairwise_map.2 (hL.imp fun {p q} hpq => ?_)) ((List.mergeSort_perm ss leB).trans h)
  · simp only [leB, decide_eq_true_eq] at h1 h2
    exact List.le_antisymm h1 h2
  · unfold lessB at hpq
    rw [bytesLess_eq, decide_eq_true_eq] at hpq
    exact decide_eq_true (List.le_of_lt hpq)
theorem enc_names (L : List Xm) : (L.map bytesM).map Go.Proofs.encStr = (L.map Xm.n).map Value.string := by
  rw [List.map_map, List.map_map]
  refine List.map_congr_left fun m _ => ?_
  simp [bytesM, Go.Proofs.encStr]

def NamesPost (w : World) (L : List Xm) (e : Ending) (w' : World) : Prop := ∃ v, e = .returned v ∧ StrsV (L.map Xm.n) v w' ∧ Below w.heap.size w w'

set_option maxRecDepth 100000 in
set_option maxHeartbeats 3200000 in
theorem names_mac {w : World} {p : Nat} {mo : Option Nat} {sh : Bool} {N : Nat} {L : List Xm} (hp : w.heap[p]? = some (tabObj mo sh)) (hm : MapIs w mo N fun x => look x L) (hL : Rises L) (hN : N ≤ 1000) :
    Calls Try.prog 34 #[.pointer (some ⟨p, 0, none⟩)] w (NamesPost w L) := by
  obtain ⟨c0, c1, -⟩ := tab_cells hp
  have HK : Hid (∀ W : World, Calls Try.prog 51 #[.map mo] W fun e w' => e = .returned (.func (.func 69) #[] #[.pointer (some ⟨W.heap.size, 0, none⟩)]) ∧ w' = W.alloc (.cells #[.map mo] 62)) := Lib.hid (fun W => callsIn_wide.1 (Try.maps_Keys_51 mo W))
  have HS : Hid (Calls Try.prog 50 #[.func (.func 69) #[] #[.pointer (some ⟨w.heap.size, 0, none⟩)]] (w.alloc (.cells #[.map mo] 62)) (NamesPost w L)) := Lib.hid (by
    match mo, hm with
    | none, hm =>
      have hL0 : L = [] := by
        cases L with
        | nil => rfl
        | cons a r =>
          have := hm a.n
          simp only [look_cons, if_true] at this
          cases this
      subst hL0
      refine (callsIn_wide.1 (Try.slices_Sorted_keys_nil_50_51 w)).mono ?_
      rintro e w' ⟨v, ss, he, rfl, -, hv, hb⟩
      rw [hv.2 rfl] at he
      exact ⟨_, he, strsV_nil _, below_up ((Below.refl _ _).alloc (Nat.le_refl _) _) hb⟩
    | some b, hm =>
      obtain ⟨D, hown, hR⟩ := hm
      have hz := hown.size_le
      refine (callsIn_wide.1 (Try.slices_Sorted_keys_50_51 b N D rawElem w hown (by unfold maxLen; omega) (by omega))).mono ?_
      rintro e w' ⟨v, ss, he, hss, hrow, -, hb⟩
      have hs := hss.trans (names_perm hL hown hR).symm
      have hlen : ss.length = (L.map Xm.n).length := by rw [hs.length_eq, List.length_map, List.length_map]
      rw [names_sorted hL hs, enc_names, hlen] at hrow
      exact ⟨v, he, strsV_row hrow, below_up ((Below.refl _ _).alloc (Nat.le_refl _) _) hb⟩)
  clear hp hm
  go_enter Try.func34, Try.ntmps34
  go_wp2_with (first
    | (go_at_call 51; (with_reducible refine (HK.out _).mono ?_); rintro e w1 ⟨rfl, rfl⟩)
    | (go_at_call 50; (with_reducible refine HS.out.mono ?_); rintro e w2 ⟨v, rfl, hv, hb⟩; have HV := Lib.hid hv; have HB := Lib.hid hb; clear hv hb))
  go_ret
  exact ⟨v, rfl, HV.out, HB.out⟩

end Go.Proofs.Ytmghocfkekggaaa
