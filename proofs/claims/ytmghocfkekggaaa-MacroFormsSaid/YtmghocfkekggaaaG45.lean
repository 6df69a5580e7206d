/-
  Texts of the proof, put together: MtRow, MtAt, MtRead.
-/
import Derived.Test.YtmghocfkekggaaaG31
import Derived.Test.YtmghocfkekggaaaG43
import Derived.Test.YtmghocfkekggaaaG41
import Derived.SliceStrings

/-
  Rows of macros, as they are read.
-/
namespace Go.Proofs.Ytmghocfkekggaaa
open Go.RowKit Go.Maps

/-- A macro with its two rows' values. -/
structure Mv where
  m : Xm
  pv : Value
  bv : Value
def mcell (x : Mv) : List Value := [.string x.m.n, .bool x.m.fn, .bool x.m.va, x.pv, x.bv, .string x.m.g, .int .i64 x.m.f, .int .i64 x.m.t]
def mcells (P : List Mv) : List Value := P.flatMap mcell
theorem mcells_append (P Q : List Mv) : mcells (P ++ Q) = mcells P ++ mcells Q := by simp [mcells]
theorem mcells_len : ∀ P : List Mv, (mcells P).length = P.length * 8
  | [] => rfl
  | a :: r => by
    show (mcell a ++ mcells r).length = _
    rw [List.length_append, mcells_len r, List.length_cons]
    show 8 + _ = _
    omega
theorem mcells_split (P : List Mv) (k : Nat) (hk : k ≤ P.length) : mcells (P.take k) = (mcells P).take (k * 8) ∧ mcells (P.drop k) = (mcells P).drop (k * 8) := by
  have e : mcells P = mcells (P.take k) ++ mcells (P.drop k) := by rw [← mcells_append, List.take_append_drop]
  have hl : (mcells (P.take k)).length = k * 8 := by rw [mcells_len, List.length_take, Nat.min_eq_left hk]
  rw [e]
  exact ⟨(List.take_left' hl).symm, (List.drop_left' hl).symm⟩
theorem mcells_get : ∀ (P : List Mv) (k j : Nat) (x : Mv) (u : Value), P[k]? = some x → (mcell x)[j]? = some u → (mcells P)[k * 8 + j]? = some u
  | [], _, _, _, _, h, _ => by simp at h
  | a :: r, 0, j, x, u, h, hj => by
    simp only [List.getElem?_cons_zero, Option.some.injEq] at h
    subst h
    show (mcell a ++ mcells r)[_]? = _
    rw [Nat.zero_mul, Nat.zero_add, List.getElem?_append_left (List.getElem?_eq_some_iff.1 hj).1, hj]
  | a :: r, k + 1, j, x, u, h, hj => by
    show (mcell a ++ mcells r)[_]? = _
    rw [List.getElem?_append_right (by show 8 ≤ _; omega), show (k + 1) * 8 + j - (mcell a).length = k * 8 + j from by show _ - 8 = _; omega]
    exact mcells_get r k j x u (by simpa using h) hj

/-- A row of macros. -/
def MRow (P : List Mv) (v : Value) (w : World) : Prop :=
  (∃ a cap, v = .slice a P.length cap ∧ P.length ≤ cap ∧ cap ≤ maxLen ∧ (a = none → cap = 0) ∧ ∀ j u, (mcells P)[j]? = some u → ∃ g o, a = some ⟨g, o, none⟩ ∧ g < w.heap.size ∧ w.cell? ⟨g, o + j, none⟩ = some u) ∧ ∀ x ∈ P, MacAt x.m x.pv x.bv w
theorem MRow.form {P : List Mv} {v : Value} {w : World} (h : MRow P v w) : ∃ a n cap, v = .slice a n cap := by
  obtain ⟨⟨a, cap, hv, -⟩, -⟩ := h
  exact ⟨a, _, cap, hv⟩
theorem MRow.len {P : List Mv} {a : Option Addr} {n cap : Nat} {w : World} (h : MRow P (.slice a n cap) w) : n = P.length ∧ n ≤ cap ∧ cap ≤ maxLen ∧ (a = none → cap = 0) := by
  obtain ⟨⟨a', cap', hv, h1, h2, h3, -⟩, -⟩ := h
  simp only [Value.slice.injEq] at hv
  obtain ⟨e0, e1, e2⟩ := hv
  subst e0 e1 e2
  exact ⟨rfl, h1, h2, h3⟩
def MacC (x : Mv) (g o : Nat) (w : World) : Prop :=
  w.cell? ⟨g, o, none⟩ = some (.string x.m.n) ∧ w.cell? ⟨g, o + 1, none⟩ = some (.bool x.m.fn) ∧ w.cell? ⟨g, o + 2, none⟩ = some (.bool x.m.va) ∧ w.cell? ⟨g, o + 3, none⟩ = some x.pv ∧
  w.cell? ⟨g, o + 4, none⟩ = some x.bv ∧ w.cell? ⟨g, o + 5, none⟩ = some (.string x.m.g) ∧ w.cell? ⟨g, o + 6, none⟩ = some (.int .i64 x.m.f) ∧ w.cell? ⟨g, o + 7, none⟩ = some (.int .i64 x.m.t)
theorem MacC.next {x : Mv} {g o : Nat} {w w' : World} (h : MacC x g o w) (b : Below w.heap.size w w') (hg : g < w.heap.size) : MacC x g o w' := by
  obtain ⟨c0, c1, c2, c3, c4, c5, c6, c7⟩ := h
  exact ⟨bcell b c0 hg, bcell b c1 hg, bcell b c2 hg, bcell b c3 hg, bcell b c4 hg, bcell b c5 hg, bcell b c6 hg, bcell b c7 hg⟩
theorem MRow.get {P : List Mv} {a : Option Addr} {n cap : Nat} {w : World} (h : MRow P (.slice a n cap) w) {k : Nat} {x : Mv} (hx : P[k]? = some x) : ∃ g o, a = some ⟨g, o, none⟩ ∧ g < w.heap.size ∧ MacC x g (o + k * 8) w ∧ MacAt x.m x.pv x.bv w := by
  obtain ⟨⟨a', cap', hv, h1, h2, h3, hc⟩, hm⟩ := h
  simp only [Value.slice.injEq] at hv
  obtain ⟨rfl, -, -⟩ := hv
  obtain ⟨g, o, rfl, hg, c0⟩ := hc _ _ (mcells_get P k 0 x _ hx rfl)
  have hq : ∀ j u, (mcell x)[j]? = some u → w.cell? ⟨g, o + k * 8 + j, none⟩ = some u := fun j u hj => by
    obtain ⟨g', o', he, -, hc'⟩ := hc _ _ (mcells_get P k j x _ hx hj)
    simp only [Option.some.injEq, Addr.mk.injEq, and_true] at he
    obtain ⟨rfl, rfl⟩ := he
    rw [Nat.add_assoc]
    exact hc'
  exact ⟨g, o, rfl, hg, ⟨hq 0 _ rfl, hq 1 _ rfl, hq 2 _ rfl, hq 3 _ rfl, hq 4 _ rfl, hq 5 _ rfl, hq 6 _ rfl, hq 7 _ rfl⟩, hm x (List.mem_of_getElem? hx)⟩
theorem MRow.over {P : List Mv} {v : Value} {w w' : World} (h : MRow P v w) (b : Below w.heap.size w w') : MRow P v w' := by
  obtain ⟨⟨a, cap, hv, h1, h2, h3, hc⟩, hm⟩ := h
  refine ⟨⟨a, cap, hv, h1, h2, h3, fun j u hj => ?_⟩, fun x hx => (hm x hx).over b⟩
  obtain ⟨g, o, ha, hg, hcc⟩ := hc j u hj
  exact ⟨g, o, ha, Nat.lt_of_lt_of_le hg b.size, bcell b hcc hg⟩
theorem MRow.turn {P : List Mv} {v : Value} {Q : Nat → Prop} {w w' : World} (h : MRow P v w) (t : Turned Q w w') : MRow P v w' := by
  obtain ⟨⟨a, cap, hv, h1, h2, h3, hc⟩, hm⟩ := h
  refine ⟨⟨a, cap, hv, h1, h2, h3, fun j u hj => ?_⟩, fun x hx => (hm x hx).turn t⟩
  obtain ⟨g, o, ha, hg, hcc⟩ := hc j u hj
  have hnq : ¬ Q g := fun hq => by
    obtain ⟨x, hx⟩ : ∃ x, P[0]? = some x := by
      cases P with
      | nil => simp [mcells] at hj
      | cons x r => exact ⟨x, rfl⟩
    obtain ⟨g', o', ha', -, hc'⟩ := hc _ _ (mcells_get P 0 0 x _ hx rfl)
    rw [ha] at ha'
    simp only [Option.some.injEq, Addr.mk.injEq, and_true] at ha'
    obtain ⟨rfl, rfl⟩ := ha'
    exact t.nos g hq hg _ _ hc'
  exact ⟨g, o, ha, Nat.lt_of_lt_of_le hg t.size, (World.cell?_of_block (t.block g hg hnq)).trans hcc⟩
theorem mrow_nil (w : World) : MRow [] (.slice none 0 0) w := ⟨⟨none, 0, rfl, Nat.le_refl _, Nat.zero_le _, fun _ => rfl, fun j u h => by simp [mcells] at h⟩, fun x hx => by cases hx⟩
theorem mcells_one {P : List Mv} {w : World} (h : ∀ x ∈ P, MacAt x.m x.pv x.bv w) : ∀ u ∈ mcells P, u.oneCell' = true := by
  intro u hu
  obtain ⟨x, hx, hu⟩ := List.mem_flatMap.1 hu
  obtain ⟨a, n, c, h1⟩ := (h x hx).1.form
  obtain ⟨b, k, d, h2⟩ := (h x hx).2.form
  unfold mcell at hu
  rw [h1, h2] at hu
  simp only [List.mem_cons, List.not_mem_nil, or_false] at hu
  rcases hu with rfl | rfl | rfl | rfl | rfl | rfl | rfl | rfl <;> rfl
theorem mrow_up {W w : World} {P : List Mv} {v : Value} {n : Nat} (h : Up W 36 8 v n (mcells P) w) (hn : n = P.length) (hm : ∀ x ∈ P, MacAt x.m x.pv x.bv w) : MRow P v w := by
  subst hn
  obtain ⟨a, cap, hv, h1, h2, h3⟩ := row_form h.1
  refine ⟨⟨a, cap, hv, h1, h2, fun ha => ?_, fun j u hj => ?_⟩, hm⟩
  · subst ha
    obtain ⟨-, ⟨hv', -⟩ | ⟨g', cap', cur, hv', -⟩⟩ := h.1
    · rw [hv] at hv'
      simp only [Value.slice.injEq] at hv'
      exact hv'.2.2
    · rw [hv] at hv'
      simp at hv'
  · obtain ⟨g, hg, hlt, hc⟩ := h3 j u hj
    exact ⟨g, 0, hg, hlt, by rw [Nat.zero_add]; exact hc⟩
theorem msrc_take {P : List Mv} {a : Option Addr} {n cap k : Nat} {w : World} (h : MRow P (.slice a n cap) w) (hk : k ≤ n) : Src w (.slice a k cap) k 8 (mcells (P.take k)) := by
  obtain ⟨hn, hc1, hc2, hz⟩ := h.len
  cases a with
  | none =>
    have := hz rfl
    have hk0 : k = 0 := by omega
    subst hk0 this
    exact .inl ⟨rfl, rfl, rfl⟩
  | some ad =>
    refine .inr ⟨_, _, rfl, by rw [mcells_len, List.length_take]; omega, fun j u hj => ?_⟩
    rw [(mcells_split P k (by omega)).1, List.getElem?_take] at hj
    split at hj
    · obtain ⟨⟨a', cap', hv, -, -, -, hc⟩, -⟩ := h
      simp only [Value.slice.injEq] at hv
      obtain ⟨g, o, ha, -, hcc⟩ := hc j u hj
      rw [← hv.1] at ha
      obtain rfl := Option.some.inj ha
      rw [addr_off]
      exact hcc
    · cases hj
theorem msrc_drop {P : List Mv} {g o n cap k : Nat} {w : World} (h : MRow P (.slice (some ⟨g, o, none⟩) n cap) w) (hk : k ≤ n) : Src w (.slice (if cap = k then some ⟨g, o, none⟩ else some ⟨g, o + k * 8, none⟩) (n - k) (cap - k)) (n - k) 8 (mcells (P.drop k)) := by
  obtain ⟨hn, hc1, hc2, hz⟩ := h.len
  have hl : (mcells (P.drop k)).length = (n - k) * 8 := by rw [mcells_len, List.length_drop, hn]
  have hq : ∀ j u, (mcells (P.drop k))[j]? = some u → w.cell? ⟨g, o + k * 8 + j, none⟩ = some u := fun j u hj => by
    rw [(mcells_split P k (by omega)).2, List.getElem?_drop] at hj
    obtain ⟨⟨a', cap', hv, -, -, -, hc⟩, -⟩ := h
    simp only [Value.slice.injEq] at hv
    obtain ⟨g', o', ha, -, hcc⟩ := hc _ u hj
    rw [← hv.1] at ha
    simp only [Option.some.injEq, Addr.mk.injEq, and_true] at ha
    obtain ⟨rfl, rfl⟩ := ha
    rw [Nat.add_assoc]
    exact hcc
  by_cases hck : cap = k
  · rw [if_pos hck]
    refine .inr ⟨_, _, rfl, hl, fun j u hj => ?_⟩
    rw [List.drop_eq_nil_of_le (by omega)] at hj
    simp [mcells] at hj
  · rw [if_neg hck]
    refine .inr ⟨_, _, rfl, hl, fun j u hj => ?_⟩
    rw [addr_off]
    exact hq j u hj

end Go.Proofs.Ytmghocfkekggaaa

/-
  Where a name stands in the document's table.
-/
namespace Go.Proofs.Ytmghocfkekggaaa
open Go.RowKit Go.Maps

def nameL (P : List Mv) : List Xm := P.map Mv.m
def docT (lv : Value) : Obj := .cells #[lv] 30 (0, 0)
theorem docT_cell {w : World} {q : Nat} {lv : Value} (h : w.heap[q]? = some (docT lv)) : w.cell? ⟨q, 0, none⟩ = some lv ∧ w.frozen? ⟨q, 0, none⟩ = false := by
  unfold docT at h
  refine ⟨?_, Lib.frozen_of_heap h _⟩
  rw [Lib.cell_of_heap h]
  rfl
theorem docT_nostr {w : World} {q : Nat} {a : Option Addr} {n c : Nat} (h : w.heap[q]? = some (docT (.slice a n c))) : NoStr w q := by
  intro o s
  unfold docT at h
  rw [Lib.cell_of_heap h]
  match o with
  | 0 => simp
  | o + 1 => simp
theorem name_get {P : List Mv} {k : Nat} {x : Mv} (h : P[k]? = some x) : (nameL P)[k]? = some x.m := by
  unfold nameL
  rw [List.getElem?_map, h]
  rfl

def MtAtPost (w : World) (L : List Xm) (s : ByteArray) (e : Ending) (w' : World) : Prop := e = .returned (.tuple #[.int .i64 (posM L s : Nat), .bool (hereM L s)]) ∧ Below w.heap.size w w'
/-- Every one before is less. -/
def LessTo (L : List Xm) (s : ByteArray) (k : Nat) : Prop := ∀ j x, j < k → L[j]? = some x → lessB x.n s = true
theorem pos_stop : ∀ {L : List Xm} {s : ByteArray} {k : Nat}, LessTo L s k → k ≤ L.length → (∀ x, L[k]? = some x → lessB x.n s = false) → posM L s = k
  | [], _, k, _, hk, _ => by
    have : k = 0 := by simpa using hk
    subst this
    rfl
  | a :: r, s, 0, _, _, hs => by
    unfold posM
    rw [hs a rfl]
    rfl
  | a :: r, s, k + 1, h, hk, hs => by
    unfold posM
    rw [if_pos (h 0 a (by omega) rfl), pos_stop (L := r) (k := k) (fun j x hj hx => h (j + 1) x (by omega) (by simpa using hx)) (by simpa using hk) (fun x hx => hs x (by simpa using hx))]

set_option maxRecDepth 100000 in
set_option maxHeartbeats 1600000 in
theorem at_mac {w : World} {q : Nat} {lv : Value} {P : List Mv} (hq : w.heap[q]? = some (docT lv)) (hr : MRow P lv w) (s : ByteArray) :
    Calls Try.prog 29 #[.pointer (some ⟨q, 0, none⟩), .string s] w (MtAtPost w (nameL P) s) := by
  obtain ⟨a, n, cap, rfl⟩ := hr.form
  obtain ⟨hn, hc1, hc2, -⟩ := hr.len
  obtain ⟨c0, -⟩ := docT_cell hq
  unfold maxLen at hc2
  have HR := Lib.hid hr
  have HN : Hid (n = (nameL P).length) := Lib.hid (by unfold nameL; rw [List.length_map]; exact hn)
  have HNP := Lib.hid hn
  clear hq hr hn
  go_enter Try.func29, Try.ntmps29
  go_wp2
  go_loop [6] (fun i => ∃ k : Nat, i = .int .i64 (k : Int) ∧ k ≤ n ∧ LessTo (nameL P) s k) (fun i => n - (intOf i).toNat)
  case atStart => exact ⟨0, rfl, Nat.zero_le _, fun j x hj => by omega⟩
  case round =>
    obtain ⟨k, rfl, hk, hall⟩ := hrel
    have HALL := Lib.hid hall
    clear hall
    by_cases hlt : k < n
    · obtain ⟨x, hx⟩ : ∃ x, P[k]? = some x := ⟨_, List.getElem?_eq_getElem (by rw [← HNP.out]; exact hlt)⟩
      obtain ⟨g, o, rfl, hg, hxc, -⟩ := HR.out.get hx
      obtain ⟨e0, -⟩ := hxc
      have HX := Lib.hid (name_get hx)
      have hki : (k : Int) < (n : Int) := by omega
      have hk0 : (0 : Int) ≤ (k : Int) := by omega
      have hbt : x.m.n.toList = x.m.n.data.toList := ByteArray.toList_eq _
      have hst : s.toList = s.data.toList := ByteArray.toList_eq s
      cases hl : lessB x.m.n s with
      | true =>
        have hl1 : Op.bytesLess x.m.n.toList s.toList = true := by rw [hbt, hst]; exact hl
        have HL := Lib.hid hl
        clear hx hbt hst hl
        go_wp2
        go_round
        case rel =>
          refine ⟨k + 1, by go_num, hlt, fun j y hj hy => ?_⟩
          rcases Nat.lt_or_ge j k with h | h
          · exact HALL.out j y h hy
          · obtain rfl : j = k := by omega
            rw [HX.out] at hy
            cases hy
            exact HL.out
        case measure => simp [intOf]; omega
      | false =>
        have hl1 : Op.bytesLess x.m.n.toList s.toList = false := by rw [hbt, hst]; exact hl
        have hN : posM (nameL P) s = k := pos_stop HALL.out (by rw [← HN.out]; exact hk) fun y hy => by rw [HX.out] at hy; cases hy; exact hl
        have hB : hereM (nameL P) s = decide (x.m.n = s) := (posM_at (nameL P) s x.m (by rw [hN]; exact HX.out)).2
        have heq : (x.m.n.toList == s.toList) = decide (x.m.n = s) := str_is _ _
        have HE : Hid (MtAtPost w (nameL P) s = fun e w' => e = .returned (.tuple #[.int .i64 (k : Nat), .bool (decide (x.m.n = s))]) ∧ Below w.heap.size w w') := Lib.hid (by unfold MtAtPost; rw [hN, hB])
        cases hq : decide (x.m.n = s) with
        | true =>
          rw [hq] at heq HE
          clear hx hbt hst hl hN hB hq
          go_wp2
          go_quiet (fail)
          go_wp2
          go_ret2
          rw [HE.out]
          exact ⟨rfl, Below.of_drews _ _⟩
        | false =>
          rw [hq] at heq HE
          clear hx hbt hst hl hN hB hq
          go_wp2
          go_quiet (fail)
          go_wp2
          go_ret2
          rw [HE.out]
          exact ⟨rfl, Below.of_drews _ _⟩
    · have hge : ¬ ((k : Int) < (n : Int)) := by omega
      have hgd : decide ((k : Int) < (n : Int)) = false := by simpa using hge
      have hkl : k = n := by omega
      have hN : posM (nameL P) s = k := pos_stop HALL.out (by rw [← HN.out]; exact hk) fun y hy => by
        have := (List.getElem?_eq_some_iff.1 hy).1
        rw [← HN.out] at this
        omega
      have hB : hereM (nameL P) s = false := posM_end _ _ (by rw [hN, ← HN.out]; omega)
      have HE : Hid (MtAtPost w (nameL P) s = fun e w' => e = .returned (.tuple #[.int .i64 (k : Nat), .bool false]) ∧ Below w.heap.size w w') := Lib.hid (by unfold MtAtPost; rw [hN, hB])
      clear hN hB
      go_wp2
      go_quiet (fail)
      go_wp2
      go_ret2
      rw [HE.out]
      exact ⟨by rw [hkl]; rfl, Below.of_drews _ _⟩

end Go.Proofs.Ytmghocfkekggaaa

/-
  Macros that came in, as the laws read them.
-/
namespace Go.Proofs.Ytmghocfkekggaaa
open Go.ChangeShapes Go.WideShapes Go.ChangeAt Go.RowKit Go.ChangeMaps

theorem lift_cellMac : Try.prog.cellsOf 36 = 8 := by kernel_rfl
theorem lift_cellStrs : Try.prog.cellsOf 23 = 1 := by kernel_rfl
theorem lift_cellToks : Try.prog.cellsOf 32 = 1 := by kernel_rfl

theorem mcells_at : ∀ (P : List Mv) (j : Nat) (u : Value), (mcells P)[j]? = some u → ∃ i x k, P[i]? = some x ∧ (mcell x)[k]? = some u ∧ j = i * 8 + k
  | [], j, u, h => by simp [mcells] at h
  | a :: r, j, u, h => by
    have h : (mcell a ++ mcells r)[j]? = some u := h
    rcases Nat.lt_or_ge j 8 with hj | hj
    · rw [List.getElem?_append_left (by show j < 8; omega)] at h
      exact ⟨0, a, j, rfl, h, by omega⟩
    · rw [List.getElem?_append_right (by show 8 ≤ j; omega)] at h
      obtain ⟨i, x, k, h1, h2, h3⟩ := mcells_at r (j - 8) u h
      exact ⟨i + 1, x, k, by simpa using h1, h2, by omega⟩

section
variable {H : Type} {enc : TypeId × Value → H} {W : World} {base : Nat} {sp : Nat → Bool} {held : Bool} {fuel : Nat}

theorem read_strV {a : Option Addr} {len cap : Nat} {x : DataW H × List MemPlace} (h : DataW.trod enc Try.prog W base sp held fuel 23 [.slice a len cap] = some x) : ∃ S : List ByteArray, StrsV S (.slice a len cap) W ∧ ∀ s ∈ S, s.size ≤ maxLen := by
  rcases open_strings Try.underlying23 Try.underlying9 lift_cellStr h with ⟨hcs, -⟩ | ⟨a0, len', cap', ss, hcs, -, hl, hm, hz, -, hcell, hsz⟩
  · simp only [List.cons.injEq, Value.slice.injEq, and_true] at hcs
    obtain ⟨rfl, rfl, rfl⟩ := hcs
    exact ⟨[], strsV_nil W, fun s hs => by cases hs⟩
  · simp only [List.cons.injEq, Value.slice.injEq, and_true] at hcs
    obtain ⟨rfl, rfl, rfl⟩ := hcs
    have hlen : len ≤ ss.length := by
      rw [hz]
      split <;> omega
    have htl : (ss.take len).length = len := by rw [List.length_take]; omega
    refine ⟨ss.take len, ⟨some a0, cap, by rw [htl], by omega, hm, fun k s hk => ?_⟩, fun s hs => hsz s (List.mem_of_mem_take hs)⟩
    have hkl := (List.getElem?_eq_some_iff.1 hk).1
    rw [htl] at hkl
    rw [List.getElem?_take_of_lt hkl] at hk
    have h0 := hcell 0 (by omega)
    rw [show a0.add 0 = a0 from by simp [Addr.add]] at h0
    obtain ⟨g, o, rfl, hg⟩ := read_spot h0
    have hc := hcell k (by omega)
    rw [addr_off, List.getD_eq_getElem?_getD, hk] at hc
    exact ⟨g, o, rfl, hg, hc⟩

/-- The names and the parameters are texts as they may be. -/
def MvFit (x : Mv) : Prop := x.m.n.size ≤ maxLen ∧ ∀ s ∈ x.m.ps, s.size ≤ maxLen

set_option maxRecDepth 100000 in
theorem read_mac {cs : List Value} {x : DataW H × List MemPlace} (h : DataW.trod enc Try.prog W base sp held fuel 36 cs = some x) : ∃ m : Mv, cs = mcell m ∧ MacAt m.m m.pv m.bv W ∧ MvFit m := by
  obtain ⟨ys, n', -, -, hcl, hyl, hf⟩ := DataW.trod_struct Try.underlying36 h
  rw [lift_cellMac] at hcl
  match cs, hcl with
  | [c0, c1, c2, c3, c4, c5, c6, c7], _ =>
    match ys, hyl with
    | [y0, y1, y2, y3, y4, y5], _ =>
      have f0 := hf 0 _ rfl
      have f1 := hf 1 _ rfl
      have f2 := hf 2 _ rfl
      have f3 := hf 3 _ rfl
      have f4 := hf 4 _ rfl
      have f5 := hf 5 _ rfl
      simp [lift_cellSpan, lift_cellStr, lift_cellBool, lift_cellStrs, lift_cellToks] at f0 f1 f2 f3 f4 f5
      obtain ⟨s0, e0, -, hs0⟩ := DataW.trod_string Try.underlying9 f0
      obtain ⟨b1, e1, -⟩ := DataW.trod_bool Try.underlying4 f1
      obtain ⟨b2, e2, -⟩ := DataW.trod_bool Try.underlying4 f2
      obtain ⟨s5, n5, m5, e5⟩ := read_span f5
      have h3 : ∃ a len cap, c3 = .slice a len cap := by
        rcases Go.Deep.open_slice Try.underlying23 f3 with ⟨hcs, -⟩ | ⟨a0, len', cap', m, fu, D, Pl, hcs, -⟩
        · simp only [List.cons.injEq, and_true] at hcs
          exact ⟨_, _, _, hcs⟩
        · simp only [List.cons.injEq, and_true] at hcs
          exact ⟨_, _, _, hcs⟩
      have h4 : ∃ a len cap, c4 = .slice a len cap := by
        rcases Go.Deep.open_slice Try.underlying32 f4 with ⟨hcs, -⟩ | ⟨a0, len', cap', m, fu, D, Pl, hcs, -⟩
        · simp only [List.cons.injEq, and_true] at hcs
          exact ⟨_, _, _, hcs⟩
        · simp only [List.cons.injEq, and_true] at hcs
          exact ⟨_, _, _, hcs⟩
      obtain ⟨a3, l3, k3, rfl⟩ := h3
      obtain ⟨a4, l4, k4, rfl⟩ := h4
      obtain ⟨S, hS, hSb⟩ := read_strV f3
      obtain ⟨T, hT⟩ := read_toks (a := a4) (len := l4) (cap := k4) f4
      simp only [List.cons.injEq, and_true] at e0 e1 e2 e5
      obtain ⟨rfl, rfl, rfl⟩ := e5
      subst e0 e1 e2
      exact ⟨⟨⟨s0, b1, b2, S, T, s5, n5, m5⟩, _, _⟩, rfl, ⟨hS, hT⟩, hs0, hSb⟩

set_option maxRecDepth 100000 in
theorem read_macs {a : Option Addr} {len cap : Nat} {x : DataW H × List MemPlace} (h : DataW.trod enc Try.prog W base sp held fuel 22 (Value.cells (.slice a len cap)).toList = some x) : ∃ P : List Mv, MRow P (.slice a len cap) W ∧ ∀ m ∈ P, MvFit m := by
  rcases Go.Deep.open_slice Try.underlying22 h with ⟨hcs, -⟩ | ⟨a0, len', cap', m, fu, D, Pl, hcs, -, hl, hm, hmm, -, hi⟩
  · simp [Value.cells] at hcs
    obtain ⟨rfl, rfl, rfl⟩ := hcs
    exact ⟨[], mrow_nil W, fun m hm => by cases hm⟩
  · simp [Value.cells] at hcs
    obtain ⟨rfl, rfl, rfl⟩ := hcs
    have hlm : len ≤ m := by
      rw [hmm]
      split <;> omega
    have hz : 0 < len → ∃ g o, a0 = ⟨g, o, none⟩ ∧ g < W.heap.size := fun h0 => by
      obtain ⟨cs', hc, ht'⟩ := hi 0 (by omega)
      rw [lift_cellMac] at hc
      obtain ⟨-, hcl, hat⟩ := World.cells?_some hc
      obtain ⟨t, rfl, -⟩ := read_mac ht'
      have g0 := hat 0 (by omega)
      rw [Go.Deep.add_add, show a0.add (0 * 8 + 0) = a0 from by simp [Addr.add]] at g0
      exact read_spot g0
    obtain ⟨T, hTl, hTp⟩ := pick_list (fun i (t : Mv) => (∃ g o, a0 = ⟨g, o, none⟩ ∧ g < W.heap.size ∧ ∀ j u, (mcell t)[j]? = some u → W.cell? ⟨g, o + i * 8 + j, none⟩ = some u) ∧ MacAt t.m t.pv t.bv W ∧ MvFit t) len (fun i hil => by
      obtain ⟨cs', hc, ht'⟩ := hi i (by omega)
      rw [lift_cellMac] at hc
      obtain ⟨-, hcl, hat⟩ := World.cells?_some hc
      obtain ⟨t, rfl, hma, hfit⟩ := read_mac ht'
      obtain ⟨g, o0, rfl, hg⟩ := hz (by omega)
      refine ⟨t, ⟨g, o0, rfl, hg, fun j u hj => ?_⟩, hma, hfit⟩
      have hj8 : j < 8 := (List.getElem?_eq_some_iff.1 hj).1
      have g0 := hat j hj8
      rw [Go.Deep.add_add, addr_off] at g0
      rw [Nat.add_assoc, g0]
      exact hj)
    refine ⟨T, ⟨⟨some a0, cap, by rw [hTl], by omega, hm, (fun h => by cases h), fun j u hj => ?_⟩, fun t ht => ?_⟩, fun t ht => ?_⟩
    · obtain ⟨i, x, k, hx, hk, rfl⟩ := mcells_at T j u hj
      obtain ⟨⟨g, o, ha, hg, hc⟩, -⟩ := hTp i x hx
      exact ⟨g, o, by rw [ha], hg, by rw [← Nat.add_assoc]; exact hc k u hk⟩
    · obtain ⟨i, hi', rfl⟩ := List.getElem_of_mem ht
      exact (hTp i _ (List.getElem?_eq_getElem hi')).2.1
    · obtain ⟨i, hi', rfl⟩ := List.getElem_of_mem ht
      exact (hTp i _ (List.getElem?_eq_getElem hi')).2.2
end

end Go.Proofs.Ytmghocfkekggaaa
