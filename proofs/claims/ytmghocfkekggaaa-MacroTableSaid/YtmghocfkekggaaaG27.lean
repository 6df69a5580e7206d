/-
  Texts of the proof, put together: McTxt.
-/
import Derived.Test.YtmghocfkekggaaaG26

/-
  Rows of texts: are two the same; where a text stands.
-/
namespace Go.Proofs.Ytmghocfkekggaaa
open Go.RowKit Go.Maps

set_option maxRecDepth 100000 in
set_option maxHeartbeats 3200000 in
theorem sEqual_any {X Y : List ByteArray} {v u : Value} {w : World} (h : StrsV X v w) (h' : StrsV Y u w) : Calls Try.prog 41 #[v, u] w (fun e w' => e = .returned (.bool (decide (X = Y))) ∧ ∃ n, w' = w.drewN n) := by
  obtain ⟨a, n, cap, rfl⟩ := h.form
  obtain ⟨a', n', cap', rfl⟩ := h'.form
  obtain ⟨hn, hc1, hc2⟩ := h.len
  obtain ⟨hn', hc1', hc2'⟩ := h'.len
  unfold maxLen at hc2 hc2'
  obtain ⟨b, hb⟩ : ∃ b, decide (X = Y) = b := ⟨_, rfl⟩
  have HB := Lib.hid hb
  rw [hb]
  clear hb
  have HX := Lib.hid h
  have HX' := Lib.hid h'
  have HN := Lib.hid hn
  have HN' := Lib.hid hn'
  clear h h' hn hn'
  by_cases he : n = n'
  · subst he
    go_enter Try.func41, Try.ntmps41
    go_wp2
    go_loopw [13] (fun i wr => ∃ k : Nat, i = .int .i64 (k : Int) ∧ k ≤ n ∧ (∃ q, wr = w.drewN q) ∧ ∀ j, j < k → X[j]? = Y[j]?) (fun i _ => n - (intOf i).toNat)
    case atStart => exact ⟨0, rfl, Nat.zero_le _, ⟨0, rfl⟩, fun j hj => by omega⟩
    case round =>
      obtain ⟨k, rfl, hk, ⟨q, rfl⟩, hall⟩ := hrel
      have HA := Lib.hid hall
      clear hall
      by_cases hlt : k < n
      · obtain ⟨x, hx⟩ : ∃ x, X[k]? = some x := ⟨_, List.getElem?_eq_getElem (by rw [← HN.out]; exact hlt)⟩
        obtain ⟨y, hy⟩ : ∃ y, Y[k]? = some y := ⟨_, List.getElem?_eq_getElem (by rw [← HN'.out]; exact hlt)⟩
        obtain ⟨g, o, rfl, -, c1⟩ := HX.out.get hx
        obtain ⟨g', o', rfl, -, c2⟩ := HX'.out.get hy
        have hkI : (k : Int) < (n : Int) := by omega
        have hk0 : (0 : Int) ≤ (k : Int) := by omega
        obtain ⟨bb, hbb⟩ : ∃ b, (x.toList == y.toList) = b := ⟨_, rfl⟩
        have hxy : bb = decide (x = y) := by rw [← hbb, ← str_is]
        cases bb with
        | true =>
          have HO : Hid (∀ j, j < k + 1 → X[j]? = Y[j]?) := Lib.hid (fun j hj => by
            rcases Nat.lt_or_ge j k with hjk | hjk
            · exact HA.out j hjk
            · obtain rfl : j = k := by omega
              rw [hx, hy]
              have e : x = y := by simpa using hxy.symm
              rw [e])
          clear hx hy hxy
          go_wp2
          go_quiet (fail)
          go_wp2
          go_roundw
          case rel => exact ⟨k + 1, by go_num, hlt, ⟨_, rfl⟩, HO.out⟩
          case measure => simp [intOf]; omega
        | false =>
          have HO : Hid (false = b) := Lib.hid (by
            rw [← HB.out]
            simp only [Bool.false_eq, decide_eq_false_iff_not]
            rintro rfl
            rw [hx] at hy
            cases hy
            simp at hxy)
          clear hx hy hxy
          go_wp2
          go_quiet (fail)
          go_wp2
          go_ret
          exact ⟨ret_bool HO.out, ⟨_, World.drewN_drewN _ _ _⟩⟩
      · have hkI : ¬ (k : Int) < (n : Int) := by omega
        have HO : Hid (true = b) := Lib.hid (by
          rw [← HB.out]
          simp only [Bool.true_eq, decide_eq_true_eq]
          apply List.ext_getElem?
          intro j
          rcases Nat.lt_or_ge j k with hj | hj
          · exact HA.out j hj
          · rw [List.getElem?_eq_none (by have := HN.out; omega), List.getElem?_eq_none (by have := HN'.out; omega)])
        go_wp2
        go_ret
        exact ⟨ret_bool HO.out, ⟨_, rfl⟩⟩
  · have hne : ((n : Int) != (n' : Int)) = true := by simp; omega
    have HO : Hid (false = b) := Lib.hid (by
      rw [← HB.out]
      simp only [Bool.false_eq, decide_eq_false_iff_not]
      rintro rfl
      exact he (HN.out.trans HN'.out.symm))
    go_enter Try.func41, Try.ntmps41
    go_wp2
    go_ret
    exact ⟨ret_bool HO.out, ⟨0, rfl⟩⟩

set_option maxRecDepth 100000 in
set_option maxHeartbeats 3200000 in
theorem rTexts_any {X Y : List ByteArray} {v u : Value} {w : World} (h : StrsV X v w) (h' : StrsV Y u w) : Calls Try.prog 48 #[v, u] w (fun e w' => e = .returned (.bool (decide (X = Y))) ∧ ∃ n, w' = w.drewN n) := by
  obtain ⟨a, n, cap, rfl⟩ := h.form
  obtain ⟨a', n', cap', rfl⟩ := h'.form
  obtain ⟨hn, hc1, hc2⟩ := h.len
  obtain ⟨hn', hc1', hc2'⟩ := h'.len
  unfold maxLen at hc2 hc2'
  obtain ⟨b, hb⟩ : ∃ b, decide (X = Y) = b := ⟨_, rfl⟩
  have HB := Lib.hid hb
  rw [hb]
  clear hb
  have HX := Lib.hid h
  have HX' := Lib.hid h'
  have HN := Lib.hid hn
  have HN' := Lib.hid hn'
  clear h h' hn hn'
  by_cases he : n = n'
  · subst he
    go_enter Try.func48, Try.ntmps48
    go_wp2
    go_loopw [5] (fun i wr => ∃ k : Nat, i = .int .i64 (k : Int) ∧ k ≤ n ∧ (∃ q, wr = w.drewN q) ∧ ∀ j, j < k → X[j]? = Y[j]?) (fun i _ => n - (intOf i).toNat)
    case atStart => exact ⟨0, rfl, Nat.zero_le _, ⟨0, rfl⟩, fun j hj => by omega⟩
    case round =>
      obtain ⟨k, rfl, hk, ⟨q, rfl⟩, hall⟩ := hrel
      have HA := Lib.hid hall
      clear hall
      by_cases hlt : k < n
      · obtain ⟨x, hx⟩ : ∃ x, X[k]? = some x := ⟨_, List.getElem?_eq_getElem (by rw [← HN.out]; exact hlt)⟩
        obtain ⟨y, hy⟩ : ∃ y, Y[k]? = some y := ⟨_, List.getElem?_eq_getElem (by rw [← HN'.out]; exact hlt)⟩
        obtain ⟨g, o, rfl, -, c1⟩ := HX.out.get hx
        obtain ⟨g', o', rfl, -, c2⟩ := HX'.out.get hy
        have hkI : (k : Int) < (n : Int) := by omega
        have hk0 : (0 : Int) ≤ (k : Int) := by omega
        obtain ⟨bb, hbb⟩ : ∃ b, (x.toList == y.toList) = b := ⟨_, rfl⟩
        have hxy : bb = decide (x = y) := by rw [← hbb, ← str_is]
        cases bb with
        | true =>
          have HO : Hid (∀ j, j < k + 1 → X[j]? = Y[j]?) := Lib.hid (fun j hj => by
            rcases Nat.lt_or_ge j k with hjk | hjk
            · exact HA.out j hjk
            · obtain rfl : j = k := by omega
              rw [hx, hy]
              have e : x = y := by simpa using hxy.symm
              rw [e])
          clear hx hy hxy
          go_wp2
          go_quiet (fail)
          go_wp2
          go_roundw
          case rel => exact ⟨k + 1, by go_num, hlt, ⟨_, rfl⟩, HO.out⟩
          case measure => simp [intOf]; omega
        | false =>
          have HO : Hid (false = b) := Lib.hid (by
            rw [← HB.out]
            simp only [Bool.false_eq, decide_eq_false_iff_not]
            rintro rfl
            rw [hx] at hy
            cases hy
            simp at hxy)
          clear hx hy hxy
          go_wp2
          go_quiet (fail)
          go_wp2
          go_ret
          exact ⟨ret_bool HO.out, ⟨_, World.drewN_drewN _ _ _⟩⟩
      · have hkI : ¬ (k : Int) < (n : Int) := by omega
        have HO : Hid (true = b) := Lib.hid (by
          rw [← HB.out]
          simp only [Bool.true_eq, decide_eq_true_eq]
          apply List.ext_getElem?
          intro j
          rcases Nat.lt_or_ge j k with hj | hj
          · exact HA.out j hj
          · rw [List.getElem?_eq_none (by have := HN.out; omega), List.getElem?_eq_none (by have := HN'.out; omega)])
        go_wp2
        go_ret
        exact ⟨ret_bool HO.out, ⟨_, rfl⟩⟩
  · have hne : ((n : Int) != (n' : Int)) = true := by simp; omega
    have HO : Hid (false = b) := Lib.hid (by
      rw [← HB.out]
      simp only [Bool.false_eq, decide_eq_false_iff_not]
      rintro rfl
      exact he (HN.out.trans HN'.out.symm))
    go_enter Try.func48, Try.ntmps48
    go_wp2
    go_ret
    exact ⟨ret_bool HO.out, ⟨0, rfl⟩⟩

set_option maxRecDepth 100000 in
set_option maxHeartbeats 3200000 in
theorem aTexts_any {X Y : List ByteArray} {v u : Value} {w : World} (h : StrsV X v w) (h' : StrsV Y u w) : Calls Try.prog 21 #[v, u] w (fun e w' => e = .returned (.bool (decide (X = Y))) ∧ ∃ n, w' = w.drewN n) := by
  obtain ⟨a, n, cap, rfl⟩ := h.form
  obtain ⟨a', n', cap', rfl⟩ := h'.form
  obtain ⟨hn, hc1, hc2⟩ := h.len
  obtain ⟨hn', hc1', hc2'⟩ := h'.len
  unfold maxLen at hc2 hc2'
  obtain ⟨b, hb⟩ : ∃ b, decide (X = Y) = b := ⟨_, rfl⟩
  have HB := Lib.hid hb
  rw [hb]
  clear hb
  have HX := Lib.hid h
  have HX' := Lib.hid h'
  have HN := Lib.hid hn
  have HN' := Lib.hid hn'
  clear h h' hn hn'
  by_cases he : n = n'
  · subst he
    go_enter Try.func21, Try.ntmps21
    go_wp2
    go_loopw [5] (fun i wr => ∃ k : Nat, i = .int .i64 (k : Int) ∧ k ≤ n ∧ (∃ q, wr = w.drewN q) ∧ ∀ j, j < k → X[j]? = Y[j]?) (fun i _ => n - (intOf i).toNat)
    case atStart => exact ⟨0, rfl, Nat.zero_le _, ⟨0, rfl⟩, fun j hj => by omega⟩
    case round =>
      obtain ⟨k, rfl, hk, ⟨q, rfl⟩, hall⟩ := hrel
      have HA := Lib.hid hall
      clear hall
      by_cases hlt : k < n
      · obtain ⟨x, hx⟩ : ∃ x, X[k]? = some x := ⟨_, List.getElem?_eq_getElem (by rw [← HN.out]; exact hlt)⟩
        obtain ⟨y, hy⟩ : ∃ y, Y[k]? = some y := ⟨_, List.getElem?_eq_getElem (by rw [← HN'.out]; exact hlt)⟩
        obtain ⟨g, o, rfl, -, c1⟩ := HX.out.get hx
        obtain ⟨g', o', rfl, -, c2⟩ := HX'.out.get hy
        have hkI : (k : Int) < (n : Int) := by omega
        have hk0 : (0 : Int) ≤ (k : Int) := by omega
        obtain ⟨bb, hbb⟩ : ∃ b, (x.toList == y.toList) = b := ⟨_, rfl⟩
        have hxy : bb = decide (x = y) := by rw [← hbb, ← str_is]
        cases bb with
        | true =>
          have HO : Hid (∀ j, j < k + 1 → X[j]? = Y[j]?) := Lib.hid (fun j hj => by
            rcases Nat.lt_or_ge j k with hjk | hjk
            · exact HA.out j hjk
            · obtain rfl : j = k := by omega
              rw [hx, hy]
              have e : x = y := by simpa using hxy.symm
              rw [e])
          clear hx hy hxy
          go_wp2
          go_quiet (fail)
          go_wp2
          go_roundw
          case rel => exact ⟨k + 1, by go_num, hlt, ⟨_, rfl⟩, HO.out⟩
          case measure => simp [intOf]; omega
        | false =>
          have HO : Hid (false = b) := Lib.hid (by
            rw [← HB.out]
            simp only [Bool.false_eq, decide_eq_false_iff_not]
            rintro rfl
            rw [hx] at hy
            cases hy
            simp at hxy)
          clear hx hy hxy
          go_wp2
          go_quiet (fail)
          go_wp2
          go_ret
          exact ⟨ret_bool HO.out, ⟨_, World.drewN_drewN _ _ _⟩⟩
      · have hkI : ¬ (k : Int) < (n : Int) := by omega
        have HO : Hid (true = b) := Lib.hid (by
          rw [← HB.out]
          simp only [Bool.true_eq, decide_eq_true_eq]
          apply List.ext_getElem?
          intro j
          rcases Nat.lt_or_ge j k with hj | hj
          · exact HA.out j hj
          · rw [List.getElem?_eq_none (by have := HN.out; omega), List.getElem?_eq_none (by have := HN'.out; omega)])
        go_wp2
        go_ret
        exact ⟨ret_bool HO.out, ⟨_, rfl⟩⟩
  · have hne : ((n : Int) != (n' : Int)) = true := by simp; omega
    have HO : Hid (false = b) := Lib.hid (by
      rw [← HB.out]
      simp only [Bool.false_eq, decide_eq_false_iff_not]
      rintro rfl
      exact he (HN.out.trans HN'.out.symm))
    go_enter Try.func21, Try.ntmps21
    go_wp2
    go_ret
    exact ⟨ret_bool HO.out, ⟨0, rfl⟩⟩

theorem ret_intM {k : IntKind} {a b : Int} (h : a = b) : Ending.returned (.int k a) = .returned (.int k b) := by rw [h]
/-- Where a text stands. -/
def idxI (x : ByteArray) : List ByteArray → Int → Int
  | [], _ => -1
  | y :: r, k => if x = y then k else idxI x r (k + 1)
theorem idx_drop {x : ByteArray} : ∀ (X : List ByteArray) (k : Nat), (∀ j, j < k → X[j]? ≠ some x) → idxI x X 0 = idxI x (X.drop k) k
  | X, 0, _ => by simp
  | X, k + 1, h => by
    rw [idx_drop X k fun j hj => h j (by omega)]
    rcases Nat.lt_or_ge k X.length with hk | hk
    · rw [List.drop_eq_getElem_cons hk]
      show (if x = X[k] then (k : Int) else idxI x (X.drop (k + 1)) (k + 1)) = _
      rw [if_neg fun e => h k (by omega) (by rw [List.getElem?_eq_getElem hk, e])]
      rfl
    · rw [List.drop_eq_nil_of_le hk, List.drop_eq_nil_of_le (by omega)]
      rfl
theorem idx_at {x : ByteArray} {X : List ByteArray} {k : Nat} (h : ∀ j, j < k → X[j]? ≠ some x) (hk : X[k]? = some x) : (k : Int) = idxI x X 0 := by
  have hl := (List.getElem?_eq_some_iff.1 hk).1
  rw [idx_drop X k h, List.drop_eq_getElem_cons hl]
  show _ = if x = X[k] then (k : Int) else _
  rw [List.getElem?_eq_getElem hl] at hk
  rw [if_pos (Option.some.inj hk).symm]
theorem idx_none {x : ByteArray} {X : List ByteArray} (h : ∀ j, j < X.length → X[j]? ≠ some x) : (-1 : Int) = idxI x X 0 := by
  rw [idx_drop X X.length h, List.drop_length]
  rfl

set_option maxRecDepth 100000 in
set_option maxHeartbeats 3200000 in
theorem sIndex_any {X : List ByteArray} {v : Value} {w : World} (h : StrsV X v w) (x : ByteArray) : Calls Try.prog 44 #[v, .string x] w (fun e w' => e = .returned (.int .i64 (idxI x X 0)) ∧ w = w') := by
  obtain ⟨a, n, cap, rfl⟩ := h.form
  obtain ⟨hn, hc1, hc2⟩ := h.len
  unfold maxLen at hc2
  obtain ⟨Z, hZ⟩ : ∃ Z, idxI x X 0 = Z := ⟨_, rfl⟩
  have HZ := Lib.hid hZ
  rw [hZ]
  clear hZ
  have HX := Lib.hid h
  have HN := Lib.hid hn
  clear h hn
  go_enter Try.func44, Try.ntmps44
  go_wp2
  go_loop [8] (fun i => ∃ k : Nat, i = .int .i64 (k : Int) ∧ k ≤ n ∧ ∀ j, j < k → X[j]? ≠ some x) (fun i => n - (intOf i).toNat)
  case atStart => exact ⟨0, rfl, Nat.zero_le _, fun j hj => by omega⟩
  case round =>
    obtain ⟨k, rfl, hk, hall⟩ := hrel
    have HA := Lib.hid hall
    clear hall
    by_cases hlt : k < n
    · obtain ⟨y, hy⟩ : ∃ y, X[k]? = some y := ⟨_, List.getElem?_eq_getElem (by rw [← HN.out]; exact hlt)⟩
      obtain ⟨g, o, rfl, -, c1⟩ := HX.out.get hy
      have hkI : (k : Int) < (n : Int) := by omega
      have hk0 : (0 : Int) ≤ (k : Int) := by omega
      obtain ⟨bb, hbb⟩ : ∃ b, (x.toList == y.toList) = b := ⟨_, rfl⟩
      have hxy : bb = decide (x = y) := by rw [← hbb, ← str_is]
      cases bb with
      | false =>
        have HO : Hid (∀ j, j < k + 1 → X[j]? ≠ some x) := Lib.hid (fun j hj => by
          rcases Nat.lt_or_ge j k with hjk | hjk
          · exact HA.out j hjk
          · obtain rfl : j = k := by omega
            rw [hy]
            intro e
            cases e
            simp at hxy)
        clear hy hxy
        go_wp2
        go_round
        case rel => exact ⟨k + 1, by go_num, hlt, HO.out⟩
        case measure => simp [intOf]; omega
      | true =>
        have HO : Hid ((k : Int) = Z) := Lib.hid ((idx_at HA.out (by
          rw [hy]
          have : x = y := by simpa using hxy.symm
          rw [this])).trans HZ.out)
        clear hy hxy
        go_wp2
        go_ret
        exact ⟨ret_intM HO.out, rfl⟩
    · have hkI : ¬ (k : Int) < (n : Int) := by omega
      have HO : Hid ((-1 : Int) = Z) := Lib.hid ((idx_none (fun j hj => HA.out j (by have := HN.out; omega))).trans HZ.out)
      go_wp2
      go_ret
      exact ⟨ret_intM HO.out, rfl⟩

set_option maxRecDepth 100000 in
set_option maxHeartbeats 3200000 in
theorem mParam_any {m : Xm} {pv bv : Value} {w : World} (h : StrsV m.ps pv w) (hb : ∃ a n c, bv = .slice a n c) (x : ByteArray) : Calls Try.prog 25 #[.agg #[.string m.n, .bool m.fn, .bool m.va, pv, bv, .string m.g, .int .i64 m.f, .int .i64 m.t], .string x] w (IntNew (idxI x m.ps 0) w) := by
  obtain ⟨a, n, cap, rfl⟩ := h.form
  obtain ⟨ba, bn, bc, rfl⟩ := hb
  have HC : Hid (∀ X : World, Below w.heap.size w X → Calls Try.prog 44 #[.slice a n cap, .string x] X (fun e w' => e = .returned (.int .i64 (idxI x m.ps 0)) ∧ X = w')) := Lib.hid (fun X hX => sIndex_any (h.over hX) x)
  clear h
  go_enter Try.func25, Try.ntmps25
  go_wp2_with (go_at_call 44; (with_reducible refine (HC.out _ ((Below.refl _ _).alloc (Nat.le_refl _) _)).mono ?_); rintro e w1 ⟨rfl, rfl⟩)
  go_ret
  exact ⟨rfl, (Below.refl _ _).alloc (Nat.le_refl _) _⟩

/-- A macro's box. -/
def BoxM (m : Xm) (pv bv : Value) (g : Nat) (w : World) : Prop :=
  w.cell? ⟨g, 0, none⟩ = some (.string m.n) ∧ w.cell? ⟨g, 1, none⟩ = some (.bool m.fn) ∧ w.cell? ⟨g, 2, none⟩ = some (.bool m.va) ∧ w.cell? ⟨g, 3, none⟩ = some pv ∧ w.cell? ⟨g, 4, none⟩ = some bv ∧ w.cell? ⟨g, 5, none⟩ = some (.string m.g) ∧ w.cell? ⟨g, 6, none⟩ = some (.int .i64 m.f) ∧ w.cell? ⟨g, 7, none⟩ = some (.int .i64 m.t)
theorem BoxM.next {m : Xm} {pv bv : Value} {g : Nat} {w w' : World} (h : BoxM m pv bv g w) (b : Below w.heap.size w w') (hg : g < w.heap.size) : BoxM m pv bv g w' := by
  obtain ⟨c0, c1, c2, c3, c4, c5, c6, c7⟩ := h
  exact ⟨bcell b c0 hg, bcell b c1 hg, bcell b c2 hg, bcell b c3 hg, bcell b c4 hg, bcell b c5 hg, bcell b c6 hg, bcell b c7 hg⟩
theorem boxM_new (m : Xm) (pv bv : Value) (T : TypeId) (w : World) : BoxM m pv bv w.heap.size (w.alloc (.cells #[.string m.n, .bool m.fn, .bool m.va, pv, bv, .string m.g, .int .i64 m.f, .int .i64 m.t] T)) := by
  have hh : ∀ j u, (#[.string m.n, .bool m.fn, .bool m.va, pv, bv, .string m.g, .int .i64 m.f, .int .i64 m.t] : Array Value)[j]? = some u → (w.alloc (.cells #[.string m.n, .bool m.fn, .bool m.va, pv, bv, .string m.g, .int .i64 m.f, .int .i64 m.t] T)).cell? ⟨w.heap.size, j, none⟩ = some u := fun j u h => by
    rw [Lib.cell_of_heap (heap_alloc_new w _)]
    exact h
  exact ⟨hh 0 _ rfl, hh 1 _ rfl, hh 2 _ rfl, hh 3 _ rfl, hh 4 _ rfl, hh 5 _ rfl, hh 6 _ rfl, hh 7 _ rfl⟩

theorem same_ways (b1 b2 b3 b4 : Bool) : b1 = false ∨ (b1 = true ∧ b2 = false) ∨ (b1 = true ∧ b2 = true ∧ b3 = false) ∨ (b1 = true ∧ b2 = true ∧ b3 = true ∧ b4 = false) ∨ (b1 = true ∧ b2 = true ∧ b3 = true ∧ b4 = true) := by
  cases b1 <;> cases b2 <;> cases b3 <;> cases b4 <;> simp

set_option maxRecDepth 100000 in
set_option maxHeartbeats 6400000 in
theorem mSame_any {x y : Xm} {pv bv qv cv : Value} {w : World} (h : MacAt x pv bv w) (h' : MacAt y qv cv w) : Calls Try.prog 23 #[macV x pv bv, macV y qv cv] w (BoolNew (sameM x y) w) := by
  obtain ⟨a1, n1, c1, rfl⟩ := h.1.form
  obtain ⟨a2, n2, c2, rfl⟩ := h.2.form
  obtain ⟨a3, n3, c3, rfl⟩ := h'.1.form
  obtain ⟨a4, n4, c4, rfl⟩ := h'.2.form
  unfold macV
  obtain ⟨b1, h1⟩ : ∃ b, (x.n.toList == y.n.toList) = b := ⟨_, rfl⟩
  obtain ⟨b2, h2⟩ : ∃ b, (x.fn == y.fn) = b := ⟨_, rfl⟩
  obtain ⟨b3, h3⟩ : ∃ b, (x.va == y.va) = b := ⟨_, rfl⟩
  obtain ⟨b4, h4⟩ : ∃ b, decide (x.ps = y.ps) = b := ⟨_, rfl⟩
  obtain ⟨b5, h5⟩ : ∃ b, alikeL x.bd y.bd = b := ⟨_, rfl⟩
  have HE : Hid (sameM x y = (b1 && b2 && b3 && b4 && b5)) := Lib.hid (by
    unfold sameM
    rw [← h1, ← h2, ← h3, ← h4, ← h5, str_is])
  have HT : Hid (∀ X : World, Below w.heap.size w X → Calls Try.prog 41 #[.slice a1 n1 c1, .slice a3 n3 c3] X (fun e w' => e = .returned (.bool b4) ∧ ∃ n, w' = X.drewN n)) := Lib.hid (fun X hX => h4 ▸ sEqual_any (h.1.over hX) (h'.1.over hX))
  have HF : Hid (∀ X : World, Below w.heap.size w X → Calls Try.prog 42 #[.slice a2 n2 c2, .slice a4 n4 c4, .func (.func 43) #[] #[]] X (BoolNew b5 X)) := Lib.hid (fun X hX => h5 ▸ eqf_any (h.2.over hX) (h'.2.over hX))
  have H0 : Hid (Below w.heap.size w ((w.alloc (.cells #[.string x.n, .bool x.fn, .bool x.va, .slice a1 n1 c1, .slice a2 n2 c2, .string x.g, .int .i64 x.f, .int .i64 x.t] 38)).alloc (.cells #[.string y.n, .bool y.fn, .bool y.va, .slice a3 n3 c3, .slice a4 n4 c4, .string y.g, .int .i64 y.f, .int .i64 y.t] 38))) := Lib.hid (((Below.refl _ _).alloc (Nat.le_refl _) _).alloc (by simp) _)
  have HW := Lib.hid (same_ways b1 b2 b3 b4)
  rw [HE.out]
  clear h h' HE h4 h5
  rcases HW.out with rfl | ⟨rfl, rfl⟩ | ⟨rfl, rfl, rfl⟩ | ⟨rfl, rfl, rfl, rfl⟩ | ⟨rfl, rfl, rfl, rfl⟩
  all_goals
    clear HW
    go_enter Try.func23, Try.ntmps23
    go_wp2_with (first
      | (go_at_call 41; (with_reducible refine (HT.out _ H0.out).mono ?_); rintro e w1 ⟨rfl, q1, rfl⟩)
      | (go_at_call 42; (with_reducible refine (HF.out _ (H0.out.trans ((Below.of_drews _ _).mono H0.out.size))).mono ?_); rintro e w2 ⟨rfl, hb2⟩; have HB2 : Hid (Below w.heap.size w w2) := Lib.hid (below_up (H0.out.trans ((Below.of_drews _ _).mono H0.out.size)) hb2); clear hb2))
    go_ret
    first
      | exact bool_new (by simp) H0.out
      | exact bool_new (by simp) (H0.out.trans ((Below.of_drews _ _).mono H0.out.size))
      | exact bool_new (by simp) HB2.out

end Go.Proofs.Ytmghocfkekggaaa
