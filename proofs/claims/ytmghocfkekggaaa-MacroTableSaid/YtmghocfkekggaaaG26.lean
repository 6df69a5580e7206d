/-
  Texts of the proof, put together: McSame.
-/
import Derived.Test.YtmghocfkekggaaaG25

/-
  When two macros are the same.
-/
namespace Go.Proofs.Ytmghocfkekggaaa
open Go.RowKit Go.Maps

def alikeX (t u : Xt) : Bool := decide (t.k = u.k) && decide (t.x = u.x) && (t.sp == u.sp)
def alikeL : List Xt → List Xt → Bool
  | [], [] => true
  | t :: r, u :: s => alikeX t u && alikeL r s
  | _, _ => false
def sameM (x y : Xm) : Bool := decide (x.n = y.n) && (x.fn == y.fn) && (x.va == y.va) && decide (x.ps = y.ps) && alikeL x.bd y.bd

theorem alikeL_len : ∀ {T U : List Xt}, T.length ≠ U.length → alikeL T U = false
  | [], [], h => absurd rfl h
  | [], _ :: _, _ => rfl
  | _ :: _, [], _ => rfl
  | t :: r, u :: s, h => by
    have := alikeL_len (T := r) (U := s) (by simpa using h)
    show (alikeX t u && alikeL r s) = false
    rw [this, Bool.and_false]
theorem alikeL_yes : ∀ {T U : List Xt}, T.length = U.length → (∀ (j : Nat) (t u : Xt), T[j]? = some t → U[j]? = some u → alikeX t u = true) → alikeL T U = true
  | [], [], _, _ => rfl
  | [], _ :: _, h, _ => by simp at h
  | _ :: _, [], h, _ => by simp at h
  | t :: r, u :: s, h, ha => by
    show (alikeX t u && alikeL r s) = true
    rw [ha 0 t u rfl rfl, alikeL_yes (by simpa using h) (fun j a b h1 h2 => ha (j + 1) a b (by simpa using h1) (by simpa using h2))]
    rfl
theorem alikeL_no : ∀ {T U : List Xt} {j : Nat} {t u : Xt}, T[j]? = some t → U[j]? = some u → alikeX t u = false → alikeL T U = false
  | [], _, _, _, _, h, _, _ => by simp at h
  | _ :: _, [], _, _, _, _, h, _ => by simp at h
  | a :: r, b :: s, 0, t, u, h1, h2, h3 => by
    simp only [List.getElem?_cons_zero, Option.some.injEq] at h1 h2
    subst h1 h2
    show (alikeX a b && alikeL r s) = false
    rw [h3, Bool.false_and]
  | a :: r, b :: s, j + 1, t, u, h1, h2, h3 => by
    show (alikeX a b && alikeL r s) = false
    rw [alikeL_no (T := r) (U := s) (j := j) (by simpa using h1) (by simpa using h2) h3, Bool.and_false]

set_option maxRecDepth 100000 in
set_option maxHeartbeats 3200000 in
theorem alike_any (t u : Xt) (sa ua : Option Addr) (sn sc un uc : Nat) (w : World) : Calls Try.prog 43 #[.agg #[.int .i64 t.k, .string t.x, .bool t.sp, .string t.g, .int .i64 t.f, .int .i64 t.t, .bool t.d, .slice sa sn sc], .agg #[.int .i64 u.k, .string u.x, .bool u.sp, .string u.g, .int .i64 u.f, .int .i64 u.t, .bool u.d, .slice ua un uc]] w (BoolNew (alikeX t u) w) := by
  obtain ⟨b1, h1⟩ : ∃ b, (t.k == u.k) = b := ⟨_, rfl⟩
  obtain ⟨b2, h2⟩ : ∃ b, (t.x.toList == u.x.toList) = b := ⟨_, rfl⟩
  obtain ⟨b3, h3⟩ : ∃ b, (t.sp == u.sp) = b := ⟨_, rfl⟩
  have HE : Hid (alikeX t u = (b1 && b2 && b3)) := Lib.hid (by
    unfold alikeX
    rw [← h1, ← h2, ← h3, str_is]
    congr 1)
  rw [HE.out]
  clear HE
  have HW : Hid ((b1 = false) ∨ (b1 = true ∧ b2 = false) ∨ (b1 = true ∧ b2 = true ∧ b3 = false) ∨ (b1 = true ∧ b2 = true ∧ b3 = true)) := Lib.hid (by cases b1 <;> cases b2 <;> cases b3 <;> simp)
  rcases HW.out with rfl | ⟨rfl, rfl⟩ | ⟨rfl, rfl, rfl⟩ | ⟨rfl, rfl, rfl⟩
  all_goals
    clear HW
    go_enter Try.func43, Try.ntmps43
    go_wp2
    go_ret
    exact bool_new (by simp) (((Below.refl _ _).alloc (Nat.le_refl _) _).alloc (by simp) _)

set_option maxRecDepth 100000 in
set_option maxHeartbeats 3200000 in
theorem eqf_any {T U : List Xt} {v u : Value} {w : World} (h : ToksX T v w) (h' : ToksX U u w) : Calls Try.prog 42 #[v, u, .func (.func 43) #[] #[]] w (BoolNew (alikeL T U) w) := by
  obtain ⟨a, n, cap, rfl⟩ := h.form
  obtain ⟨a', n', cap', rfl⟩ := h'.form
  obtain ⟨hn, hc1, hc2⟩ := h.len
  obtain ⟨hn', hc1', hc2'⟩ := h'.len
  unfold maxLen at hc2 hc2'
  obtain ⟨b, hb⟩ : ∃ b, alikeL T U = b := ⟨_, rfl⟩
  have HB := Lib.hid hb
  rw [hb]
  clear hb
  have HX := Lib.hid h
  have HX' := Lib.hid h'
  have HN := Lib.hid hn
  have HN' := Lib.hid hn'
  clear h h' hn hn'
  by_cases he : n = n'
  · subst he
    go_enter Try.func42, Try.ntmps42
    go_wp2
    go_loopw [17] (fun i wr => ∃ k : Nat, i = .int .i64 (k : Int) ∧ k ≤ n ∧ Below w.heap.size w wr ∧ ∀ j t u, j < k → T[j]? = some t → U[j]? = some u → alikeX t u = true) (fun i _ => n - (intOf i).toNat)
    case atStart => exact ⟨0, rfl, Nat.zero_le _, Below.refl _ _, fun j t u hj => by omega⟩
    case round =>
      obtain ⟨k, rfl, hk, hb, hall⟩ := hrel
      have HA := Lib.hid hall
      have HBW := Lib.hid hb
      clear hall
      by_cases hlt : k < n
      · obtain ⟨t, ht⟩ : ∃ t, T[k]? = some t := ⟨_, List.getElem?_eq_getElem (by rw [← HN.out]; exact hlt)⟩
        obtain ⟨u, hu⟩ : ∃ u, U[k]? = some u := ⟨_, List.getElem?_eq_getElem (by rw [← HN'.out]; exact hlt)⟩
        obtain ⟨g, o, sa, sn, sc, rfl, hg, -, hta, -⟩ := HX.out.get ht
        obtain ⟨g', o', ua, un, uc, rfl, hg', -, htb, -⟩ := HX'.out.get hu
        obtain ⟨e0, e1, e2, e3, e4, e5, e6, e7⟩ := hta.next hb hg
        obtain ⟨f0, f1, f2, f3, f4, f5, f6, f7⟩ := htb.next hb hg'
        have hkI : (k : Int) < (n : Int) := by omega
        have hk0 : (0 : Int) ≤ (k : Int) := by omega
        have hgs : g < wr.heap.size := Nat.lt_of_lt_of_le hg hb.size
        have hgs' : g' < wr.heap.size := Nat.lt_of_lt_of_le hg' hb.size
        have hg1 : g ≠ wr.heap.size := by omega
        have hg2 : g' ≠ wr.heap.size := by omega
        have hg3 : wr.heap.size ≠ g' := by omega
        obtain ⟨bb, hbb⟩ : ∃ b, alikeX t u = b := ⟨_, rfl⟩
        have HC : Hid (∀ X : World, Calls Try.prog 43 #[.agg #[.int .i64 t.k, .string t.x, .bool t.sp, .string t.g, .int .i64 t.f, .int .i64 t.t, .bool t.d, .slice sa sn sc], .agg #[.int .i64 u.k, .string u.x, .bool u.sp, .string u.g, .int .i64 u.f, .int .i64 u.t, .bool u.d, .slice ua un uc]] X (BoolNew bb X)) := Lib.hid (fun X => hbb ▸ alike_any t u sa ua sn sc un uc X)
        cases bb with
        | true =>
          have HO : Hid (∀ j x y, j < k + 1 → T[j]? = some x → U[j]? = some y → alikeX x y = true) := Lib.hid (fun j x y hj hx hy => by
            rcases Nat.lt_or_ge j k with hjk | hjk
            · exact HA.out j x y hjk hx hy
            · obtain rfl : j = k := by omega
              rw [ht] at hx
              rw [hu] at hy
              cases hx
              cases hy
              exact hbb)
          clear hb ht hu hta htb hbb
          go_wp2_with (go_at_call 43; (with_reducible refine (HC.out _).mono ?_); rintro e w1 ⟨rfl, hb1⟩; have HB1 := Lib.hid hb1; clear hb1)
          go_roundw
          case rel => exact ⟨k + 1, by go_num, hlt, HBW.out.trans ((((Below.refl _ _).alloc (Nat.le_refl _) _).alloc (by simp) _).mono HBW.out.size |>.trans (HB1.out.mono (by have := HBW.out.size; simp; omega))), HO.out⟩
          case measure => simp [intOf]; omega
        | false =>
          have HO : Hid (false = b) := Lib.hid (by rw [← HB.out, alikeL_no ht hu hbb])
          clear hb ht hu hta htb hbb
          go_wp2_with (go_at_call 43; (with_reducible refine (HC.out _).mono ?_); rintro e w1 ⟨rfl, hb1⟩; have HB1 := Lib.hid hb1; clear hb1)
          go_ret
          exact bool_new HO.out (HBW.out.trans ((((Below.refl _ _).alloc (Nat.le_refl _) _).alloc (by simp) _).mono HBW.out.size |>.trans (HB1.out.mono (by have := HBW.out.size; simp; omega))))
      · have hkI : ¬ (k : Int) < (n : Int) := by omega
        have HO : Hid (true = b) := Lib.hid (by
          rw [← HB.out, alikeL_yes (by rw [← HN.out, ← HN'.out]) (fun j t u h1 h2 => HA.out j t u (by have := (List.getElem?_eq_some_iff.1 h1).1; have := HN.out; omega) h1 h2)])
        go_wp2
        go_ret
        exact bool_new HO.out HBW.out
  · have hne : ((n : Int) != (n' : Int)) = true := by simp; omega
    have HO : Hid (false = b) := Lib.hid (by rw [← HB.out, alikeL_len (by rw [← HN.out, ← HN'.out]; exact he)])
    go_enter Try.func42, Try.ntmps42
    go_wp2
    go_ret
    exact bool_new HO.out (Below.refl _ _)

end Go.Proofs.Ytmghocfkekggaaa
