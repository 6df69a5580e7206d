/-
  Texts of the proof, put together: McWh, LMWhole.
-/
import Derived.Test.YtjbgikhhdhadjaaG44
import Derived.BigRegion
import Derived.Test.YtjbgikhhdhadjaaG34

/-
  What may be defined is defined as it stands.
-/
namespace Go.Proofs.Ytjbgikhhdhadjaa
open Go.RowKit Go.Maps

theorem rowL_facts : ∀ {ps ps' : List ByteArray} {T q : List Xt} {va : Bool}, rowL ps T = some (va, ps', q) → (∃ pre, T = pre ++ q ∧ 2 ≤ pre.length) ∧ ps' ≠ []
  | ps, ps', [], q, va, h => by cases h
  | ps, ps', [_], q, va, h => by cases h
  | ps, ps', t :: u :: r, q, va, h => by
    rw [show rowL ps (t :: u :: r) = (if isX t eB then (if isX u cB then some (true, ps ++ [vaB], r) else none)
      else if parB ps t then (if isX u cB then some (false, ps ++ [t.x], r) else if isX u kB then rowL (ps ++ [t.x]) r else none)
      else none) from rfl] at h
    split at h
    · split at h
      · simp only [Option.some.injEq, Prod.mk.injEq] at h
        obtain ⟨-, rfl, rfl⟩ := h
        exact ⟨⟨[t, u], rfl, by simp⟩, by simp⟩
      · cases h
    · split at h
      · split at h
        · simp only [Option.some.injEq, Prod.mk.injEq] at h
          obtain ⟨-, rfl, rfl⟩ := h
          exact ⟨⟨[t, u], rfl, by simp⟩, by simp⟩
        · split at h
          · obtain ⟨⟨pre, hp, hl⟩, h2⟩ := rowL_facts h
            exact ⟨⟨t :: u :: pre, by rw [hp]; rfl, by simp⟩, h2⟩
          · cases h
      · cases h
theorem headL_facts {T q : List Xt} {fn va : Bool} {ps : List ByteArray} (h : headL T = some (fn, va, ps, q)) :
    (fn = false ∧ va = false ∧ ps = [] ∧ q = T) ∨ (fn = true ∧ (va = true → ps ≠ []) ∧ ∃ pre, T = pre ++ q ∧ 2 ≤ pre.length) := by
  match T, h with
  | [], h =>
    simp only [headL, Option.some.injEq, Prod.mk.injEq] at h
    obtain ⟨rfl, rfl, rfl, rfl⟩ := h
    exact .inl ⟨rfl, rfl, rfl, rfl⟩
  | t :: r, h =>
    by_cases hc : t.sp = false ∧ isX t oB = true
    · rw [headL_open hc.1 hc.2] at h
      cases hk : takeL cB r with
      | some q' =>
        rw [hk] at h
        simp only [Option.some.injEq, Prod.mk.injEq] at h
        obtain ⟨rfl, rfl, rfl, rfl⟩ := h
        refine .inr ⟨rfl, fun e => (by cases e), ?_⟩
        match r, hk with
        | u :: s, hk =>
          have hk' : (if isX u cB = true then some s else none) = some q' := hk
          split at hk'
          · cases hk'
            exact ⟨[t, u], rfl, by simp⟩
          · cases hk'
      | none =>
        rw [hk] at h
        simp only [Option.map_eq_some_iff] at h
        obtain ⟨⟨va', ps', q'⟩, hr, he⟩ := h
        simp only [Prod.mk.injEq] at he
        obtain ⟨rfl, rfl, rfl, rfl⟩ := he
        obtain ⟨⟨pre, hp, hl⟩, h2⟩ := rowL_facts hr
        exact .inr ⟨rfl, fun _ => h2, t :: pre, by rw [hp]; rfl, by simp; omega⟩
    · rw [headL_shut (by cases h1 : t.sp with | true => exact .inl rfl | false => right; cases h2 : isX t oB with | true => exact absurd ⟨h1, h2⟩ hc | false => rfl)] at h
      simp only [Option.some.injEq, Prod.mk.injEq] at h
      obtain ⟨rfl, rfl, rfl, rfl⟩ := h
      exact .inl ⟨rfl, rfl, rfl, rfl⟩

/-- All that a definition tells of its tokens. -/
structure WhOk (t : Xt) (r : List Xt) (m : Xm) : Prop where
  isK : t.k = 1
  isN : m.n = t.x
  isG : m.g = t.g
  isF : m.f = t.f
  isT : m.t = t.t
  kind : (m.fn = false ∧ m.va = false ∧ m.ps.length = 0 ∧ m.bd.length = r.length) ∨ (m.fn = true ∧ (m.va = true → 0 < m.ps.length) ∧ m.bd.length + 2 ≤ r.length)
  body : ∀ k u, m.bd[k]? = some u → ∃ v, (t :: r)[r.length + 1 - m.bd.length + k]? = some v ∧ u.x = v.x ∧ u.k = v.k ∧ u.g = v.g ∧ u.f = v.f ∧ u.t = v.t ∧ (k = 0 → u.sp = false) ∧ (0 < k → u.sp = v.sp)

theorem bare_at {q : List Xt} {k : Nat} {u : Xt} (h : (bareL q)[k]? = some u) : ∃ v, q[k]? = some v ∧ u.x = v.x ∧ u.k = v.k ∧ u.g = v.g ∧ u.f = v.f ∧ u.t = v.t ∧ (k = 0 → u.sp = false) ∧ (0 < k → u.sp = v.sp) := by
  match q, k, h with
  | [], _, h => simp [bareL] at h
  | t :: r, 0, h =>
    simp only [bareL, List.getElem?_cons_zero, Option.some.injEq] at h
    subst h
    exact ⟨t, rfl, rfl, rfl, rfl, rfl, rfl, fun _ => rfl, fun h => by omega⟩
  | t :: r, k + 1, h =>
    simp only [bareL, List.getElem?_cons_succ] at h
    exact ⟨u, by simpa using h, rfl, rfl, rfl, rfl, rfl, fun h => by omega, fun _ => rfl⟩

theorem whole_ok {t : Xt} {r : List Xt} {m : Xm} (h : parseL (t :: r) = .inl m) : WhOk t r m := by
  by_cases hk : t.k = 1
  · cases hr : resB t.x with
    | true => rw [parse_res hk hr] at h; cases h
    | false =>
      rw [parse_go hk hr] at h
      cases hh : headL r with
      | none => rw [hh] at h; cases h
      | some x =>
        obtain ⟨fn, va, ps, q⟩ := x
        rw [hh] at h
        simp only at h
        split at h
        · split at h <;> cases h
        · simp only [Sum.inl.injEq] at h
          subst h
          have hf := headL_facts hh
          have hq : ∃ pre, r = pre ++ q := by
            rcases hf with ⟨-, -, -, rfl⟩ | ⟨-, -, pre, hp, -⟩
            · exact ⟨[], rfl⟩
            · exact ⟨pre, hp⟩
          refine ⟨hk, rfl, rfl, rfl, rfl, ?_, fun k u hu => ?_⟩
          · simp only [bare_len]
            rcases hf with ⟨h1, h2, h3, h4⟩ | ⟨h1, h2, pre, hp, hl⟩
            · exact .inl ⟨h1, h2, by rw [h3]; rfl, by rw [h4]⟩
            · exact .inr ⟨h1, fun h => List.length_pos_iff.2 (h2 h), by rw [hp, List.length_append]; omega⟩
          · simp only [bare_len] at hu ⊢
            obtain ⟨v, hv, hrest⟩ := bare_at hu
            refine ⟨v, ?_, hrest⟩
            obtain ⟨pre, rfl⟩ := hq
            rw [List.length_append, show pre.length + q.length + 1 - q.length + k = (pre.length + k) + 1 from by omega, List.getElem?_cons_succ, List.getElem?_append_right (by omega), Nat.add_sub_cancel_left]
            exact hv
  · rw [parse_kind hk] at h
    cases h
theorem whole_nil {m : Xm} : parseL [] ≠ .inl m := by
  intro h
  cases h
/-- What is refused is refused by one of two codes. -/
theorem whole_ill {T : List Xt} {i : Ill} (h : parseL T = .inr i) : i.c = 4 ∨ i.c = 5 := by
  match T, h with
  | [], h => cases h; exact .inl rfl
  | t :: r, h =>
    by_cases hk : t.k = 1
    · cases hr : resB t.x with
      | true => rw [parse_res hk hr] at h; cases h; exact .inr rfl
      | false =>
        rw [parse_go hk hr] at h
        split at h
        · cases h; exact .inr rfl
        · split at h
          · split at h <;> (cases h; exact .inr rfl)
          · cases h
    · rw [parse_kind hk] at h
      cases h
      exact .inl rfl

end Go.Proofs.Ytjbgikhhdhadjaa

/-
  What may be defined is defined as it stands: the law, walked.
-/
namespace Go.Proofs.Ytjbgikhhdhadjaa
open Go.RowKit Go.Maps

set_option maxRecDepth 100000 in
set_option maxHeartbeats 6400000 in
theorem whole_many {T : List Xt} {v : Value} {W : World} (h : ToksX T v W) (hf : fewB T 60 = false) : Calls Try.prog 5 #[v] W (TruePost W) := by
  obtain ⟨a, n, cap, rfl⟩ := h.form
  have HF : Hid (Calls Try.prog 24 #[.slice a n cap, .int .i64 60] W (BoolPost false W)) := Lib.hid (hf ▸ few_any h 60 (by omega))
  clear h hf
  go_enter Try.func5, Try.ntmps5
  go_wp2_with (first
    | (go_at_call 24; (with_reducible refine HF.out.mono ?_); rintro e w1 ⟨rfl, rfl⟩)
    | (go_at_call 8; (with_reducible refine (awake9_any _).mono ?_); rintro e w2 ⟨rfl, hb⟩; have HB := Lib.hid hb; clear hb))
  go_ret
  exact ⟨rfl, HB.out⟩

set_option maxRecDepth 100000 in
set_option maxHeartbeats 6400000 in
theorem whole_bad {T : List Xt} {v : Value} {W : World} {i : Ill} (h : ToksX T v W) (hf : fewB T 60 = true) (hp : parseL T = .inr i) : Calls Try.prog 5 #[v] W (TruePost W) := by
  obtain ⟨a, n, cap, rfl⟩ := h.form
  obtain ⟨f1, f2⟩ := few_is hf
  have HF : Hid (Calls Try.prog 24 #[.slice a n cap, .int .i64 60] W (BoolPost true W)) := Lib.hid (hf ▸ few_any h 60 (by omega))
  have HP : Hid (Calls Try.prog 19 #[.slice a n cap] W (RefusedAt W i)) := Lib.hid (by
    have := parse_any h (by omega) (fun u hu => by have := (f2 u hu).2; omega) (fun u hu => by have := (f2 u hu).1; unfold maxLen; omega)
    rw [hp] at this
    exact this)
  have HC := whole_ill hp
  obtain ⟨ic, hic⟩ : ∃ ic, i.c = ic := ⟨_, rfl⟩
  rw [hic] at HC
  have HIC := Lib.hid hic
  clear h hf hp f1 f2 hic
  rcases HC with rfl | rfl
  all_goals
    go_enter Try.func5, Try.ntmps5
    go_wp2_with (first
      | (go_at_call 24; (with_reducible refine HF.out.mono ?_); rintro e w1 ⟨rfl, rfl⟩)
      | (go_at_call 19; (with_reducible refine HP.out.mono ?_); rintro e w1 ⟨g, rfl, hb1, -, hgl, hc, -, -, -⟩; rw [HIC.out] at hc; have HB1 := Lib.hid hb1; (have hg1 : g ≠ w1.heap.size := by omega); (have hg2 : w1.heap.size ≠ g := by omega); clear hb1)
      | (go_at_call 8; (with_reducible refine (awake9_any _).mono ?_); rintro e w2 ⟨rfl, hb⟩; have HB : Hid (Below W.heap.size W w2) := Lib.hid (below_up (HB1.out.alloc HB1.out.size _) hb); clear hb))
    go_ret
    exact ⟨rfl, HB.out⟩

end Go.Proofs.Ytjbgikhhdhadjaa
