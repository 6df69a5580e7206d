/-
  Texts of the proof, put together: DkKind.
-/
import Derived.Test.YtkmlnccdldmmpaaDoorG20

/-
  A line's kind: the document's.
-/
namespace Go.Proofs.YtkmlnccdldmmpaaDoor
open Go.RowKit

def WordsAt (g : Nat) (w : World) : Prop := ∀ i, i < 14 → w.cell? ⟨g, i, none⟩ = some (.string (wB i))
def WordsPost (w : World) (e : Ending) (w' : World) : Prop := ∃ g, e = .returned (.slice (some ⟨g, 0, none⟩) 14 14) ∧ Below w.heap.size w w' ∧ g < w'.heap.size ∧ WordsAt g w'

theorem WordsAt.next {g : Nat} {w w' : World} (h : WordsAt g w) (b : Below w.heap.size w w') (hg : g < w.heap.size) : WordsAt g w' := fun i hi => bcell b (h i hi) hg

set_option maxRecDepth 100000 in
set_option maxHeartbeats 1600000 in
theorem rwords_any (w : World) : Calls Tryd.prog 39 #[] w (WordsPost w) := by
  go_enter Tryd.func39, Tryd.ntmps39
  go_wp2
  go_ret
  refine ⟨w.heap.size, rfl, (Below.refl _ _).alloc (Nat.le_refl _) _, by simp, fun i hi => ?_⟩
  rw [Lib.cell_of_heap (heap_alloc_new w _)]
  have : i = 0 ∨ i = 1 ∨ i = 2 ∨ i = 3 ∨ i = 4 ∨ i = 5 ∨ i = 6 ∨ i = 7 ∨ i = 8 ∨ i = 9 ∨ i = 10 ∨ i = 11 ∨ i = 12 ∨ i = 13 := by omega
  rcases this with rfl | rfl | rfl | rfl | rfl | rfl | rfl | rfl | rfl | rfl | rfl | rfl | rfl | rfl <;> rfl

/-- The first token, and the second one. -/
theorem ToksX.get {T : List Xt} {a : Option Addr} {n cap : Nat} {w : World} (h : ToksX T (.slice a n cap) w) {k : Nat} {t : Xt} (ht : T[k]? = some t) :
    ∃ g o sa sn sc, a = some ⟨g, o, none⟩ ∧ g < w.heap.size ∧ sn = t.ss.length ∧ TokX t (.slice sa sn sc) g (o + k * 8) w ∧ SitsA t.ss (.slice sa sn sc) w := by
  obtain ⟨a', cap', hv, -, -, h3⟩ := h
  obtain ⟨g, o, ha, hg, sv, hc, hs⟩ := h3 k t ht
  obtain ⟨sa, sn, sc, rfl, hn, -⟩ := hs.form
  simp only [Value.slice.injEq] at hv
  exact ⟨g, o, sa, sn, sc, by rw [hv.1]; exact ha, hg, hn, hc, hs⟩
theorem ToksX.len {T : List Xt} {a : Option Addr} {n cap : Nat} {w : World} (h : ToksX T (.slice a n cap) w) : n = T.length ∧ n ≤ cap ∧ cap ≤ maxLen := by
  obtain ⟨a', cap', hv, h1, h2, -⟩ := h
  simp only [Value.slice.injEq] at hv
  obtain ⟨-, e1, e2⟩ := hv
  exact ⟨e1, by omega, by omega⟩
theorem ToksX.form {T : List Xt} {v : Value} {w : World} (h : ToksX T v w) : ∃ a n cap, v = .slice a n cap := by
  obtain ⟨a, cap, hv, -⟩ := h
  exact ⟨a, _, cap, hv⟩

theorem kind_nil : kindL [] = 0 := rfl
theorem kind_no {t : Xt} {r : List Xt} (h : hashX t = false) : kindL (t :: r) = 0 := by
  show (if hashX t = true then _ else 0) = 0
  rw [h]
  rfl
theorem kind_one {t : Xt} (h : hashX t = true) : kindL [t] = 1 := by
  show (if hashX t = true then _ else 0) = 1
  rw [h]
  rfl
theorem kind_two {t s : Xt} {r : List Xt} (h : hashX t = true) : kindL (t :: s :: r) = if s.k = 1 then wKind s.x else 14 := by
  show (if hashX t = true then _ else 0) = _
  rw [h]
  rfl

set_option maxRecDepth 100000 in
set_option maxHeartbeats 3200000 in
theorem rKind_any {T : List Xt} {v : Value} {w : World} (h : ToksX T v w) : Calls Tryd.prog 13 #[v] w (IntNew (kindL T : Nat) w) := by
  obtain ⟨a, n, cap, rfl⟩ := h.form
  obtain ⟨hn, hc1, hc2⟩ := h.len
  unfold maxLen at hc2
  cases T with
  | nil =>
    obtain rfl : n = 0 := hn
    clear h
    go_enter Tryd.func13, Tryd.ntmps13
    go_wp2
    go_ret
    exact int_new rfl (Below.refl _ _)
  | cons t r =>
    obtain ⟨g, o, sa, sn, sc, rfl, hg, -, ⟨c0, c1, c2, c3, c4, c5, c6, c7⟩, -⟩ := h.get (k := 0) (t := t) rfl
    rw [Nat.zero_mul, Nat.add_zero] at c0 c1 c2 c3 c4 c5 c6 c7
    have hn1 : 0 < n := by rw [hn]; simp
    have HN := Lib.hid hn
    have HX := Lib.hid h
    clear h hn
    by_cases hh : hashX t = true
    · have HS : Hid (∀ X : World, Calls Tryd.prog 38 #[.agg #[.int .i64 t.k, .string t.x, .bool t.sp, .string t.g, .int .i64 t.f, .int .i64 t.t, .bool t.d, .slice sa sn sc]] X (BoolNew true X)) := Lib.hid (fun X => hh ▸ rHash_any t sa sn sc X)
      cases r with
      | nil =>
        have hk := kind_one hh
        obtain rfl : n = 1 := HN.out
        rw [hk]
        clear hh hk HN
        go_enter Tryd.func13, Tryd.ntmps13
        go_wp2_with (go_at_call 38; (with_reducible refine (HS.out _).mono ?_); rintro e w1 ⟨rfl, hb1⟩; have HB1 := Lib.hid hb1; clear hb1)
        go_ret
        exact int_new rfl HB1.out
      | cons s r =>
        obtain ⟨g', o', sa', sn', sc', he, -, -, ⟨d0, d1, -, -, -, -, -, -⟩, -⟩ := HX.out.get (k := 1) (t := s) rfl
        obtain ⟨rfl, rfl⟩ : g = g' ∧ o = o' := by simpa using he
        rw [Nat.one_mul] at d0 d1
        have hk := kind_two (s := s) (r := r) hh
        have hn2 : 1 < n := by rw [HN.out]; simp
        have hne : ((n : Int) == 1) = false := by simp; omega
        rw [hk]
        clear hh hk he
        have HD0 : Hid (w.cell? ⟨g, o + 8, none⟩ = some (.int .i64 s.k) ∧ w.cell? ⟨g, o + 8 + 1, none⟩ = some (.string s.x)) := Lib.hid ⟨d0, d1⟩
        obtain ⟨K, hK⟩ : ∃ K, (if s.k = 1 then wKind s.x else 14) = K := ⟨_, rfl⟩
        rw [hK]
        have HK := Lib.hid hK
        clear hK d0 d1
        go_enter Tryd.func13, Tryd.ntmps13
        go_wp2_with (first
          | (go_at_call 38; (with_reducible refine (HS.out _).mono ?_); rintro e w1 ⟨rfl, hb1⟩; have HB1 := Lib.hid hb1; clear hb1)
          | (go_at_call 39; (with_reducible refine (rwords_any _).mono ?_); rintro e w2 ⟨gw, rfl, hb2, hgw, hw2⟩; have HB2 := Lib.hid hb2; have HW2 := Lib.hid hw2; clear hb2 hw2))
        go_loopw [4] (fun i wr => ∃ k : Nat, i = .int .i64 (k : Int) ∧ 2 ≤ k ∧ k ≤ 14 ∧ (s.k = 1 → wFrom s.x (14 - k) k = K) ∧ Below w2.heap.size w2 wr) (fun i _ => 14 - (intOf i).toNat)
        case atStart => exact ⟨2, rfl, by omega, by omega, fun h1 => by rw [← HK.out, if_pos h1]; rfl, Below.refl _ _⟩
        case round =>
          obtain ⟨k, rfl, hk2, hk14, hwk, hb⟩ := hrel
          have HWK := Lib.hid hwk
          have HB := Lib.hid hb
          have HBA : Hid (Below w.heap.size w wr) := Lib.hid ((HB1.out.trans (HB2.out.mono HB1.out.size)).trans (hb.mono (by have := HB1.out.size; have := HB2.out.size; omega)))
          clear hwk hb
          by_cases hlt : k < 14
          · have d0 := bcell HBA.out HD0.out.1 hg
            have d1 := bcell HBA.out HD0.out.2 hg
            have e0 := bcell HB.out (HW2.out k hlt) hgw
            by_cases h1 : s.k = 1
            · have hd1 : (s.k == 1) = true := by simpa using h1
              by_cases hx : s.x = wB k
              · have hx1 : (s.x.toList == (wB k).toList) = true := by rw [hx]; simp
                have HF : Hid ((k : Int) = (K : Int)) := Lib.hid (by rw [← HWK.out h1, wFrom_yes hx hlt])
                clear hx h1
                go_wp2
                go_quiet (fail)
                go_wp2
                go_ret
                exact int_new HF.out (HBA.out.trans ((Below.of_drews _ _).mono HBA.out.size))
              · have hx1 : (s.x.toList == (wB k).toList) = false := by rw [str_is]; simpa using hx
                have HF : Hid (s.k = 1 → wFrom s.x (14 - (k + 1)) (k + 1) = K) := Lib.hid (fun h => by rw [← wFrom_no hx hlt]; exact HWK.out h)
                clear hx h1
                go_wp2
                go_quiet (fail)
                go_wp2
                go_roundw
                case rel => exact ⟨k + 1, by go_num, by omega, by omega, HF.out, HB.out.trans ((Below.of_drews _ _).mono HB.out.size)⟩
                case measure => simp [intOf]; omega
            · have hd1 : (s.k == 1) = false := by simpa using h1
              have HF : Hid (s.k = 1 → wFrom s.x (14 - (k + 1)) (k + 1) = K) := Lib.hid (fun h => absurd h h1)
              clear h1
              go_wp2
              go_quiet (fail)
              go_wp2
              go_roundw
              case rel => exact ⟨k + 1, by go_num, by omega, by omega, HF.out, HB.out.trans ((Below.of_drews _ _).mono HB.out.size)⟩
              case measure => simp [intOf]; omega
          · have h14 : Hid ((14 : Int) = (K : Int)) := Lib.hid (by
              obtain rfl : k = 14 := by omega
              by_cases h1 : s.k = 1
              · rw [← HWK.out h1]; rfl
              · rw [← HK.out, if_neg h1]; rfl)
            go_wp2
            go_ret
            exact int_new h14.out HBA.out
    · have hh' : hashX t = false := by simpa using hh
      have HS : Hid (∀ X : World, Calls Tryd.prog 38 #[.agg #[.int .i64 t.k, .string t.x, .bool t.sp, .string t.g, .int .i64 t.f, .int .i64 t.t, .bool t.d, .slice sa sn sc]] X (BoolNew false X)) := Lib.hid (fun X => hh' ▸ rHash_any t sa sn sc X)
      rw [kind_no hh']
      clear hh hh' HN
      go_enter Tryd.func13, Tryd.ntmps13
      go_wp2_with (go_at_call 38; (with_reducible refine (HS.out _).mono ?_); rintro e w1 ⟨rfl, hb1⟩; have HB1 := Lib.hid hb1; clear hb1)
      go_ret
      exact int_new rfl HB1.out

end Go.Proofs.YtkmlnccdldmmpaaDoor
