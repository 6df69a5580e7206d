/-
  Texts of the proof, put together: DkProj, GcRd.
-/
import Derived.Test.YtkmlnccdldmmpaaDoorG23
import Derived.Test.YtkmlnccdldmmpaaDoorG22

/-
  A line's kind and a kind's word: the project's, and the document's word.
-/
namespace Go.Proofs.YtkmlnccdldmmpaaDoor
open Go.RowKit

set_option maxRecDepth 100000 in
set_option maxHeartbeats 3200000 in
theorem kind_any {T : List Xt} {v : Value} {w : World} (h : ToksX T v w) (hW : WordsAt 0 w) (h0 : 0 < w.heap.size) : Calls Tryd.prog 12 #[v] w (IntNew (kindL T : Nat) w) := by
  obtain ⟨a, n, cap, rfl⟩ := h.form
  obtain ⟨hn, hc1, hc2⟩ := h.len
  unfold maxLen at hc2
  have HW := Lib.hid hW
  clear hW
  cases T with
  | nil =>
    obtain rfl : n = 0 := hn
    clear h
    go_enter Tryd.func12, Tryd.ntmps12
    go_wp2
    go_ret
    exact int_new rfl (Below.refl _ _)
  | cons t r =>
    obtain ⟨g, o, sa, sn, sc, rfl, hg, -, ⟨c0, c1, c2, c3, c4, c5, c6, c7⟩, -⟩ := h.get (k := 0) (t := t) rfl
    rw [Nat.zero_mul, Nat.add_zero] at c0 c1 c2 c3 c4 c5 c6 c7
    have hn1 : 0 < n := by rw [hn]; simp
    have HN := Lib.hid hn
    have HX := Lib.hid h
    clear h hn
    by_cases hh : hashX t = true
    · have HS : Hid (∀ X : World, Calls Tryd.prog 36 #[.agg #[.int .i64 t.k, .string t.x, .bool t.sp, .string t.g, .int .i64 t.f, .int .i64 t.t, .bool t.d, .slice sa sn sc]] X (BoolNew true X)) := Lib.hid (fun X => hh ▸ hash_any t sa sn sc X)
      cases r with
      | nil =>
        have hk := kind_one hh
        obtain rfl : n = 1 := HN.out
        rw [hk]
        clear hh hk HN
        go_enter Tryd.func12, Tryd.ntmps12
        go_wp2_with (go_at_call 36; (with_reducible refine (HS.out _).mono ?_); rintro e w1 ⟨rfl, hb1⟩; have HB1 := Lib.hid hb1; clear hb1)
        go_ret
        exact int_new rfl HB1.out
      | cons s r =>
        obtain ⟨g', o', sa', sn', sc', he, -, -, ⟨d0, d1, -, -, -, -, -, -⟩, -⟩ := HX.out.get (k := 1) (t := s) rfl
        obtain ⟨rfl, rfl⟩ : g = g' ∧ o = o' := by simpa using he
        rw [Nat.one_mul] at d0 d1
        have hk := kind_two (s := s) (r := r) hh
        have hn2 : 1 < n := by rw [HN.out]; simp
        have hne : ((n : Int) == 1) = false := by simp; omega
        rw [hk]
        clear hh hk he
        have HD0 : Hid (w.cell? ⟨g, o + 8, none⟩ = some (.int .i64 s.k) ∧ w.cell? ⟨g, o + 8 + 1, none⟩ = some (.string s.x)) := Lib.hid ⟨d0, d1⟩
        clear d0 d1
        by_cases h1 : s.k = 1
        · have hd1 : (s.k != 1) = false := by simpa using h1
          rw [if_pos h1]
          obtain ⟨K, hK⟩ : ∃ K, wKind s.x = K := ⟨_, rfl⟩
          have HO : Hid (∀ X : World, WordsAt 0 X → Calls Tryd.prog 37 #[.string s.x] X (IntNew K X)) := Lib.hid (fun X hX => hK ▸ kindOf_any s.x hX)
          rw [hK]
          clear hK h1
          go_enter Tryd.func12, Tryd.ntmps12
          go_wp2_with (first
            | (go_at_call 36; (with_reducible refine (HS.out _).mono ?_); rintro e w1 ⟨rfl, hb1⟩; have HB1 := Lib.hid hb1; have HW1 := Lib.hid (HW.out.next hb1 h0); have d0 := bcell hb1 HD0.out.1 hg; have d1 := bcell hb1 HD0.out.2 hg; clear hb1)
            | (go_at_call 37; (with_reducible refine (HO.out _ HW1.out).mono ?_); rintro e w2 ⟨rfl, hb2⟩; have HB2 := Lib.hid hb2; clear hb2))
          go_ret
          exact int_new rfl (HB1.out.trans (HB2.out.mono HB1.out.size))
        · have hd1 : (s.k != 1) = true := by simpa using h1
          rw [if_neg h1]
          clear h1
          go_enter Tryd.func12, Tryd.ntmps12
          go_wp2_with (go_at_call 36; (with_reducible refine (HS.out _).mono ?_); rintro e w1 ⟨rfl, hb1⟩; have HB1 := Lib.hid hb1; have d0 := bcell hb1 HD0.out.1 hg; have d1 := bcell hb1 HD0.out.2 hg; clear hb1)
          go_ret
          exact int_new rfl HB1.out
    · have hh' : hashX t = false := by simpa using hh
      have HS : Hid (∀ X : World, Calls Tryd.prog 36 #[.agg #[.int .i64 t.k, .string t.x, .bool t.sp, .string t.g, .int .i64 t.f, .int .i64 t.t, .bool t.d, .slice sa sn sc]] X (BoolNew false X)) := Lib.hid (fun X => hh' ▸ hash_any t sa sn sc X)
      rw [kind_no hh']
      clear hh hh' HN
      go_enter Tryd.func12, Tryd.ntmps12
      go_wp2_with (go_at_call 36; (with_reducible refine (HS.out _).mono ?_); rintro e w1 ⟨rfl, hb1⟩; have HB1 := Lib.hid hb1; clear hb1)
      go_ret
      exact int_new rfl HB1.out

/-- A kind's word. -/
def wordZ (k : Int) : ByteArray := if 0 ≤ k ∧ k < 14 then wB k.toNat else ⟨#[]⟩
def StrNew (s : ByteArray) (w : World) (e : Ending) (w' : World) : Prop := e = .returned (.string s) ∧ Below w.heap.size w w'
def StrIs (s : ByteArray) (w : World) (e : Ending) (w' : World) : Prop := e = .returned (.string s) ∧ w = w'
theorem str_is_mk {a b : ByteArray} {w : World} (h : a = b) : StrIs b w (.returned (.string a)) w := ⟨by rw [h], rfl⟩
theorem str_new {a b : ByteArray} {w w' : World} (h : a = b) (hb : Below w.heap.size w w') : StrNew b w (.returned (.string a)) w' := ⟨by rw [h], hb⟩

set_option maxRecDepth 100000 in
set_option maxHeartbeats 1600000 in
theorem word_is (k : Int) {w : World} (hW : WordsAt 0 w) : Calls Tryd.prog 17 #[.int .i64 k] w (StrIs (wordZ k) w) := by
  obtain ⟨b, hb⟩ : ∃ b, wordZ k = b := ⟨_, rfl⟩
  have HB := Lib.hid hb
  rw [hb]
  clear hb
  by_cases h : 0 ≤ k ∧ k < 14
  · obtain ⟨n, rfl⟩ := Int.eq_ofNat_of_zero_le h.1
    have hn : n < 14 := by omega
    have hc := hW n hn
    have HF : Hid (wB n = b) := Lib.hid (by rw [← HB.out]; unfold wordZ; rw [if_pos h]; rfl)
    clear hW h
    go_enter Tryd.func17, Tryd.ntmps17
    go_wp2
    go_ret
    exact str_is_mk HF.out
  · have HF : Hid ((⟨#[]⟩ : ByteArray) = b) := Lib.hid (by rw [← HB.out]; unfold wordZ; rw [if_neg h])
    clear hW
    by_cases h1 : k < 0
    · clear h
      go_enter Tryd.func17, Tryd.ntmps17
      go_wp2
      go_ret
      exact str_is_mk HF.out
    · have h2 : 14 ≤ k := by omega
      have h3 : 0 ≤ k := by omega
      clear h
      go_enter Tryd.func17, Tryd.ntmps17
      go_wp2
      go_ret
      exact str_is_mk HF.out

theorem word_any (k : Int) {w : World} (hW : WordsAt 0 w) : Calls Tryd.prog 17 #[.int .i64 k] w (StrNew (wordZ k) w) :=
  (word_is k hW).mono fun _ _ ⟨h1, h2⟩ => ⟨h1, h2 ▸ Below.refl _ _⟩

set_option maxRecDepth 100000 in
set_option maxHeartbeats 1600000 in
theorem rWord_any (k : Int) (w : World) : Calls Tryd.prog 18 #[.int .i64 k] w (StrNew (wordZ k) w) := by
  obtain ⟨b, hb⟩ : ∃ b, wordZ k = b := ⟨_, rfl⟩
  have HB := Lib.hid hb
  rw [hb]
  clear hb
  by_cases h : 0 ≤ k ∧ k < 14
  · obtain ⟨n, rfl⟩ := Int.eq_ofNat_of_zero_le h.1
    have hn : n < 14 := by omega
    have HF : Hid (wB n = b) := Lib.hid (by rw [← HB.out]; unfold wordZ; rw [if_pos h]; rfl)
    clear h
    go_enter Tryd.func18, Tryd.ntmps18
    go_wp2_with (go_at_call 39; (with_reducible refine (rwords_any _).mono ?_); rintro e w2 ⟨gw, rfl, hb2, hgw, hw2⟩; have HB2 := Lib.hid hb2; have hc := hw2 n hn; clear hb2 hw2)
    go_ret
    exact str_new HF.out HB2.out
  · have HF : Hid ((⟨#[]⟩ : ByteArray) = b) := Lib.hid (by rw [← HB.out]; unfold wordZ; rw [if_neg h])
    by_cases h1 : k < 0
    · clear h
      go_enter Tryd.func18, Tryd.ntmps18
      go_wp2_with (go_at_call 39; (with_reducible refine (rwords_any _).mono ?_); rintro e w2 ⟨gw, rfl, hb2, hgw, hw2⟩; have HB2 := Lib.hid hb2; clear hb2 hw2)
      go_ret
      exact str_new HF.out HB2.out
    · have h2 : 14 ≤ k := by omega
      have h3 : 0 ≤ k := by omega
      clear h
      go_enter Tryd.func18, Tryd.ntmps18
      go_wp2_with (go_at_call 39; (with_reducible refine (rwords_any _).mono ?_); rintro e w2 ⟨gw, rfl, hb2, hgw, hw2⟩; have HB2 := Lib.hid hb2; clear hb2 hw2)
      go_ret
      exact str_new HF.out HB2.out

end Go.Proofs.YtkmlnccdldmmpaaDoor

/-
  The builder's methods that only read: inner, within, items.
-/
namespace Go.Proofs.YtkmlnccdldmmpaaDoor
open Go.RowKit

def PtrNew (a : Addr) (w : World) (e : Ending) (w' : World) : Prop := e = .returned (.pointer (some a)) ∧ Below w.heap.size w w'
def BoolIs (b : Bool) (w : World) (e : Ending) (w' : World) : Prop := e = .returned (.bool b) ∧ w = w'

set_option maxRecDepth 100000 in
set_option maxHeartbeats 1600000 in
theorem inner_any {bb oa m oc : Nat} {w : World} (h0 : w.cell? ⟨bb, 0, none⟩ = some (.slice (some ⟨oa, 0, none⟩) (m + 1) oc)) (hm : m + 1 ≤ oc) (hc : oc ≤ maxLen) :
    Calls Tryd.prog 74 #[.pointer (some ⟨bb, 0, none⟩)] w (PtrNew ⟨oa, m * 4, none⟩ w) := by
  unfold maxLen at hc
  go_enter Tryd.func74, Tryd.ntmps74
  go_wp2
  go_quiet (fail)
  go_wp2
  go_ret
  exact ⟨rfl, Below.of_drews _ _⟩

set_option maxRecDepth 100000 in
set_option maxHeartbeats 1600000 in
theorem within_any {bb n oc : Nat} {oa : Option Addr} {w : World} (h0 : w.cell? ⟨bb, 0, none⟩ = some (.slice oa n oc)) :
    Calls Tryd.prog 49 #[.pointer (some ⟨bb, 0, none⟩)] w (BoolIs (decide (1 < n)) w) := by
  by_cases h : 1 < n
  · rw [show decide (1 < n) = true from by simpa using h]
    have hd : decide ((1 : Int) < (n : Int)) = true := by simp; omega
    go_enter Tryd.func49, Tryd.ntmps49
    go_wp2
    go_ret
    exact ⟨rfl, rfl⟩
  · rw [show decide (1 < n) = false from by simpa using h]
    have hd : decide ((1 : Int) < (n : Int)) = false := by simp; omega
    go_enter Tryd.func49, Tryd.ntmps49
    go_wp2
    go_ret
    exact ⟨rfl, rfl⟩

set_option maxRecDepth 100000 in
set_option maxHeartbeats 1600000 in
theorem its_any {bb oa m oc ab k ac : Nat} {w : World} (h0 : w.cell? ⟨bb, 0, none⟩ = some (.slice (some ⟨oa, 0, none⟩) (m + 1) oc)) (hm : m + 1 ≤ oc) (hc : oc ≤ maxLen)
    (h1 : w.cell? ⟨oa, m * 4 + 2, none⟩ = some (.slice (some ⟨ab, 0, none⟩) (k + 1) ac)) (hk : k + 1 ≤ ac) (hc2 : ac ≤ maxLen) (ho : oa < w.heap.size) :
    Calls Tryd.prog 51 #[.pointer (some ⟨bb, 0, none⟩)] w (PtrNew ⟨ab, k * 2 + 1, none⟩ w) := by
  have HI := Lib.hid (inner_any h0 hm hc)
  have H1 := Lib.hid h1
  unfold maxLen at hc2
  clear h0 h1
  go_enter Tryd.func51, Tryd.ntmps51
  go_wp2_with (go_at_call 74; (with_reducible refine HI.out.mono ?_); rintro e w1 ⟨rfl, hb⟩; have HB := Lib.hid hb; have h2 := bcell hb H1.out ho; clear hb)
  go_ret
  exact ⟨rfl, HB.out⟩

end Go.Proofs.YtkmlnccdldmmpaaDoor
