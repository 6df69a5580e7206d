/-
  Texts of the proof, put together: DkProj, DkTC, DkRest, DkFew.
-/
import Derived.Test.YtlnlpahmfpjjdaaDoorG20
import Derived.Test.YtlnlpahmfpjjdaaDoorG15
import Derived.Test.YtlnlpahmfpjjdaaDoorG12

/-
  A line's kind and a kind's word: the project's, and the document's word.
-/
namespace Go.Proofs.YtlnlpahmfpjjdaaDoor
open Go.RowKit

set_option maxRecDepth 100000 in
set_option maxHeartbeats 3200000 in
theorem kind_any {T : List Xt} {v : Value} {w : World} (h : ToksX T v w) (hW : WordsAt 0 w) (h0 : 0 < w.heap.size) : Calls Tryd.prog 12 #[v] w (IntNew (kindL T : Nat) w) := by
  obtain ⟨a, n, cap, rfl⟩ := h.form
  obtain ⟨hn, hc1, hc2⟩ := h.len
  unfold maxLen at hc2
  have HW := Lib.hid hW
  clear hW
  cases T with
  | nil =>
    obtain rfl : n = 0 := hn
    clear h
    go_enter Tryd.func12, Tryd.ntmps12
    go_wp2
    go_ret
    exact int_new rfl (Below.refl _ _)
  | cons t r =>
    obtain ⟨g, o, sa, sn, sc, rfl, hg, -, ⟨c0, c1, c2, c3, c4, c5, c6, c7⟩, -⟩ := h.get (k := 0) (t := t) rfl
    rw [Nat.zero_mul, Nat.add_zero] at c0 c1 c2 c3 c4 c5 c6 c7
    have hn1 : 0 < n := by rw [hn]; simp
    have HN := Lib.hid hn
    have HX := Lib.hid h
    clear h hn
    by_cases hh : hashX t = true
    · have HS : Hid (∀ X : World, Calls Tryd.prog 36 #[.agg #[.int .i64 t.k, .string t.x, .bool t.sp, .string t.g, .int .i64 t.f, .int .i64 t.t, .bool t.d, .slice sa sn sc]] X (BoolNew true X)) := Lib.hid (fun X => hh ▸ hash_any t sa sn sc X)
      cases r with
      | nil =>
        have hk := kind_one hh
        obtain rfl : n = 1 := HN.out
        rw [hk]
        clear hh hk HN
        go_enter Tryd.func12, Tryd.ntmps12
        go_wp2_with (go_at_call 36; (with_reducible refine (HS.out _).mono ?_); rintro e w1 ⟨rfl, hb1⟩; have HB1 := Lib.hid hb1; clear hb1)
        go_ret
        exact int_new rfl HB1.out
      | cons s r =>
        obtain ⟨g', o', sa', sn', sc', he, -, -, ⟨d0, d1, -, -, -, -, -, -⟩, -⟩ := HX.out.get (k := 1) (t := s) rfl
        obtain ⟨rfl, rfl⟩ : g = g' ∧ o = o' := by simpa using he
        rw [Nat.one_mul] at d0 d1
        have hk := kind_two (s := s) (r := r) hh
        have hn2 : 1 < n := by rw [HN.out]; simp
        have hne : ((n : Int) == 1) = false := by simp; omega
        rw [hk]
        clear hh hk he
        have HD0 : Hid (w.cell? ⟨g, o + 8, none⟩ = some (.int .i64 s.k) ∧ w.cell? ⟨g, o + 8 + 1, none⟩ = some (.string s.x)) := Lib.hid ⟨d0, d1⟩
        clear d0 d1
        by_cases h1 : s.k = 1
        · have hd1 : (s.k != 1) = false := by simpa using h1
          rw [if_pos h1]
          obtain ⟨K, hK⟩ : ∃ K, wKind s.x = K := ⟨_, rfl⟩
          have HO : Hid (∀ X : World, WordsAt 0 X → Calls Tryd.prog 37 #[.string s.x] X (IntNew K X)) := Lib.hid (fun X hX => hK ▸ kindOf_any s.x hX)
          rw [hK]
          clear hK h1
          go_enter Tryd.func12, Tryd.ntmps12
          go_wp2_with (first
            | (go_at_call 36; (with_reducible refine (HS.out _).mono ?_); rintro e w1 ⟨rfl, hb1⟩; have HB1 := Lib.hid hb1; have HW1 := Lib.hid (HW.out.next hb1 h0); have d0 := bcell hb1 HD0.out.1 hg; have d1 := bcell hb1 HD0.out.2 hg; clear hb1)
            | (go_at_call 37; (with_reducible refine (HO.out _ HW1.out).mono ?_); rintro e w2 ⟨rfl, hb2⟩; have HB2 := Lib.hid hb2; clear hb2))
          go_ret
          exact int_new rfl (HB1.out.trans (HB2.out.mono HB1.out.size))
        · have hd1 : (s.k != 1) = true := by simpa using h1
          rw [if_neg h1]
          clear h1
          go_enter Tryd.func12, Tryd.ntmps12
          go_wp2_with (go_at_call 36; (with_reducible refine (HS.out _).mono ?_); rintro e w1 ⟨rfl, hb1⟩; have HB1 := Lib.hid hb1; have d0 := bcell hb1 HD0.out.1 hg; have d1 := bcell hb1 HD0.out.2 hg; clear hb1)
          go_ret
          exact int_new rfl HB1.out
    · have hh' : hashX t = false := by simpa using hh
      have HS : Hid (∀ X : World, Calls Tryd.prog 36 #[.agg #[.int .i64 t.k, .string t.x, .bool t.sp, .string t.g, .int .i64 t.f, .int .i64 t.t, .bool t.d, .slice sa sn sc]] X (BoolNew false X)) := Lib.hid (fun X => hh' ▸ hash_any t sa sn sc X)
      rw [kind_no hh']
      clear hh hh' HN
      go_enter Tryd.func12, Tryd.ntmps12
      go_wp2_with (go_at_call 36; (with_reducible refine (HS.out _).mono ?_); rintro e w1 ⟨rfl, hb1⟩; have HB1 := Lib.hid hb1; clear hb1)
      go_ret
      exact int_new rfl HB1.out

/-- A kind's word. -/
def wordZ (k : Int) : ByteArray := if 0 ≤ k ∧ k < 14 then wB k.toNat else ⟨#[]⟩
def StrNew (s : ByteArray) (w : World) (e : Ending) (w' : World) : Prop := e = .returned (.string s) ∧ Below w.heap.size w w'
def StrIs (s : ByteArray) (w : World) (e : Ending) (w' : World) : Prop := e = .returned (.string s) ∧ w = w'
theorem str_is_mk {a b : ByteArray} {w : World} (h : a = b) : StrIs b w (.returned (.string a)) w := ⟨by rw [h], rfl⟩
theorem str_new {a b : ByteArray} {w w' : World} (h : a = b) (hb : Below w.heap.size w w') : StrNew b w (.returned (.string a)) w' := ⟨by rw [h], hb⟩

set_option maxRecDepth 100000 in
set_option maxHeartbeats 1600000 in
theorem word_is (k : Int) {w : World} (hW : WordsAt 0 w) : Calls Tryd.prog 17 #[.int .i64 k] w (StrIs (wordZ k) w) := by
  obtain ⟨b, hb⟩ : ∃ b, wordZ k = b := ⟨_, rfl⟩
  have HB := Lib.hid hb
  rw [hb]
  clear hb
  by_cases h : 0 ≤ k ∧ k < 14
  · obtain ⟨n, rfl⟩ := Int.eq_ofNat_of_zero_le h.1
    have hn : n < 14 := by omega
    have hc := hW n hn
    have HF : Hid (wB n = b) := Lib.hid (by rw [← HB.out]; unfold wordZ; rw [if_pos h]; rfl)
    clear hW h
    go_enter Tryd.func17, Tryd.ntmps17
    go_wp2
    go_ret
    exact str_is_mk HF.out
  · have HF : Hid ((⟨#[]⟩ : ByteArray) = b) := Lib.hid (by rw [← HB.out]; unfold wordZ; rw [if_neg h])
    clear hW
    by_cases h1 : k < 0
    · clear h
      go_enter Tryd.func17, Tryd.ntmps17
      go_wp2
      go_ret
      exact str_is_mk HF.out
    · have h2 : 14 ≤ k := by omega
      have h3 : 0 ≤ k := by omega
      clear h
      go_enter Tryd.func17, Tryd.ntmps17
      go_wp2
      go_ret
      exact str_is_mk HF.out

theorem word_any (k : Int) {w : World} (hW : WordsAt 0 w) : Calls Tryd.prog 17 #[.int .i64 k] w (StrNew (wordZ k) w) :=
  (word_is k hW).mono fun _ _ ⟨h1, h2⟩ => ⟨h1, h2 ▸ Below.refl _ _⟩

set_option maxRecDepth 100000 in
set_option maxHeartbeats 1600000 in
theorem rWord_any (k : Int) (w : World) : Calls Tryd.prog 18 #[.int .i64 k] w (StrNew (wordZ k) w) := by
  obtain ⟨b, hb⟩ : ∃ b, wordZ k = b := ⟨_, rfl⟩
  have HB := Lib.hid hb
  rw [hb]
  clear hb
  by_cases h : 0 ≤ k ∧ k < 14
  · obtain ⟨n, rfl⟩ := Int.eq_ofNat_of_zero_le h.1
    have hn : n < 14 := by omega
    have HF : Hid (wB n = b) := Lib.hid (by rw [← HB.out]; unfold wordZ; rw [if_pos h]; rfl)
    clear h
    go_enter Tryd.func18, Tryd.ntmps18
    go_wp2_with (go_at_call 39; (with_reducible refine (rwords_any _).mono ?_); rintro e w2 ⟨gw, rfl, hb2, hgw, hw2⟩; have HB2 := Lib.hid hb2; have hc := hw2 n hn; clear hb2 hw2)
    go_ret
    exact str_new HF.out HB2.out
  · have HF : Hid ((⟨#[]⟩ : ByteArray) = b) := Lib.hid (by rw [← HB.out]; unfold wordZ; rw [if_neg h])
    by_cases h1 : k < 0
    · clear h
      go_enter Tryd.func18, Tryd.ntmps18
      go_wp2_with (go_at_call 39; (with_reducible refine (rwords_any _).mono ?_); rintro e w2 ⟨gw, rfl, hb2, hgw, hw2⟩; have HB2 := Lib.hid hb2; clear hb2 hw2)
      go_ret
      exact str_new HF.out HB2.out
    · have h2 : 14 ≤ k := by omega
      have h3 : 0 ≤ k := by omega
      clear h
      go_enter Tryd.func18, Tryd.ntmps18
      go_wp2_with (go_at_call 39; (with_reducible refine (rwords_any _).mono ?_); rintro e w2 ⟨gw, rfl, hb2, hgw, hw2⟩; have HB2 := Lib.hid hb2; clear hb2 hw2)
      go_ret
      exact str_new HF.out HB2.out

end Go.Proofs.YtlnlpahmfpjjdaaDoor

/-
  tokens.Clone, walked.
-/
namespace Go.Proofs.YtlnlpahmfpjjdaaDoor
open Go.RowKit

/-- The clone, as a row that the call owns. -/
def ToksOwn (W : World) (T : List Xt) (end_ : Ending) (w' : World) : Prop := ∃ a n cap P, end_ = .returned (.slice a n cap) ∧ n = T.length ∧ ClT W T a n cap P w' ∧ ∀ p ∈ P, ∀ g, g < W.heap.size → OffG g p.2
/-- The sites of the first k are new. -/
def FreshS (W : World) (P : List (Xt × Value)) (k : Nat) : Prop := ∀ j p, j < k → P[j]? = some p → ∀ g, g < W.heap.size → OffG g p.2
theorem FreshS.put {W : World} {P : List (Xt × Value)} {k : Nat} {t : Xt} {nv : Value} (h : FreshS W P k) (hn : ∀ g, g < W.heap.size → OffG g nv) : FreshS W (P.set k (t, nv)) (k + 1) := by
  intro j p hj hp g hg
  by_cases e : j = k
  · subst e
    rw [List.getElem?_set_self' ] at hp
    cases hq : P[j]? with
    | none => rw [hq] at hp; cases hp
    | some q =>
      rw [hq] at hp
      simp only [Option.map_eq_map, Option.map_some, Option.some.injEq, Function.const_apply] at hp
      subst hp
      exact hn g hg
  · rw [List.getElem?_set_ne (fun x => e x.symm)] at hp
    exact h j p (by omega) hp g hg

set_option maxRecDepth 100000 in
set_option maxHeartbeats 3200000 in
theorem tclone_own {T : List Xt} {a : Option Addr} {n c : Nat} {w : World} (h : ToksX T (.slice a n c) w) (hT : T.length ≤ 500000) (hS : ∀ t ∈ T, t.ss.length ≤ 500000) :
    Calls Tryd.prog 41 #[.slice a n c] w (ToksOwn w T) := by
  have hn := h.len.1
  have HN := Lib.hid hn
  have HCL := Lib.hid (cloneToks_any h hT)
  have HS := Lib.hid hS
  have hn5 : n ≤ 500000 := by omega
  clear h hn hS hT
  go_enter Tryd.func41, Tryd.ntmps41
  go_wp2_with (go_at_call 60; (with_reducible refine (HCL.out).mono ?_); rintro e w3 ⟨a3, c3, P0, rfl, h3⟩; have H3 := Lib.hid h3; clear h3)
  clear HCL
  go_loopw [9] (fun s wr => ∃ (k : Nat) (P : List (Xt × Value)), s = .int .i64 (k : Int) ∧ k ≤ n ∧ ClT w T a3 n c3 P wr ∧ FreshS w P k) (fun s _ => n - (intOf s).toNat)
  case atStart => exact ⟨0, P0, rfl, Nat.zero_le _, H3.out, fun j p hj => by omega⟩
  case round =>
    obtain ⟨k, P, rfl, hk, hC, hFS⟩ := hrel
    have HFS := Lib.hid hFS
    clear hFS
    have HC := Lib.hid hC
    by_cases hlt : k < n
    · have hPl : P.length = n := by rw [HN.out, ← hC.map, List.length_map]
      obtain ⟨⟨t, sv⟩, hp⟩ : ∃ p, P[k]? = some p := ⟨_, List.getElem?_eq_getElem (by omega)⟩
      obtain ⟨sa, sn, sc, hv, -⟩ := (hC.sits _ (List.mem_of_getElem? hp)).form
      simp only at hv
      subst hv
      have hst := hC.sits _ (List.mem_of_getElem? hp)
      simp only at hst
      have htT : t ∈ T := by rw [← hC.map]; exact List.mem_map.2 ⟨_, List.mem_of_getElem? hp, rfl⟩
      obtain ⟨a4, c4, hv4, hc1, hc2, hcell⟩ := row_form hC.up.1
      simp only [Value.slice.injEq, true_and] at hv4
      obtain ⟨rfl, rfl⟩ := hv4
      have hg := fun j (hj : j < 8) => flat_get (f := xcell) (n := 8) (fun _ => rfl) P k _ hp j hj
      obtain ⟨rg, rfl, hrg, k0⟩ := hcell (k * 8 + 0) _ ((hg 0 (by omega)).trans rfl)
      have hkc : ∀ j u, j < 8 → (xcell (t, .slice sa sn sc))[j]? = some u → wr.cell? ⟨rg, k * 8 + j, none⟩ = some u := by
        intro j u hj hu
        obtain ⟨g', hg', -, e⟩ := hcell (k * 8 + j) u ((hg j hj).trans hu)
        simp only [Option.some.injEq, Addr.mk.injEq, and_true] at hg'
        rw [hg']
        exact e
      have e0 : wr.cell? ⟨rg, k * 8, none⟩ = some (.int .i64 t.k) := k0
      have e1 : wr.cell? ⟨rg, k * 8 + 1, none⟩ = some (.string t.x) := hkc 1 _ (by omega) rfl
      have e2 : wr.cell? ⟨rg, k * 8 + 2, none⟩ = some (.bool t.sp) := hkc 2 _ (by omega) rfl
      have e3 : wr.cell? ⟨rg, k * 8 + 3, none⟩ = some (.string t.g) := hkc 3 _ (by omega) rfl
      have e4 : wr.cell? ⟨rg, k * 8 + 4, none⟩ = some (.int .i64 t.f) := hkc 4 _ (by omega) rfl
      have e5 : wr.cell? ⟨rg, k * 8 + 5, none⟩ = some (.int .i64 t.t) := hkc 5 _ (by omega) rfl
      have e6 : wr.cell? ⟨rg, k * 8 + 6, none⟩ = some (.bool t.d) := hkc 6 _ (by omega) rfl
      have e7 : wr.cell? ⟨rg, k * 8 + 7, none⟩ = some (.slice sa sn sc) := hkc 7 _ (by omega) rfl
      have HE7 := Lib.hid e7
      have HFZ := Lib.hid (own_freeX hC.up.1)
      have hkI : (k : Int) < (n : Int) := by omega
      have hk0 : (0 : Int) ≤ (k : Int) := by omega
      have HP := Lib.hid hp
      have HRG := Lib.hid hrg
      have HSC : Hid (∀ X : World, Below wr.heap.size wr X → Calls Tryd.prog 61 #[.slice sa sn sc] X (SitsNew X t.ss)) := Lib.hid (fun X hX => cloneSits_any (hst.over hX) (HS.out t htT))
      unfold maxLen at hc2
      clear hC hPl hst htT hcell hg k0 hkc hp hrg
      go_wp2_with (go_at_call 61; (with_reducible refine (HSC.out _ ((Below.refl _ _).alloc (Nat.le_refl _) _)).mono ?_); rintro e w4 ⟨na, nn, nc, rfl, hs4, hb4, ho4⟩; have HB4 : Hid (Below wr.heap.size wr w4) := Lib.hid (below_up ((Below.refl wr.heap.size wr).alloc (Nat.le_refl _) _) hb4); have HS4 := Lib.hid hs4; have HO5 : Hid (∀ g, g < w.heap.size → OffG g (.slice na nn nc)) := Lib.hid (fun g hg => ho4 g (by have := HC.out.up.2.size; simp; omega)); have HO4 : Hid (OffG rg (.slice na nn nc)) := Lib.hid (ho4 rg (by have := HRG.out; simp; omega)); have q7 : w4.cell? ⟨rg, k * 8 + 7, none⟩ = some (.slice sa sn sc) := (bcell HB4.out HE7.out HRG.out); have z7 : w4.frozen? ⟨rg, k * 8 + 7, none⟩ = false := (HB4.out.frozen (p := ⟨rg, k * 8 + 7, none⟩) HRG.out).trans (HFZ.out _); clear hs4 hb4 ho4)
      have HNX := Lib.hid ((HC.out.over HB4.out).put HP.out HS4.out HO4.out)
      go_roundw
      case rel => exact ⟨k + 1, _, by go_num, hlt, HNX.out, HFS.out.put HO5.out⟩
      case measure => simp [intOf]; omega
    · have hkI : ¬ (k : Int) < (n : Int) := by omega
      go_wp2
      go_ret
      exact ⟨a3, n, c3, P, rfl, HN.out, hC, fun p hp => by
        obtain ⟨j, hj, rfl⟩ := List.getElem_of_mem hp
        have hPl : P.length = n := by rw [HN.out, ← hC.map, List.length_map]
        exact HFS.out j _ (by omega) (List.getElem?_eq_getElem hj)⟩

theorem tclone_any {T : List Xt} {a : Option Addr} {n c : Nat} {w : World} (h : ToksX T (.slice a n c) w) (hT : T.length ≤ 500000) (hS : ∀ t ∈ T, t.ss.length ≤ 500000) :
    Calls Tryd.prog 41 #[.slice a n c] w (ToksNew w T) :=
  (tclone_own h hT hS).mono fun _ _ ⟨a3, n3, c3, _, he, hn, hC, _⟩ => ⟨a3, n3, c3, he, hn, hC.toks, hC.up.2⟩

end Go.Proofs.YtlnlpahmfpjjdaaDoor

/-
  What stands behind a directive's word: the project's and the document's.
-/
namespace Go.Proofs.YtlnlpahmfpjjdaaDoor
open Go.RowKit

set_option maxRecDepth 100000 in
/-- l[2:] of tokens. -/
theorem slice2_run (g o n cap : Nat) (h2 : 2 ≤ n) (h3 : n ≤ cap) : ∃ o', (n = 2 ∨ o' = o + 16) ∧ ∀ w, (Instr.slice 22 (.slice (some ⟨g, o, none⟩) n cap) (some (.int .i64 2)) none none).run Tryd.prog w = .ok (.slice (some ⟨g, o', none⟩) (n - 2) (cap - 2)) w := by
  refine ⟨if cap = 2 then o else o + 16, ?_, fun w => ?_⟩
  · split
    · left; omega
    · right; rfl
  · have a1 : (2 : Int) ≤ (n : Int) := by omega
    have a2 : (2 : Int) ≤ (cap : Int) := by omega
    have a3 : (n : Int) ≤ (cap : Int) := by omega
    have a5 : Tryd.prog.cellsOf 36 = 8 := by kernel_rfl
    by_cases hc : cap = 2
    · obtain rfl : n = 2 := by omega
      subst hc
      simp [Instr.slice, run_underlying Tryd.underlying22, Instr.sliceBounds, run_sliceBound, Addr.add, *]
    · have hc' : (cap == 2) = false := by simpa using hc
      simp [Instr.slice, run_underlying Tryd.underlying22, Instr.sliceBounds, run_sliceBound, Addr.add, *]

theorem drop2_toks {T : List Xt} {g o o' n cap : Nat} {w : World} (h : ToksX T (.slice (some ⟨g, o, none⟩) n cap) w) (h2 : 2 ≤ n) (ho : n = 2 ∨ o' = o + 16) : ToksX (T.drop 2) (.slice (some ⟨g, o', none⟩) (n - 2) (cap - 2)) w := by
  obtain ⟨hn, hc1, hc2⟩ := h.len
  refine ⟨some ⟨g, o', none⟩, cap - 2, by rw [List.length_drop, ← hn], by rw [List.length_drop]; omega, by omega, fun k t ht => ?_⟩
  rw [List.getElem?_drop] at ht
  obtain ⟨g', o2, sa, sn, sc, ha, hg, -, hx, hs⟩ := h.get ht
  obtain ⟨rfl, rfl⟩ : g = g' ∧ o = o2 := by simpa using ha
  have hk := (List.getElem?_eq_some_iff.1 ht).1
  have e : o' = o + 16 := by
    rcases ho with h | h
    · omega
    · exact h
  refine ⟨g, o', rfl, hg, _, ?_, hs⟩
  rw [e, show o + 16 + k * 8 = o + (2 + k) * 8 from by omega]
  exact hx

theorem rest_low {T : List Xt} (h : kindL T < 2) : restL T = [] := by unfold restL; rw [if_pos h]
theorem rest_high {T : List Xt} (h : ¬ kindL T < 2) : restL T = T.drop 2 := by unfold restL; rw [if_neg h]

set_option maxRecDepth 100000 in
set_option maxHeartbeats 3200000 in
theorem rRest_any {T : List Xt} {v : Value} {w : World} (h : ToksX T v w) : Calls Tryd.prog 16 #[v] w (ToksNew w (restL T)) := by
  obtain ⟨a, n, cap, rfl⟩ := h.form
  have HX := Lib.hid h
  have HK := Lib.hid (rKind_any h)
  by_cases hk : kindL T < 2
  · have hki : ((kindL T : Nat) : Int) < 2 := by omega
    rw [rest_low hk]
    obtain ⟨K, hK⟩ : ∃ K, kindL T = K := ⟨_, rfl⟩
    rw [hK] at HK hki
    clear hk hK h
    go_enter Tryd.func16, Tryd.ntmps16
    go_wp2_with (go_at_call 13; (with_reducible refine HK.out.mono ?_); rintro e w1 ⟨rfl, hb1⟩; have HB1 := Lib.hid hb1; clear hb1)
    go_ret
    exact ⟨none, 0, 0, rfl, rfl, toksX_nil _, HB1.out⟩
  · have hl := kindL_len (T := T) (by omega)
    obtain ⟨hn, hc1, hc2⟩ := h.len
    obtain ⟨g, o, -, -, -, rfl, -⟩ := h.get (List.getElem?_eq_getElem (show 0 < T.length by omega))
    obtain ⟨o', ho, hrun⟩ := slice2_run g o n cap (by omega) hc1
    have HT := Lib.hid (drop2_toks h (by omega) ho)
    have hki : ¬ ((kindL T : Nat) : Int) < 2 := by omega
    have hk14 := kindL_le T
    rw [rest_high hk]
    obtain ⟨K, hK⟩ : ∃ K, kindL T = K := ⟨_, rfl⟩
    rw [hK] at HK hki
    have HN : Hid (n - 2 = (T.drop 2).length) := Lib.hid (by rw [List.length_drop, hn])
    clear hk hK h ho hk14 hn hl hc2
    go_enter Tryd.func16, Tryd.ntmps16
    go_wp2_with (go_at_call 13; (with_reducible refine HK.out.mono ?_); rintro e w1 ⟨rfl, hb1⟩; have HB1 := Lib.hid hb1; clear hb1)
    go_ret
    exact ⟨_, _, _, rfl, HN.out, HT.out.over HB1.out, HB1.out⟩

set_option maxRecDepth 100000 in
set_option maxHeartbeats 3200000 in
theorem rest_any {T : List Xt} {v : Value} {w : World} (h : ToksX T v w) (hW : WordsAt 0 w) (h0 : 0 < w.heap.size) (hT : T.length ≤ 500000) (hS : ∀ t ∈ T, t.ss.length ≤ 500000) : Calls Tryd.prog 15 #[v] w (ToksNew w (restL T)) := by
  obtain ⟨a, n, cap, rfl⟩ := h.form
  have HK := Lib.hid (kind_any h hW h0)
  by_cases hk : kindL T < 2
  · rw [rest_low hk]
    have hcs : kindL T = 0 ∨ kindL T = 1 := by omega
    clear h hW hk
    rcases hcs with e | e
    · rw [e] at HK
      clear e
      go_enter Tryd.func15, Tryd.ntmps15
      go_wp2_with (go_at_call 12; (with_reducible refine HK.out.mono ?_); rintro e w1 ⟨rfl, hb1⟩; have HB1 := Lib.hid hb1; clear hb1)
      go_ret
      exact ⟨none, 0, 0, rfl, rfl, toksX_nil _, HB1.out⟩
    · rw [e] at HK
      clear e
      go_enter Tryd.func15, Tryd.ntmps15
      go_wp2_with (go_at_call 12; (with_reducible refine HK.out.mono ?_); rintro e w1 ⟨rfl, hb1⟩; have HB1 := Lib.hid hb1; clear hb1)
      go_ret
      exact ⟨none, 0, 0, rfl, rfl, toksX_nil _, HB1.out⟩
  · have hl := kindL_len (T := T) (by omega)
    obtain ⟨hn, hc1, hc2⟩ := h.len
    obtain ⟨g, o, -, -, -, rfl, -⟩ := h.get (List.getElem?_eq_getElem (show 0 < T.length by omega))
    obtain ⟨o', ho, hrun⟩ := slice2_run g o n cap (by omega) hc1
    have ht := drop2_toks h (by omega) ho
    have HCL : Hid (∀ X : World, Below w.heap.size w X → Calls Tryd.prog 41 #[.slice (some ⟨g, o', none⟩) (n - 2) (cap - 2)] X (ToksNew X (T.drop 2))) := Lib.hid (fun X hX => tclone_any (ht.over hX) (by rw [List.length_drop]; omega) (fun t hm => hS t (List.mem_of_mem_drop hm)))
    have hk0 : ((kindL T : Nat) : Int) ≠ 0 := by omega
    have hk1 : ((kindL T : Nat) : Int) ≠ 1 := by omega
    rw [rest_high hk]
    obtain ⟨K, hK⟩ : ∃ K : Int, ((kindL T : Nat) : Int) = K := ⟨_, rfl⟩
    rw [hK] at HK hk0 hk1
    have hb0 : (K == 0) = false := by simpa using hk0
    have hb1 : (K == 1) = false := by simpa using hk1
    clear hk hK h hW ho ht hn hl hc2 hS hT hk0 hk1
    go_enter Tryd.func15, Tryd.ntmps15
    go_wp2_with (first
      | (go_at_call 12; (with_reducible refine HK.out.mono ?_); rintro e w1 ⟨rfl, hb1⟩; have HB1 := Lib.hid hb1; clear hb1)
      | (go_at_call 41; (with_reducible refine (HCL.out _ HB1.out).mono ?_); rintro e w2 ⟨ra, rn, rc, rfl, hrn, ht2, hb2⟩; have HT2 := Lib.hid ht2; have HB2 := Lib.hid hb2; have HRN := Lib.hid hrn; clear ht2 hb2 hrn))
    go_ret
    exact ⟨ra, rn, rc, rfl, HRN.out, HT2.out, below_up HB1.out HB2.out⟩

end Go.Proofs.YtlnlpahmfpjjdaaDoor

/-
  Are tokens few, and short.
-/
namespace Go.Proofs.YtlnlpahmfpjjdaaDoor
open Go.RowKit

def okX (t : Xt) : Bool := decide (t.x.size ≤ 300) && decide (t.ss.length ≤ 20)
def fewB (T : List Xt) (m : Nat) : Bool := decide (T.length ≤ m) && T.all okX
theorem few_is {T : List Xt} {m : Nat} (h : fewB T m = true) : T.length ≤ m ∧ ∀ t ∈ T, t.x.size ≤ 300 ∧ t.ss.length ≤ 20 := by
  unfold fewB at h
  simp only [Bool.and_eq_true, decide_eq_true_eq, List.all_eq_true] at h
  refine ⟨h.1, fun t ht => ?_⟩
  have := h.2 t ht
  unfold okX at this
  simpa using this
theorem few_not {T : List Xt} {m k : Nat} {t : Xt} (ht : T[k]? = some t) (h : okX t = false) : fewB T m = false := by
  unfold fewB
  rw [Bool.and_eq_false_iff]
  right
  rw [Bool.eq_false_iff]
  intro ha
  have := List.all_eq_true.1 ha t (List.mem_of_getElem? ht)
  rw [h] at this
  cases this
theorem few_yes {T : List Xt} {m : Nat} (hm : T.length ≤ m) (h : ∀ j t, j < T.length → T[j]? = some t → okX t = true) : fewB T m = true := by
  unfold fewB
  simp only [Bool.and_eq_true, decide_eq_true_eq, List.all_eq_true]
  refine ⟨hm, fun t ht => ?_⟩
  obtain ⟨j, hj, rfl⟩ := List.getElem_of_mem ht
  exact h j _ hj (List.getElem?_eq_getElem hj)

set_option maxRecDepth 100000 in
set_option maxHeartbeats 3200000 in
theorem few_any {T : List Xt} {v : Value} {w : World} (h : ToksX T v w) (m : Nat) (hm : m ≤ 1000000) : Calls Tryd.prog 10 #[v, .int .i64 (m : Int)] w (BoolPost (fewB T m) w) := by
  obtain ⟨a, n, cap, rfl⟩ := h.form
  obtain ⟨hn, hc1, hc2⟩ := h.len
  unfold maxLen at hc2
  obtain ⟨b, hb⟩ : ∃ b, fewB T m = b := ⟨_, rfl⟩
  have HF := Lib.hid hb
  rw [hb]
  clear hb
  have HN := Lib.hid hn
  have HX := Lib.hid h
  clear hn h
  by_cases hl : n ≤ m
  · go_enter Tryd.func10, Tryd.ntmps10
    go_wp2
    go_loop [5] (fun i => ∃ k : Nat, i = .int .i64 (k : Int) ∧ k ≤ n ∧ ∀ j t, j < k → T[j]? = some t → okX t = true) (fun i => n - (intOf i).toNat)
    case atStart => exact ⟨0, rfl, Nat.zero_le _, fun j t hj => by omega⟩
    case round =>
      obtain ⟨k, rfl, hk, hall⟩ := hrel
      have HA := Lib.hid hall
      clear hall
      by_cases hlt : k < n
      · obtain ⟨t, ht⟩ : ∃ t, T[k]? = some t := ⟨_, List.getElem?_eq_getElem (by rw [← HN.out]; exact hlt)⟩
        obtain ⟨g, o, sa, sn, sc, rfl, hg, hsn, ⟨-, c1, -, -, -, -, -, c7⟩, -⟩ := HX.out.get ht
        have HT := Lib.hid ht
        have HSN := Lib.hid hsn
        clear ht hsn
        by_cases h1 : t.x.size ≤ 300
        · by_cases h2 : sn ≤ 20
          · have HO : Hid (∀ j u, j < k + 1 → T[j]? = some u → okX u = true) := Lib.hid (fun j u hj hu => by
              rcases Nat.lt_or_ge j k with hjk | hjk
              · exact HA.out j u hjk hu
              · obtain rfl : j = k := by omega
                rw [HT.out] at hu
                cases hu
                unfold okX
                rw [HSN.out] at h2
                simp [h1, h2])
            go_wp2
            go_round
            case rel => exact ⟨k + 1, by go_num, hlt, HO.out⟩
            case measure => simp [intOf]; omega
          · have HO : Hid (false = b) := Lib.hid (by
              rw [← HF.out, few_not HT.out]
              unfold okX
              rw [HSN.out] at h2
              simp [h2])
            go_wp2
            go_ret
            exact ⟨ret_bool HO.out, rfl⟩
        · have HO : Hid (false = b) := Lib.hid (by
            rw [← HF.out, few_not HT.out]
            unfold okX
            simp [h1])
          go_wp2
          go_ret
          exact ⟨ret_bool HO.out, rfl⟩
      · have HO : Hid (true = b) := Lib.hid (by
          rw [← HF.out, few_yes (by rw [← HN.out]; exact hl) (fun j t hj ht => HA.out j t (by have := HN.out; omega) ht)])
        go_wp2
        go_ret
        exact ⟨ret_bool HO.out, rfl⟩
  · have HO : Hid (false = b) := Lib.hid (by
      rw [← HF.out]
      unfold fewB
      rw [HN.out] at hl
      simp [hl])
    go_enter Tryd.func10, Tryd.ntmps10
    go_wp2
    go_ret
    exact ⟨ret_bool HO.out, rfl⟩

end Go.Proofs.YtlnlpahmfpjjdaaDoor
