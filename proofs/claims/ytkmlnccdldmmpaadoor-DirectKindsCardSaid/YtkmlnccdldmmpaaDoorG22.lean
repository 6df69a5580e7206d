/-
  Texts of the proof, put together: DkSame.
-/
import Derived.Test.YtkmlnccdldmmpaaDoorG21
import Derived.StillTailTactics

/-
  The document's SameToken and SameTokens, of what is the same, any.
-/
namespace Go.Proofs.YtkmlnccdldmmpaaDoor
open Go.RowKit

/-- Two boxes of eight cells, one behind the other: their last cells. -/
theorem two_boxes (w : World) (c0 c1 c2 c3 c4 c5 c6 c7 e7 : Value) (T : TypeId) :
    Below w.heap.size w ((w.alloc (.cells #[c0, c1, c2, c3, c4, c5, c6, c7] T)).alloc (.cells #[c0, c1, c2, c3, c4, c5, c6, e7] T)) ∧
    ((w.alloc (.cells #[c0, c1, c2, c3, c4, c5, c6, c7] T)).alloc (.cells #[c0, c1, c2, c3, c4, c5, c6, e7] T)).cell? ⟨w.heap.size, 7, none⟩ = some c7 ∧
    ((w.alloc (.cells #[c0, c1, c2, c3, c4, c5, c6, c7] T)).alloc (.cells #[c0, c1, c2, c3, c4, c5, c6, e7] T)).cell? ⟨w.heap.size + 1, 7, none⟩ = some e7 ∧
    ((w.alloc (.cells #[c0, c1, c2, c3, c4, c5, c6, c7] T)).alloc (.cells #[c0, c1, c2, c3, c4, c5, c6, e7] T)).heap.size = w.heap.size + 2 := by
  refine ⟨((Below.refl _ _).alloc (Nat.le_refl _) _).alloc (by simp) _, ?_, ?_, by simp⟩
  · rw [Lib.cell_of_heap (heap_one w _ _)]
    rfl
  · have h := heap_alloc_new (w.alloc (.cells #[c0, c1, c2, c3, c4, c5, c6, c7] T)) (.cells #[c0, c1, c2, c3, c4, c5, c6, e7] T)
    rw [show (w.alloc (.cells #[c0, c1, c2, c3, c4, c5, c6, c7] T)).heap.size = w.heap.size + 1 from by simp] at h
    rw [Lib.cell_of_heap h]
    rfl

theorem SitsA.len {S : List Xs} {a : Option Addr} {n cap : Nat} {w : World} (h : SitsA S (.slice a n cap) w) : n = S.length ∧ n ≤ cap ∧ cap ≤ maxLen := by
  obtain ⟨a', cap', hv, h1, h2, -⟩ := h
  simp only [Value.slice.injEq] at hv
  obtain ⟨-, e1, e2⟩ := hv
  exact ⟨e1, by omega, by omega⟩
theorem SitsA.get {S : List Xs} {a : Option Addr} {n cap : Nat} {w : World} (h : SitsA S (.slice a n cap) w) {k : Nat} {s : Xs} (hs : S[k]? = some s) : ∃ g o, a = some ⟨g, o, none⟩ ∧ g < w.heap.size ∧ SitA s g (o + k * 5) w := by
  obtain ⟨a', cap', hv, -, -, h3⟩ := h
  simp only [Value.slice.injEq] at hv
  obtain ⟨g, o, ha, hg, hc⟩ := h3 k s hs
  exact ⟨g, o, by rw [hv.1]; exact ha, hg, hc⟩

set_option maxRecDepth 100000 in
set_option maxHeartbeats 3200000 in
theorem sameTok_any (t : Xt) {a a' : Option Addr} {n cap n' cap' : Nat} {w : World} (h : SitsA t.ss (.slice a n cap) w) (h' : SitsA t.ss (.slice a' n' cap') w) :
    Calls Tryd.prog 40 #[.agg #[.int .i64 t.k, .string t.x, .bool t.sp, .string t.g, .int .i64 t.f, .int .i64 t.t, .bool t.d, .slice a n cap], .agg #[.int .i64 t.k, .string t.x, .bool t.sp, .string t.g, .int .i64 t.f, .int .i64 t.t, .bool t.d, .slice a' n' cap']] w (TruePost w) := by
  obtain ⟨hn, hc1, hc2⟩ := h.len
  obtain ⟨hn', hc1', hc2'⟩ := h'.len
  obtain rfl : n = n' := hn.trans hn'.symm
  unfold maxLen at hc2 hc2'
  have HX := Lib.hid h
  have HX' := Lib.hid h'
  have HN := Lib.hid hn
  clear h h' hn hn'
  go_enter Tryd.func40, Tryd.ntmps40
  go_wp2
  obtain ⟨hB, k7, m7, hsz⟩ := two_boxes w (.int .i64 t.k) (.string t.x) (.bool t.sp) (.string t.g) (.int .i64 t.f) (.int .i64 t.t) (.bool t.d) (.slice a n cap) (.slice a' n cap') 36
  obtain ⟨o1, ho1⟩ : ∃ o : Obj, Obj.cells #[.int .i64 t.k, .string t.x, .bool t.sp, .string t.g, .int .i64 t.f, .int .i64 t.t, .bool t.d, .slice a n cap] 36 = o := ⟨_, rfl⟩
  obtain ⟨o2, ho2⟩ : ∃ o : Obj, Obj.cells #[.int .i64 t.k, .string t.x, .bool t.sp, .string t.g, .int .i64 t.f, .int .i64 t.t, .bool t.d, .slice a' n cap'] 36 = o := ⟨_, rfl⟩
  rw [ho1, ho2] at hB k7 m7 hsz ⊢
  obtain ⟨w2, hw2⟩ : ∃ w2, (w.alloc o1).alloc o2 = w2 := ⟨_, rfl⟩
  rw [hw2] at hB k7 m7 hsz ⊢
  have HB := Lib.hid hB
  have HK7 := Lib.hid k7
  have HM7 := Lib.hid m7
  have hz1 : w.heap.size < w2.heap.size := by omega
  have hz2 : w.heap.size + 1 < w2.heap.size := by omega
  clear hB hw2 ho1 ho2 k7 m7 hsz
  go_loopw [5] (fun i wr => ∃ k : Nat, i = .int .i64 (k : Int) ∧ k ≤ n ∧ Below w2.heap.size w2 wr) (fun i _ => n - (intOf i).toNat)
  case atStart => exact ⟨0, rfl, Nat.zero_le _, Below.refl _ _⟩
  case round =>
    obtain ⟨k, rfl, hk, hb⟩ := hrel
    have k7 := bcell hb HK7.out hz1
    have m7 := bcell hb HM7.out hz2
    have HBW : Hid (Below w.heap.size w wr) := Lib.hid (HB.out.trans (hb.mono HB.out.size))
    have HB2 := Lib.hid hb
    clear hb
    by_cases hlt : k < n
    · obtain ⟨s, hs⟩ : ∃ s, t.ss[k]? = some s := ⟨_, List.getElem?_eq_getElem (by rw [← HN.out]; exact hlt)⟩
      obtain ⟨g, o, rfl, hg, hsa⟩ := HX.out.get hs
      obtain ⟨g', o', rfl, hg', hsb⟩ := HX'.out.get hs
      obtain ⟨e0, e1, e2, e3, e4⟩ := hsa.next HBW.out hg
      obtain ⟨f0, f1, f2, f3, f4⟩ := hsb.next HBW.out hg'
      have hkI : (k : Int) < (n : Int) := by omega
      have hk0 : (0 : Int) ≤ (k : Int) := by omega
      clear hs hsa hsb
      go_wp2
      go_quiet (fail)
      go_wp2
      go_roundw
      case rel => exact ⟨k + 1, by go_num, hlt, HB2.out.trans ((Below.of_drews _ _).mono HB2.out.size)⟩
      case measure => simp [intOf]; omega
    · have hkI : ¬ (k : Int) < (n : Int) := by omega
      go_wp2
      go_ret
      exact ⟨rfl, HBW.out⟩

set_option maxRecDepth 100000 in
set_option maxHeartbeats 3200000 in
theorem sameToks_any {T : List Xt} {v v' : Value} {w : World} (h : ToksX T v w) (h' : ToksX T v' w) : Calls Tryd.prog 14 #[v, v'] w (TruePost w) := by
  obtain ⟨a, n, cap, rfl⟩ := h.form
  obtain ⟨a', n', cap', rfl⟩ := h'.form
  obtain ⟨hn, hc1, hc2⟩ := h.len
  obtain ⟨hn', hc1', hc2'⟩ := h'.len
  obtain rfl : n = n' := hn.trans hn'.symm
  unfold maxLen at hc2 hc2'
  have HX := Lib.hid h
  have HX' := Lib.hid h'
  have HN := Lib.hid hn
  clear h h' hn hn'
  go_enter Tryd.func14, Tryd.ntmps14
  go_wp2
  go_loopw [5] (fun i wr => ∃ k : Nat, i = .int .i64 (k : Int) ∧ k ≤ n ∧ Below w.heap.size w wr) (fun i _ => n - (intOf i).toNat)
  case atStart => exact ⟨0, rfl, Nat.zero_le _, Below.refl _ _⟩
  case round =>
    obtain ⟨k, rfl, hk, hb⟩ := hrel
    by_cases hlt : k < n
    · obtain ⟨t, ht⟩ : ∃ t, T[k]? = some t := ⟨_, List.getElem?_eq_getElem (by rw [← HN.out]; exact hlt)⟩
      obtain ⟨g, o, sa, sn, sc, rfl, hg, -, hta, hsa⟩ := HX.out.get ht
      obtain ⟨g', o', sa', sn', sc', rfl, hg', -, htb, hsb⟩ := HX'.out.get ht
      obtain ⟨e0, e1, e2, e3, e4, e5, e6, e7⟩ := hta.next hb hg
      obtain ⟨f0, f1, f2, f3, f4, f5, f6, f7⟩ := htb.next hb hg'
      have hkI : (k : Int) < (n : Int) := by omega
      have hk0 : (0 : Int) ≤ (k : Int) := by omega
      have HB := Lib.hid hb
      have HS : Hid (∀ X : World, Below w.heap.size w X → Calls Tryd.prog 40 #[.agg #[.int .i64 t.k, .string t.x, .bool t.sp, .string t.g, .int .i64 t.f, .int .i64 t.t, .bool t.d, .slice sa sn sc], .agg #[.int .i64 t.k, .string t.x, .bool t.sp, .string t.g, .int .i64 t.f, .int .i64 t.t, .bool t.d, .slice sa' sn' sc']] X (TruePost X)) := Lib.hid (fun X hX => sameTok_any t (hsa.over hX) (hsb.over hX))
      clear hb ht hta htb hsa hsb
      go_wp2
      go_still_tail 8, (by kernel_rfl)
      change wpList _ _ _ _ _ wr.drew
      have HB2 : Hid (Below w.heap.size w wr.drew) := Lib.hid HB.out.drew
      obtain ⟨w2, hw2⟩ : ∃ w2, wr.drew = w2 := ⟨_, rfl⟩
      rw [hw2] at HB2 ⊢
      clear hw2 e0 e1 e2 e3 e4 e5 e6 e7 f0 f1 f2 f3 f4 f5 f6 f7
      go_wp2_with (go_at_call 40; (with_reducible refine (HS.out _ HB2.out).mono ?_); rintro e w3 ⟨rfl, hb3⟩; have HB3 := Lib.hid hb3; clear hb3)
      go_roundw
      case rel => exact ⟨k + 1, by go_num, hlt, HB2.out.trans (HB3.out.mono HB2.out.size)⟩
      case measure => simp [intOf]; omega
    · have hkI : ¬ (k : Int) < (n : Int) := by omega
      go_wp2
      go_ret
      exact ⟨rfl, hb⟩

end Go.Proofs.YtkmlnccdldmmpaaDoor
