/-
  Texts of the proof, put together: GrMem, DkSame.
-/
import Derived.Test.YtlnlpahmfpjjdaaDoorG02
import Derived.Test.YtlnlpahmfpjjdaaDoorG12
import Derived.StillTailTactics

/-
  Items that lie somewhere: their arms too, and what is in them.
-/
namespace Go.Proofs.YtlnlpahmfpjjdaaDoor
open Go.RowKit

abbrev RelI := List Itm → Value → World → Prop
def ItmA (it : Itm) (av : Value) (g o : Nat) (w : World) : Prop := w.cell? ⟨g, o, none⟩ = some (.int .i64 it.k) ∧ w.cell? ⟨g, o + 1, none⟩ = some (.int .i64 it.line) ∧ w.cell? ⟨g, o + 2, none⟩ = some av
def ArmA (x : Int × List Itm) (iv : Value) (g o : Nat) (w : World) : Prop := w.cell? ⟨g, o, none⟩ = some (.int .i64 x.1) ∧ w.cell? ⟨g, o + 1, none⟩ = some iv
def ArmsOf (R : RelI) (qs : List (Int × List Itm)) (av : Value) (w : World) : Prop :=
  ∃ a cap, av = .slice a qs.length cap ∧ qs.length ≤ cap ∧ cap ≤ maxLen ∧ ∀ j x, qs[j]? = some x → ∃ g o, a = some ⟨g, o, none⟩ ∧ g < w.heap.size ∧ ∃ iv, ArmA x iv g (o + j * 2) w ∧ R x.2 iv w
def ItsOf (R : RelI) (l : List Itm) (v : Value) (w : World) : Prop :=
  ∃ a cap, v = .slice a l.length cap ∧ l.length ≤ cap ∧ cap ≤ maxLen ∧ ∀ k it, l[k]? = some it → ∃ g o, a = some ⟨g, o, none⟩ ∧ g < w.heap.size ∧ ∃ av, ItmA it av g (o + k * 3) w ∧ ArmsOf R it.arms av w
/-- Items, so deep. -/
def ItsAt : Nat → RelI
  | 0 => ItsOf fun _ _ _ => False
  | d + 1 => ItsOf (ItsAt d)

def Over (R : RelI) : Prop := ∀ l v (w w' : World), R l v w → Below w.heap.size w w' → R l v w'
theorem ArmsOf.over {R : RelI} (hR : Over R) {qs : List (Int × List Itm)} {av : Value} {w w' : World} (h : ArmsOf R qs av w) (b : Below w.heap.size w w') : ArmsOf R qs av w' := by
  obtain ⟨a, cap, hv, h1, h2, h3⟩ := h
  refine ⟨a, cap, hv, h1, h2, fun j x hx => ?_⟩
  obtain ⟨g, o, ha, hg, iv, ⟨c0, c1⟩, hr⟩ := h3 j x hx
  exact ⟨g, o, ha, Nat.lt_of_lt_of_le hg b.size, iv, ⟨bcell b c0 hg, bcell b c1 hg⟩, hR _ _ _ _ hr b⟩
theorem ItsOf.over {R : RelI} (hR : Over R) : Over (ItsOf R) := by
  intro l v w w' h b
  obtain ⟨a, cap, hv, h1, h2, h3⟩ := h
  refine ⟨a, cap, hv, h1, h2, fun k it hit => ?_⟩
  obtain ⟨g, o, ha, hg, av, ⟨c0, c1, c2⟩, hr⟩ := h3 k it hit
  exact ⟨g, o, ha, Nat.lt_of_lt_of_le hg b.size, av, ⟨bcell b c0 hg, bcell b c1 hg, bcell b c2 hg⟩, hr.over hR b⟩
theorem itsAt_over : ∀ d, Over (ItsAt d)
  | 0 => ItsOf.over fun _ _ _ _ h _ => h.elim
  | d + 1 => ItsOf.over (itsAt_over d)

theorem ItsOf.form {R : RelI} {l : List Itm} {v : Value} {w : World} (h : ItsOf R l v w) : ∃ a n cap, v = .slice a n cap ∧ n = l.length ∧ n ≤ cap ∧ cap ≤ maxLen := by
  obtain ⟨a, cap, hv, h1, h2, -⟩ := h
  exact ⟨a, _, cap, hv, rfl, h1, h2⟩
theorem ArmsOf.form {R : RelI} {qs : List (Int × List Itm)} {v : Value} {w : World} (h : ArmsOf R qs v w) : ∃ a n cap, v = .slice a n cap ∧ n = qs.length ∧ n ≤ cap ∧ cap ≤ maxLen := by
  obtain ⟨a, cap, hv, h1, h2, -⟩ := h
  exact ⟨a, _, cap, hv, rfl, h1, h2⟩
def Formed (R : RelI) : Prop := ∀ l v w, R l v w → ∃ a n cap, v = .slice a n cap ∧ n = l.length ∧ n ≤ cap ∧ cap ≤ maxLen
theorem itsAt_form : ∀ d, Formed (ItsAt d)
  | 0 => fun _ _ _ h => h.form
  | _ + 1 => fun _ _ _ h => h.form

theorem ItsOf.get {R : RelI} {l : List Itm} {a : Option Addr} {n cap : Nat} {w : World} (h : ItsOf R l (.slice a n cap) w) {k : Nat} {it : Itm} (hk : l[k]? = some it) :
    ∃ g o aa an ac, a = some ⟨g, o, none⟩ ∧ g < w.heap.size ∧ an = it.arms.length ∧ an ≤ ac ∧ ac ≤ maxLen ∧ ItmA it (.slice aa an ac) g (o + k * 3) w ∧ ArmsOf R it.arms (.slice aa an ac) w := by
  obtain ⟨a', cap', hv, -, -, h3⟩ := h
  simp only [Value.slice.injEq] at hv
  obtain ⟨g, o, ha, hg, av, hc, hr⟩ := h3 k it hk
  obtain ⟨aa, an, ac, rfl, h4, h5, h6⟩ := hr.form
  exact ⟨g, o, aa, an, ac, by rw [hv.1]; exact ha, hg, h4, h5, h6, hc, hr⟩
theorem ArmsOf.get {R : RelI} (hF : Formed R) {qs : List (Int × List Itm)} {a : Option Addr} {n cap : Nat} {w : World} (h : ArmsOf R qs (.slice a n cap) w) {j : Nat} {x : Int × List Itm} (hj : qs[j]? = some x) :
    ∃ g o ia im ic, a = some ⟨g, o, none⟩ ∧ g < w.heap.size ∧ ArmA x (.slice ia im ic) g (o + j * 2) w ∧ R x.2 (.slice ia im ic) w := by
  obtain ⟨a', cap', hv, -, -, h3⟩ := h
  simp only [Value.slice.injEq] at hv
  obtain ⟨g, o, ha, hg, iv, hc, hr⟩ := h3 j x hj
  obtain ⟨ia, im, ic, rfl, -⟩ := hF _ _ _ hr
  exact ⟨g, o, ia, im, ic, by rw [hv.1]; exact ha, hg, hc, hr⟩
theorem its_nil (R : RelI) (w : World) : ItsOf R [] (.slice none 0 0) w := ⟨none, 0, rfl, Nat.le_refl _, Nat.zero_le _, fun k s h => by simp at h⟩
theorem arms_nil (R : RelI) (w : World) : ArmsOf R [] (.slice none 0 0) w := ⟨none, 0, rfl, Nat.le_refl _, Nat.zero_le _, fun k s h => by simp at h⟩

theorem ItsOf.mono {R S : RelI} (hRS : ∀ l v w, R l v w → S l v w) {l : List Itm} {v : Value} {w : World} (h : ItsOf R l v w) : ItsOf S l v w := by
  obtain ⟨a, cap, hv, h1, h2, h3⟩ := h
  refine ⟨a, cap, hv, h1, h2, fun k it hit => ?_⟩
  obtain ⟨g, o, ha, hg, av, hc, a', cap', hv', h1', h2', h3'⟩ := h3 k it hit
  refine ⟨g, o, ha, hg, av, hc, a', cap', hv', h1', h2', fun j x hx => ?_⟩
  obtain ⟨g', o', ha', hg', iv, hc', hr⟩ := h3' j x hx
  exact ⟨g', o', ha', hg', iv, hc', hRS _ _ _ hr⟩
theorem its_more : ∀ (d : Nat) l v w, ItsAt d l v w → ItsAt (d + 1) l v w
  | 0, _, _, _, h => h.mono fun _ _ _ h => h.elim
  | d + 1, _, _, _, h => h.mono (its_more d)
theorem its_up {d e : Nat} (hde : d ≤ e) {l : List Itm} {v : Value} {w : World} (h : ItsAt d l v w) : ItsAt e l v w := by
  induction hde with
  | refl => exact h
  | step _ ih => exact its_more _ _ _ _ ih
theorem its_fits : ∀ (d : Nat) (l : List Itm) (v : Value) (w : World), ItsAt d l v w → Fits d l
  | 0, l, v, w, h => fun it hit => by
    obtain ⟨k, hk, rfl⟩ := List.getElem_of_mem hit
    obtain ⟨a, n, cap, rfl, -⟩ := h.form
    obtain ⟨-, -, aa, an, ac, -, -, -, -, -, -, a', cap', -, -, -, h3⟩ := h.get (List.getElem?_eq_getElem hk)
    cases he : (l[k]).arms with
    | nil => rfl
    | cons x r =>
      rw [he] at h3
      obtain ⟨-, -, -, -, -, -, hf⟩ := h3 0 x rfl
      exact hf.elim
  | d + 1, l, v, w, h => fun it hit x hx => by
    obtain ⟨k, hk, rfl⟩ := List.getElem_of_mem hit
    obtain ⟨j, hj, rfl⟩ := List.getElem_of_mem hx
    obtain ⟨a, n, cap, rfl, -⟩ := h.form
    obtain ⟨-, -, aa, an, ac, -, -, -, -, -, -, hr⟩ := h.get (List.getElem?_eq_getElem hk)
    obtain ⟨-, -, ia, im, ic, -, -, -, hr2⟩ := hr.get (itsAt_form d) (List.getElem?_eq_getElem hj)
    exact its_fits d _ _ _ hr2

end Go.Proofs.YtlnlpahmfpjjdaaDoor

/-
  The document's SameToken and SameTokens, of what is the same, any.
-/
namespace Go.Proofs.YtlnlpahmfpjjdaaDoor
open Go.RowKit

/-- Two boxes of eight cells, one behind the other: their last cells. -/
theorem two_boxes (w : World) (c0 c1 c2 c3 c4 c5 c6 c7 e7 : Value) (T : TypeId) :
    Below w.heap.size w ((w.alloc (.cells #[c0, c1, c2, c3, c4, c5, c6, c7] T)).alloc (.cells #[c0, c1, c2, c3, c4, c5, c6, e7] T)) ∧
    ((w.alloc (.cells #[c0, c1, c2, c3, c4, c5, c6, c7] T)).alloc (.cells #[c0, c1, c2, c3, c4, c5, c6, e7] T)).cell? ⟨w.heap.size, 7, none⟩ = some c7 ∧
    ((w.alloc (.cells #[c0, c1, c2, c3, c4, c5, c6, c7] T)).alloc (.cells #[c0, c1, c2, c3, c4, c5, c6, e7] T)).cell? ⟨w.heap.size + 1, 7, none⟩ = some e7 ∧
    ((w.alloc (.cells #[c0, c1, c2, c3, c4, c5, c6, c7] T)).alloc (.cells #[c0, c1, c2, c3, c4, c5, c6, e7] T)).heap.size = w.heap.size + 2 := by
  refine ⟨((Below.refl _ _).alloc (Nat.le_refl _) _).alloc (by simp) _, ?_, ?_, by simp⟩
  · rw [Lib.cell_of_heap (heap_one w _ _)]
    rfl
  · have h := heap_alloc_new (w.alloc (.cells #[c0, c1, c2, c3, c4, c5, c6, c7] T)) (.cells #[c0, c1, c2, c3, c4, c5, c6, e7] T)
    rw [show (w.alloc (.cells #[c0, c1, c2, c3, c4, c5, c6, c7] T)).heap.size = w.heap.size + 1 from by simp] at h
    rw [Lib.cell_of_heap h]
    rfl

theorem SitsA.len {S : List Xs} {a : Option Addr} {n cap : Nat} {w : World} (h : SitsA S (.slice a n cap) w) : n = S.length ∧ n ≤ cap ∧ cap ≤ maxLen := by
  obtain ⟨a', cap', hv, h1, h2, -⟩ := h
  simp only [Value.slice.injEq] at hv
  obtain ⟨-, e1, e2⟩ := hv
  exact ⟨e1, by omega, by omega⟩
theorem SitsA.get {S : List Xs} {a : Option Addr} {n cap : Nat} {w : World} (h : SitsA S (.slice a n cap) w) {k : Nat} {s : Xs} (hs : S[k]? = some s) : ∃ g o, a = some ⟨g, o, none⟩ ∧ g < w.heap.size ∧ SitA s g (o + k * 5) w := by
  obtain ⟨a', cap', hv, -, -, h3⟩ := h
  simp only [Value.slice.injEq] at hv
  obtain ⟨g, o, ha, hg, hc⟩ := h3 k s hs
  exact ⟨g, o, by rw [hv.1]; exact ha, hg, hc⟩

set_option maxRecDepth 100000 in
set_option maxHeartbeats 3200000 in
theorem sameTok_any (t : Xt) {a a' : Option Addr} {n cap n' cap' : Nat} {w : World} (h : SitsA t.ss (.slice a n cap) w) (h' : SitsA t.ss (.slice a' n' cap') w) :
    Calls Tryd.prog 40 #[.agg #[.int .i64 t.k, .string t.x, .bool t.sp, .string t.g, .int .i64 t.f, .int .i64 t.t, .bool t.d, .slice a n cap], .agg #[.int .i64 t.k, .string t.x, .bool t.sp, .string t.g, .int .i64 t.f, .int .i64 t.t, .bool t.d, .slice a' n' cap']] w (TruePost w) := by
  obtain ⟨hn, hc1, hc2⟩ := h.len
  obtain ⟨hn', hc1', hc2'⟩ := h'.len
  obtain rfl : n = n' := hn.trans hn'.symm
  unfold maxLen at hc2 hc2'
  have HX := Lib.hid h
  have HX' := Lib.hid h'
  have HN := Lib.hid hn
  clear h h' hn hn'
  go_enter Tryd.func40, Tryd.ntmps40
  go_wp2
  obtain ⟨hB, k7, m7, hsz⟩ := two_boxes w (.int .i64 t.k) (.string t.x) (.bool t.sp) (.string t.g) (.int .i64 t.f) (.int .i64 t.t) (.bool t.d) (.slice a n cap) (.slice a' n cap') 36
  obtain ⟨o1, ho1⟩ : ∃ o : Obj, Obj.cells #[.int .i64 t.k, .string t.x, .bool t.sp, .string t.g, .int .i64 t.f, .int .i64 t.t, .bool t.d, .slice a n cap] 36 = o := ⟨_, rfl⟩
  obtain ⟨o2, ho2⟩ : ∃ o : Obj, Obj.cells #[.int .i64 t.k, .string t.x, .bool t.sp, .string t.g, .int .i64 t.f, .int .i64 t.t, .bool t.d, .slice a' n cap'] 36 = o := ⟨_, rfl⟩
  rw [ho1, ho2] at hB k7 m7 hsz ⊢
  obtain ⟨w2, hw2⟩ : ∃ w2, (w.alloc o1).alloc o2 = w2 := ⟨_, rfl⟩
  rw [hw2] at hB k7 m7 hsz ⊢
  have HB := Lib.hid hB
  have HK7 := Lib.hid k7
  have HM7 := Lib.hid m7
  have hz1 : w.heap.size < w2.heap.size := by omega
  have hz2 : w.heap.size + 1 < w2.heap.size := by omega
  clear hB hw2 ho1 ho2 k7 m7 hsz
  go_loopw [5] (fun i wr => ∃ k : Nat, i = .int .i64 (k : Int) ∧ k ≤ n ∧ Below w2.heap.size w2 wr) (fun i _ => n - (intOf i).toNat)
  case atStart => exact ⟨0, rfl, Nat.zero_le _, Below.refl _ _⟩
  case round =>
    obtain ⟨k, rfl, hk, hb⟩ := hrel
    have k7 := bcell hb HK7.out hz1
    have m7 := bcell hb HM7.out hz2
    have HBW : Hid (Below w.heap.size w wr) := Lib.hid (HB.out.trans (hb.mono HB.out.size))
    have HB2 := Lib.hid hb
    clear hb
    by_cases hlt : k < n
    · obtain ⟨s, hs⟩ : ∃ s, t.ss[k]? = some s := ⟨_, List.getElem?_eq_getElem (by rw [← HN.out]; exact hlt)⟩
      obtain ⟨g, o, rfl, hg, hsa⟩ := HX.out.get hs
      obtain ⟨g', o', rfl, hg', hsb⟩ := HX'.out.get hs
      obtain ⟨e0, e1, e2, e3, e4⟩ := hsa.next HBW.out hg
      obtain ⟨f0, f1, f2, f3, f4⟩ := hsb.next HBW.out hg'
      have hkI : (k : Int) < (n : Int) := by omega
      have hk0 : (0 : Int) ≤ (k : Int) := by omega
      clear hs hsa hsb
      go_wp2
      go_quiet (fail)
      go_wp2
      go_roundw
      case rel => exact ⟨k + 1, by go_num, hlt, HB2.out.trans ((Below.of_drews _ _).mono HB2.out.size)⟩
      case measure => simp [intOf]; omega
    · have hkI : ¬ (k : Int) < (n : Int) := by omega
      go_wp2
      go_ret
      exact ⟨rfl, HBW.out⟩

set_option maxRecDepth 100000 in
set_option maxHeartbeats 3200000 in
theorem sameToks_any {T : List Xt} {v v' : Value} {w : World} (h : ToksX T v w) (h' : ToksX T v' w) : Calls Tryd.prog 14 #[v, v'] w (TruePost w) := by
  obtain ⟨a, n, cap, rfl⟩ := h.form
  obtain ⟨a', n', cap', rfl⟩ := h'.form
  obtain ⟨hn, hc1, hc2⟩ := h.len
  obtain ⟨hn', hc1', hc2'⟩ := h'.len
  obtain rfl : n = n' := hn.trans hn'.symm
  unfold maxLen at hc2 hc2'
  have HX := Lib.hid h
  have HX' := Lib.hid h'
  have HN := Lib.hid hn
  clear h h' hn hn'
  go_enter Tryd.func14, Tryd.ntmps14
  go_wp2
  go_loopw [5] (fun i wr => ∃ k : Nat, i = .int .i64 (k : Int) ∧ k ≤ n ∧ Below w.heap.size w wr) (fun i _ => n - (intOf i).toNat)
  case atStart => exact ⟨0, rfl, Nat.zero_le _, Below.refl _ _⟩
  case round =>
    obtain ⟨k, rfl, hk, hb⟩ := hrel
    by_cases hlt : k < n
    · obtain ⟨t, ht⟩ : ∃ t, T[k]? = some t := ⟨_, List.getElem?_eq_getElem (by rw [← HN.out]; exact hlt)⟩
      obtain ⟨g, o, sa, sn, sc, rfl, hg, -, hta, hsa⟩ := HX.out.get ht
      obtain ⟨g', o', sa', sn', sc', rfl, hg', -, htb, hsb⟩ := HX'.out.get ht
      obtain ⟨e0, e1, e2, e3, e4, e5, e6, e7⟩ := hta.next hb hg
      obtain ⟨f0, f1, f2, f3, f4, f5, f6, f7⟩ := htb.next hb hg'
      have hkI : (k : Int) < (n : Int) := by omega
      have hk0 : (0 : Int) ≤ (k : Int) := by omega
      have HB := Lib.hid hb
      have HS : Hid (∀ X : World, Below w.heap.size w X → Calls Tryd.prog 40 #[.agg #[.int .i64 t.k, .string t.x, .bool t.sp, .string t.g, .int .i64 t.f, .int .i64 t.t, .bool t.d, .slice sa sn sc], .agg #[.int .i64 t.k, .string t.x, .bool t.sp, .string t.g, .int .i64 t.f, .int .i64 t.t, .bool t.d, .slice sa' sn' sc']] X (TruePost X)) := Lib.hid (fun X hX => sameTok_any t (hsa.over hX) (hsb.over hX))
      clear hb ht hta htb hsa hsb
      go_wp2
      go_still_tail 8, (by kernel_rfl)
      change wpList _ _ _ _ _ wr.drew
      have HB2 : Hid (Below w.heap.size w wr.drew) := Lib.hid HB.out.drew
      obtain ⟨w2, hw2⟩ : ∃ w2, wr.drew = w2 := ⟨_, rfl⟩
      rw [hw2] at HB2 ⊢
      clear hw2 e0 e1 e2 e3 e4 e5 e6 e7 f0 f1 f2 f3 f4 f5 f6 f7
      go_wp2_with (go_at_call 40; (with_reducible refine (HS.out _ HB2.out).mono ?_); rintro e w3 ⟨rfl, hb3⟩; have HB3 := Lib.hid hb3; clear hb3)
      go_roundw
      case rel => exact ⟨k + 1, by go_num, hlt, HB2.out.trans (HB3.out.mono HB2.out.size)⟩
      case measure => simp [intOf]; omega
    · have hkI : ¬ (k : Int) < (n : Int) := by omega
      go_wp2
      go_ret
      exact ⟨rfl, hb⟩

end Go.Proofs.YtlnlpahmfpjjdaaDoor
