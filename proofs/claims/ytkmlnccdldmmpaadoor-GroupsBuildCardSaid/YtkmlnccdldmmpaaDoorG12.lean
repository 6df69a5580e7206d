/-
  Texts of the proof, put together: GrMem, DkSame, DkClone.
-/
import Derived.Test.YtkmlnccdldmmpaaDoorG01
import Derived.Test.YtkmlnccdldmmpaaDoorG11
import Derived.StillTailTactics
import Derived.WalkSpells
import Derived.Lib.SliceRun

/-
  Items that lie somewhere: their arms too, and what is in them.
-/
namespace Go.Proofs.YtkmlnccdldmmpaaDoor
open Go.RowKit

abbrev RelI := List Itm → Value → World → Prop
def ItmA (it : Itm) (av : Value) (g o : Nat) (w : World) : Prop := w.cell? ⟨g, o, none⟩ = some (.int .i64 it.k) ∧ w.cell? ⟨g, o + 1, none⟩ = some (.int .i64 it.line) ∧ w.cell? ⟨g, o + 2, none⟩ = some av
def ArmA (x : Int × List Itm) (iv : Value) (g o : Nat) (w : World) : Prop := w.cell? ⟨g, o, none⟩ = some (.int .i64 x.1) ∧ w.cell? ⟨g, o + 1, none⟩ = some iv
def ArmsOf (R : RelI) (qs : List (Int × List Itm)) (av : Value) (w : World) : Prop :=
  ∃ a cap, av = .slice a qs.length cap ∧ qs.length ≤ cap ∧ cap ≤ maxLen ∧ ∀ j x, qs[j]? = some x → ∃ g o, a = some ⟨g, o, none⟩ ∧ g < w.heap.size ∧ ∃ iv, ArmA x iv g (o + j * 2) w ∧ R x.2 iv w
def ItsOf (R : RelI) (l : List Itm) (v : Value) (w : World) : Prop :=
  ∃ a cap, v = .slice a l.length cap ∧ l.length ≤ cap ∧ cap ≤ maxLen ∧ ∀ k it, l[k]? = some it → ∃ g o, a = some ⟨g, o, none⟩ ∧ g < w.heap.size ∧ ∃ av, ItmA it av g (o + k * 3) w ∧ ArmsOf R it.arms av w
/-- Items, so deep. -/
def ItsAt : Nat → RelI
  | 0 => ItsOf fun _ _ _ => False
  | d + 1 => ItsOf (ItsAt d)

def Over (R : RelI) : Prop := ∀ l v (w w' : World), R l v w → Below w.heap.size w w' → R l v w'
theorem ArmsOf.over {R : RelI} (hR : Over R) {qs : List (Int × List Itm)} {av : Value} {w w' : World} (h : ArmsOf R qs av w) (b : Below w.heap.size w w') : ArmsOf R qs av w' := by
  obtain ⟨a, cap, hv, h1, h2, h3⟩ := h
  refine ⟨a, cap, hv, h1, h2, fun j x hx => ?_⟩
  obtain ⟨g, o, ha, hg, iv, ⟨c0, c1⟩, hr⟩ := h3 j x hx
  exact ⟨g, o, ha, Nat.lt_of_lt_of_le hg b.size, iv, ⟨bcell b c0 hg, bcell b c1 hg⟩, hR _ _ _ _ hr b⟩
theorem ItsOf.over {R : RelI} (hR : Over R) : Over (ItsOf R) := by
  intro l v w w' h b
  obtain ⟨a, cap, hv, h1, h2, h3⟩ := h
  refine ⟨a, cap, hv, h1, h2, fun k it hit => ?_⟩
  obtain ⟨g, o, ha, hg, av, ⟨c0, c1, c2⟩, hr⟩ := h3 k it hit
  exact ⟨g, o, ha, Nat.lt_of_lt_of_le hg b.size, av, ⟨bcell b c0 hg, bcell b c1 hg, bcell b c2 hg⟩, hr.over hR b⟩
theorem itsAt_over : ∀ d, Over (ItsAt d)
  | 0 => ItsOf.over fun _ _ _ _ h _ => h.elim
  | d + 1 => ItsOf.over (itsAt_over d)

theorem ItsOf.form {R : RelI} {l : List Itm} {v : Value} {w : World} (h : ItsOf R l v w) : ∃ a n cap, v = .slice a n cap ∧ n = l.length ∧ n ≤ cap ∧ cap ≤ maxLen := by
  obtain ⟨a, cap, hv, h1, h2, -⟩ := h
  exact ⟨a, _, cap, hv, rfl, h1, h2⟩
theorem ArmsOf.form {R : RelI} {qs : List (Int × List Itm)} {v : Value} {w : World} (h : ArmsOf R qs v w) : ∃ a n cap, v = .slice a n cap ∧ n = qs.length ∧ n ≤ cap ∧ cap ≤ maxLen := by
  obtain ⟨a, cap, hv, h1, h2, -⟩ := h
  exact ⟨a, _, cap, hv, rfl, h1, h2⟩
def Formed (R : RelI) : Prop := ∀ l v w, R l v w → ∃ a n cap, v = .slice a n cap ∧ n = l.length ∧ n ≤ cap ∧ cap ≤ maxLen
theorem itsAt_form : ∀ d, Formed (ItsAt d)
  | 0 => fun _ _ _ h => h.form
  | _ + 1 => fun _ _ _ h => h.form

theorem ItsOf.get {R : RelI} {l : List Itm} {a : Option Addr} {n cap : Nat} {w : World} (h : ItsOf R l (.slice a n cap) w) {k : Nat} {it : Itm} (hk : l[k]? = some it) :
    ∃ g o aa an ac, a = some ⟨g, o, none⟩ ∧ g < w.heap.size ∧ an = it.arms.length ∧ an ≤ ac ∧ ac ≤ maxLen ∧ ItmA it (.slice aa an ac) g (o + k * 3) w ∧ ArmsOf R it.arms (.slice aa an ac) w := by
  obtain ⟨a', cap', hv, -, -, h3⟩ := h
  simp only [Value.slice.injEq] at hv
  obtain ⟨g, o, ha, hg, av, hc, hr⟩ := h3 k it hk
  obtain ⟨aa, an, ac, rfl, h4, h5, h6⟩ := hr.form
  exact ⟨g, o, aa, an, ac, by rw [hv.1]; exact ha, hg, h4, h5, h6, hc, hr⟩
theorem ArmsOf.get {R : RelI} (hF : Formed R) {qs : List (Int × List Itm)} {a : Option Addr} {n cap : Nat} {w : World} (h : ArmsOf R qs (.slice a n cap) w) {j : Nat} {x : Int × List Itm} (hj : qs[j]? = some x) :
    ∃ g o ia im ic, a = some ⟨g, o, none⟩ ∧ g < w.heap.size ∧ ArmA x (.slice ia im ic) g (o + j * 2) w ∧ R x.2 (.slice ia im ic) w := by
  obtain ⟨a', cap', hv, -, -, h3⟩ := h
  simp only [Value.slice.injEq] at hv
  obtain ⟨g, o, ha, hg, iv, hc, hr⟩ := h3 j x hj
  obtain ⟨ia, im, ic, rfl, -⟩ := hF _ _ _ hr
  exact ⟨g, o, ia, im, ic, by rw [hv.1]; exact ha, hg, hc, hr⟩
theorem its_nil (R : RelI) (w : World) : ItsOf R [] (.slice none 0 0) w := ⟨none, 0, rfl, Nat.le_refl _, Nat.zero_le _, fun k s h => by simp at h⟩
theorem arms_nil (R : RelI) (w : World) : ArmsOf R [] (.slice none 0 0) w := ⟨none, 0, rfl, Nat.le_refl _, Nat.zero_le _, fun k s h => by simp at h⟩

theorem ItsOf.mono {R S : RelI} (hRS : ∀ l v w, R l v w → S l v w) {l : List Itm} {v : Value} {w : World} (h : ItsOf R l v w) : ItsOf S l v w := by
  obtain ⟨a, cap, hv, h1, h2, h3⟩ := h
  refine ⟨a, cap, hv, h1, h2, fun k it hit => ?_⟩
  obtain ⟨g, o, ha, hg, av, hc, a', cap', hv', h1', h2', h3'⟩ := h3 k it hit
  refine ⟨g, o, ha, hg, av, hc, a', cap', hv', h1', h2', fun j x hx => ?_⟩
  obtain ⟨g', o', ha', hg', iv, hc', hr⟩ := h3' j x hx
  exact ⟨g', o', ha', hg', iv, hc', hRS _ _ _ hr⟩
theorem its_more : ∀ (d : Nat) l v w, ItsAt d l v w → ItsAt (d + 1) l v w
  | 0, _, _, _, h => h.mono fun _ _ _ h => h.elim
  | d + 1, _, _, _, h => h.mono (its_more d)
theorem its_up {d e : Nat} (hde : d ≤ e) {l : List Itm} {v : Value} {w : World} (h : ItsAt d l v w) : ItsAt e l v w := by
  induction hde with
  | refl => exact h
  | step _ ih => exact its_more _ _ _ _ ih
theorem its_fits : ∀ (d : Nat) (l : List Itm) (v : Value) (w : World), ItsAt d l v w → Fits d l
  | 0, l, v, w, h => fun it hit => by
    obtain ⟨k, hk, rfl⟩ := List.getElem_of_mem hit
    obtain ⟨a, n, cap, rfl, -⟩ := h.form
    obtain ⟨-, -, aa, an, ac, -, -, -, -, -, -, a', cap', -, -, -, h3⟩ := h.get (List.getElem?_eq_getElem hk)
    cases he : (l[k]).arms with
    | nil => rfl
    | cons x r =>
      rw [he] at h3
      obtain ⟨-, -, -, -, -, -, hf⟩ := h3 0 x rfl
      exact hf.elim
  | d + 1, l, v, w, h => fun it hit x hx => by
    obtain ⟨k, hk, rfl⟩ := List.getElem_of_mem hit
    obtain ⟨j, hj, rfl⟩ := List.getElem_of_mem hx
    obtain ⟨a, n, cap, rfl, -⟩ := h.form
    obtain ⟨-, -, aa, an, ac, -, -, -, -, -, -, hr⟩ := h.get (List.getElem?_eq_getElem hk)
    obtain ⟨-, -, ia, im, ic, -, -, -, hr2⟩ := hr.get (itsAt_form d) (List.getElem?_eq_getElem hj)
    exact its_fits d _ _ _ hr2

end Go.Proofs.YtkmlnccdldmmpaaDoor

/-
  The document's SameToken and SameTokens, of what is the same, any.
-/
namespace Go.Proofs.YtkmlnccdldmmpaaDoor
open Go.RowKit

/-- Two boxes of eight cells, one behind the other: their last cells. -/
theorem two_boxes (w : World) (c0 c1 c2 c3 c4 c5 c6 c7 e7 : Value) (T : TypeId) :
    Below w.heap.size w ((w.alloc (.cells #[c0, c1, c2, c3, c4, c5, c6, c7] T)).alloc (.cells #[c0, c1, c2, c3, c4, c5, c6, e7] T)) ∧
    ((w.alloc (.cells #[c0, c1, c2, c3, c4, c5, c6, c7] T)).alloc (.cells #[c0, c1, c2, c3, c4, c5, c6, e7] T)).cell? ⟨w.heap.size, 7, none⟩ = some c7 ∧
    ((w.alloc (.cells #[c0, c1, c2, c3, c4, c5, c6, c7] T)).alloc (.cells #[c0, c1, c2, c3, c4, c5, c6, e7] T)).cell? ⟨w.heap.size + 1, 7, none⟩ = some e7 ∧
    ((w.alloc (.cells #[c0, c1, c2, c3, c4, c5, c6, c7] T)).alloc (.cells #[c0, c1, c2, c3, c4, c5, c6, e7] T)).heap.size = w.heap.size + 2 := by
  refine ⟨((Below.refl _ _).alloc (Nat.le_refl _) _).alloc (by simp) _, ?_, ?_, by simp⟩
  · rw [Lib.cell_of_heap (heap_one w _ _)]
    rfl
  · have h := heap_alloc_new (w.alloc (.cells #[c0, c1, c2, c3, c4, c5, c6, c7] T)) (.cells #[c0, c1, c2, c3, c4, c5, c6, e7] T)
    rw [show (w.alloc (.cells #[c0, c1, c2, c3, c4, c5, c6, c7] T)).heap.size = w.heap.size + 1 from by simp] at h
    rw [Lib.cell_of_heap h]
    rfl

theorem SitsA.len {S : List Xs} {a : Option Addr} {n cap : Nat} {w : World} (h : SitsA S (.slice a n cap) w) : n = S.length ∧ n ≤ cap ∧ cap ≤ maxLen := by
  obtain ⟨a', cap', hv, h1, h2, -⟩ := h
  simp only [Value.slice.injEq] at hv
  obtain ⟨-, e1, e2⟩ := hv
  exact ⟨e1, by omega, by omega⟩
theorem SitsA.get {S : List Xs} {a : Option Addr} {n cap : Nat} {w : World} (h : SitsA S (.slice a n cap) w) {k : Nat} {s : Xs} (hs : S[k]? = some s) : ∃ g o, a = some ⟨g, o, none⟩ ∧ g < w.heap.size ∧ SitA s g (o + k * 5) w := by
  obtain ⟨a', cap', hv, -, -, h3⟩ := h
  simp only [Value.slice.injEq] at hv
  obtain ⟨g, o, ha, hg, hc⟩ := h3 k s hs
  exact ⟨g, o, by rw [hv.1]; exact ha, hg, hc⟩

set_option maxRecDepth 100000 in
set_option maxHeartbeats 3200000 in
theorem sameTok_any (t : Xt) {a a' : Option Addr} {n cap n' cap' : Nat} {w : World} (h : SitsA t.ss (.slice a n cap) w) (h' : SitsA t.ss (.slice a' n' cap') w) :
    Calls Tryd.prog 40 #[.agg #[.int .i64 t.k, .string t.x, .bool t.sp, .string t.g, .int .i64 t.f, .int .i64 t.t, .bool t.d, .slice a n cap], .agg #[.int .i64 t.k, .string t.x, .bool t.sp, .string t.g, .int .i64 t.f, .int .i64 t.t, .bool t.d, .slice a' n' cap']] w (TruePost w) := by
  obtain ⟨hn, hc1, hc2⟩ := h.len
  obtain ⟨hn', hc1', hc2'⟩ := h'.len
  obtain rfl : n = n' := hn.trans hn'.symm
  unfold maxLen at hc2 hc2'
  have HX := Lib.hid h
  have HX' := Lib.hid h'
  have HN := Lib.hid hn
  clear h h' hn hn'
  go_enter Tryd.func40, Tryd.ntmps40
  go_wp2
  obtain ⟨hB, k7, m7, hsz⟩ := two_boxes w (.int .i64 t.k) (.string t.x) (.bool t.sp) (.string t.g) (.int .i64 t.f) (.int .i64 t.t) (.bool t.d) (.slice a n cap) (.slice a' n cap') 36
  obtain ⟨o1, ho1⟩ : ∃ o : Obj, Obj.cells #[.int .i64 t.k, .string t.x, .bool t.sp, .string t.g, .int .i64 t.f, .int .i64 t.t, .bool t.d, .slice a n cap] 36 = o := ⟨_, rfl⟩
  obtain ⟨o2, ho2⟩ : ∃ o : Obj, Obj.cells #[.int .i64 t.k, .string t.x, .bool t.sp, .string t.g, .int .i64 t.f, .int .i64 t.t, .bool t.d, .slice a' n cap'] 36 = o := ⟨_, rfl⟩
  rw [ho1, ho2] at hB k7 m7 hsz ⊢
  obtain ⟨w2, hw2⟩ : ∃ w2, (w.alloc o1).alloc o2 = w2 := ⟨_, rfl⟩
  rw [hw2] at hB k7 m7 hsz ⊢
  have HB := Lib.hid hB
  have HK7 := Lib.hid k7
  have HM7 := Lib.hid m7
  have hz1 : w.heap.size < w2.heap.size := by omega
  have hz2 : w.heap.size + 1 < w2.heap.size := by omega
  clear hB hw2 ho1 ho2 k7 m7 hsz
  go_loopw [5] (fun i wr => ∃ k : Nat, i = .int .i64 (k : Int) ∧ k ≤ n ∧ Below w2.heap.size w2 wr) (fun i _ => n - (intOf i).toNat)
  case atStart => exact ⟨0, rfl, Nat.zero_le _, Below.refl _ _⟩
  case round =>
    obtain ⟨k, rfl, hk, hb⟩ := hrel
    have k7 := bcell hb HK7.out hz1
    have m7 := bcell hb HM7.out hz2
    have HBW : Hid (Below w.heap.size w wr) := Lib.hid (HB.out.trans (hb.mono HB.out.size))
    have HB2 := Lib.hid hb
    clear hb
    by_cases hlt : k < n
    · obtain ⟨s, hs⟩ : ∃ s, t.ss[k]? = some s := ⟨_, List.getElem?_eq_getElem (by rw [← HN.out]; exact hlt)⟩
      obtain ⟨g, o, rfl, hg, hsa⟩ := HX.out.get hs
      obtain ⟨g', o', rfl, hg', hsb⟩ := HX'.out.get hs
      obtain ⟨e0, e1, e2, e3, e4⟩ := hsa.next HBW.out hg
      obtain ⟨f0, f1, f2, f3, f4⟩ := hsb.next HBW.out hg'
      have hkI : (k : Int) < (n : Int) := by omega
      have hk0 : (0 : Int) ≤ (k : Int) := by omega
      clear hs hsa hsb
      go_wp2
      go_quiet (fail)
      go_wp2
      go_roundw
      case rel => exact ⟨k + 1, by go_num, hlt, HB2.out.trans ((Below.of_drews _ _).mono HB2.out.size)⟩
      case measure => simp [intOf]; omega
    · have hkI : ¬ (k : Int) < (n : Int) := by omega
      go_wp2
      go_ret
      exact ⟨rfl, HBW.out⟩

set_option maxRecDepth 100000 in
set_option maxHeartbeats 3200000 in
theorem sameToks_any {T : List Xt} {v v' : Value} {w : World} (h : ToksX T v w) (h' : ToksX T v' w) : Calls Tryd.prog 14 #[v, v'] w (TruePost w) := by
  obtain ⟨a, n, cap, rfl⟩ := h.form
  obtain ⟨a', n', cap', rfl⟩ := h'.form
  obtain ⟨hn, hc1, hc2⟩ := h.len
  obtain ⟨hn', hc1', hc2'⟩ := h'.len
  obtain rfl : n = n' := hn.trans hn'.symm
  unfold maxLen at hc2 hc2'
  have HX := Lib.hid h
  have HX' := Lib.hid h'
  have HN := Lib.hid hn
  clear h h' hn hn'
  go_enter Tryd.func14, Tryd.ntmps14
  go_wp2
  go_loopw [5] (fun i wr => ∃ k : Nat, i = .int .i64 (k : Int) ∧ k ≤ n ∧ Below w.heap.size w wr) (fun i _ => n - (intOf i).toNat)
  case atStart => exact ⟨0, rfl, Nat.zero_le _, Below.refl _ _⟩
  case round =>
    obtain ⟨k, rfl, hk, hb⟩ := hrel
    by_cases hlt : k < n
    · obtain ⟨t, ht⟩ : ∃ t, T[k]? = some t := ⟨_, List.getElem?_eq_getElem (by rw [← HN.out]; exact hlt)⟩
      obtain ⟨g, o, sa, sn, sc, rfl, hg, -, hta, hsa⟩ := HX.out.get ht
      obtain ⟨g', o', sa', sn', sc', rfl, hg', -, htb, hsb⟩ := HX'.out.get ht
      obtain ⟨e0, e1, e2, e3, e4, e5, e6, e7⟩ := hta.next hb hg
      obtain ⟨f0, f1, f2, f3, f4, f5, f6, f7⟩ := htb.next hb hg'
      have hkI : (k : Int) < (n : Int) := by omega
      have hk0 : (0 : Int) ≤ (k : Int) := by omega
      have HB := Lib.hid hb
      have HS : Hid (∀ X : World, Below w.heap.size w X → Calls Tryd.prog 40 #[.agg #[.int .i64 t.k, .string t.x, .bool t.sp, .string t.g, .int .i64 t.f, .int .i64 t.t, .bool t.d, .slice sa sn sc], .agg #[.int .i64 t.k, .string t.x, .bool t.sp, .string t.g, .int .i64 t.f, .int .i64 t.t, .bool t.d, .slice sa' sn' sc']] X (TruePost X)) := Lib.hid (fun X hX => sameTok_any t (hsa.over hX) (hsb.over hX))
      clear hb ht hta htb hsa hsb
      go_wp2
      go_still_tail 8, (by kernel_rfl)
      change wpList _ _ _ _ _ wr.drew
      have HB2 : Hid (Below w.heap.size w wr.drew) := Lib.hid HB.out.drew
      obtain ⟨w2, hw2⟩ : ∃ w2, wr.drew = w2 := ⟨_, rfl⟩
      rw [hw2] at HB2 ⊢
      clear hw2 e0 e1 e2 e3 e4 e5 e6 e7 f0 f1 f2 f3 f4 f5 f6 f7
      go_wp2_with (go_at_call 40; (with_reducible refine (HS.out _ HB2.out).mono ?_); rintro e w3 ⟨rfl, hb3⟩; have HB3 := Lib.hid hb3; clear hb3)
      go_roundw
      case rel => exact ⟨k + 1, by go_num, hlt, HB2.out.trans (HB3.out.mono HB2.out.size)⟩
      case measure => simp [intOf]; omega
    · have hkI : ¬ (k : Int) < (n : Int) := by omega
      go_wp2
      go_ret
      exact ⟨rfl, hb⟩

end Go.Proofs.YtkmlnccdldmmpaaDoor

/-
  slices.Clone of sites and tokens, and the tokens' clone, their sites too.
-/
namespace Go.Proofs.YtkmlnccdldmmpaaDoor
open Go.RowKit

theorem Tryd.infoTokC : (Tryd.prog.info? 36).map (fun i => (i.zero, i.size, i.bytes)) = some (some (.agg #[.int .i64 0, .string ⟨#[]⟩, .bool false, .string ⟨#[]⟩, .int .i64 0, .int .i64 0, .bool false, .slice none 0 0]), 8, 96) := by kernel_rfl
theorem Tryd.infoSit : (Tryd.prog.info? 110).map (fun i => (i.zero, i.size, i.bytes)) = some (some (.agg #[.string ⟨#[]⟩, .string ⟨#[]⟩, .int .i64 0, .int .i64 0, .bool false]), 5, 56) := by kernel_rfl

theorem pick_list {α : Type} (P : Nat → α → Prop) : ∀ n, (∀ i, i < n → ∃ a, P i a) → ∃ l : List α, l.length = n ∧ ∀ i a, l[i]? = some a → P i a
  | 0, _ => ⟨[], rfl, fun i a h => by simp at h⟩
  | n + 1, h => by
    obtain ⟨l, hl, hp⟩ := pick_list P n fun i hi => h i (by omega)
    obtain ⟨a, ha⟩ := h n (by omega)
    refine ⟨l ++ [a], by simp [hl], fun i b hb => ?_⟩
    rcases Nat.lt_or_ge i n with hi | hi
    · rw [List.getElem?_append_left (by omega)] at hb
      exact hp i b hb
    · rw [List.getElem?_append_right (by omega)] at hb
      have hlt := (List.getElem?_eq_some_iff.1 hb).1
      simp at hlt
      obtain rfl : i = n := by omega
      rw [hl, Nat.sub_self] at hb
      cases hb
      exact ha

def scell (s : Xs) : List Value := [.string s.m, .string s.g, .int .i64 s.f, .int .i64 s.t, .bool s.d]
def scells (S : List Xs) : List Value := S.flatMap scell
def xcell (p : Xt × Value) : List Value := [.int .i64 p.1.k, .string p.1.x, .bool p.1.sp, .string p.1.g, .int .i64 p.1.f, .int .i64 p.1.t, .bool p.1.d, p.2]
def xcells (P : List (Xt × Value)) : List Value := P.flatMap xcell
theorem flat_len {α : Type} {f : α → List Value} {n : Nat} (hf : ∀ a, (f a).length = n) : ∀ l : List α, (l.flatMap f).length = l.length * n
  | [] => by simp
  | a :: r => by
    rw [List.flatMap_cons, List.length_append, hf, flat_len hf r, List.length_cons, Nat.add_mul, Nat.one_mul, Nat.add_comm]

/-- What stands at a place of a flat list. -/
theorem flat_split {α : Type} {f : α → List Value} {n : Nat} (hn : 0 < n) (hf : ∀ a, (f a).length = n) {l : List α} {j : Nat} {u : Value} (h : (l.flatMap f)[j]? = some u) : ∃ a, l[j / n]? = some a ∧ (f a)[j % n]? = some u := by
  have hlt := (List.getElem?_eq_some_iff.1 h).1
  rw [flat_len hf] at hlt
  have hk : j / n < l.length := by
    rw [Nat.div_lt_iff_lt_mul hn]
    exact hlt
  refine ⟨_, List.getElem?_eq_getElem hk, ?_⟩
  rw [← flat_get hf l (j / n) _ (List.getElem?_eq_getElem hk) (j % n) (Nat.mod_lt _ hn), Nat.div_add_mod']
  exact h

theorem scell_at {s : Xs} {g o : Nat} {w : World} (h : SitA s g o w) : ∀ j u, (scell s)[j]? = some u → w.cell? ⟨g, o + j, none⟩ = some u := by
  obtain ⟨c0, c1, c2, c3, c4⟩ := h
  intro j u hj
  match j, hj with
  | 0, hj => simp only [scell, List.getElem?_cons_zero, Option.some.injEq] at hj; subst hj; exact c0
  | 1, hj => simp [scell] at hj; subst hj; exact c1
  | 2, hj => simp [scell] at hj; subst hj; exact c2
  | 3, hj => simp [scell] at hj; subst hj; exact c3
  | 4, hj => simp [scell] at hj; subst hj; exact c4
  | j + 5, hj => simp [scell] at hj
theorem xcell_at {p : Xt × Value} {g o : Nat} {w : World} (h : TokX p.1 p.2 g o w) : ∀ j u, (xcell p)[j]? = some u → w.cell? ⟨g, o + j, none⟩ = some u := by
  obtain ⟨c0, c1, c2, c3, c4, c5, c6, c7⟩ := h
  intro j u hj
  match j, hj with
  | 0, hj => simp only [xcell, List.getElem?_cons_zero, Option.some.injEq] at hj; subst hj; exact c0
  | 1, hj => simp [xcell] at hj; subst hj; exact c1
  | 2, hj => simp [xcell] at hj; subst hj; exact c2
  | 3, hj => simp [xcell] at hj; subst hj; exact c3
  | 4, hj => simp [xcell] at hj; subst hj; exact c4
  | 5, hj => simp [xcell] at hj; subst hj; exact c5
  | 6, hj => simp [xcell] at hj; subst hj; exact c6
  | 7, hj => simp [xcell] at hj; subst hj; exact c7
  | j + 8, hj => simp [xcell] at hj

theorem addr_off (g o j : Nat) : (⟨g, o, none⟩ : Addr).add j = ⟨g, o + j, none⟩ := by
  unfold Addr.add
  split
  · rename_i h
    rw [h, Nat.add_zero]
  · rfl

/-- Nothing of a slice lies in that block. -/
def OffG (g : Nat) (v : Value) : Prop := ∀ ad n c, v = .slice (some ad) n c → 0 < n → ad.block ≠ g
theorem SitsA.set {S : List Xs} {v : Value} {w : World} (h : SitsA S v w) {g : Nat} (hg : OffG g v) (j : Nat) (u : Value) : SitsA S v (w.setCell ⟨g, j, none⟩ u) := by
  obtain ⟨a, cap, hv, h1, h2, h3⟩ := h
  refine ⟨a, cap, hv, h1, h2, fun k s hs => ?_⟩
  obtain ⟨b, o, ha, hb, c0, c1, c2, c3, c4⟩ := h3 k s hs
  have hne : b ≠ g := hg ⟨b, o, none⟩ S.length cap (by rw [hv, ha]) (by have := (List.getElem?_eq_some_iff.1 hs).1; omega)
  have ho : ∀ i, (w.setCell ⟨g, j, none⟩ u).cell? ⟨b, i, none⟩ = w.cell? ⟨b, i, none⟩ := fun i => World.cell?_of_block (heap_setCell_other w ⟨g, j, none⟩ b u hne)
  exact ⟨b, o, ha, by rw [World.setCell]; simpa using hb, (ho _).trans c0, (ho _).trans c1, (ho _).trans c2, (ho _).trans c3, (ho _).trans c4⟩

/-- A row that is new. -/
def NewAt (W : World) (e : TypeId) (size n : Nat) (xs : List Value) (end_ : Ending) (w' : World) : Prop :=
  ∃ a cap, end_ = .returned (.slice a n cap) ∧ Up W e size (.slice a n cap) n xs w'
theorem new_at {W : World} {e : TypeId} {size n m : Nat} {v : Value} {xs : List Value} {w' : World} (h : Up W e size v m xs w') (hm : m = n) : NewAt W e size n xs (.returned v) w' := by
  subst hm
  obtain ⟨a, cap, rfl, -⟩ := row_form h.1
  exact ⟨a, cap, rfl, h⟩

set_option maxRecDepth 100000 in
theorem cloneX_any {w : World} {a : Option Addr} {m c : Nat} {news : List Value} (h0 : a = none → m = 0 ∧ news = []) (hl : news.length = m * 8) (hc : ∀ ad, a = some ad → ∀ j u, news[j]? = some u → w.cell? (ad.add j) = some u) (hlt : ∀ ad, a = some ad → 0 < m → ad.block < w.heap.size) (h1 : ∀ u ∈ news, u.oneCell' = true) (hm : m ≤ 500000) :
    Calls Tryd.prog 59 #[.slice a m c] w (NewAt w 36 8 m news) := by
  have hq := fun (w : World) (a : Option Addr) (n c : Nat) => Lib.run_eql_slice_nil (P := Tryd.prog) w 22 36 a n c 0 0 Tryd.underlying22
  obtain ⟨i0, hi, hz0, hz1, hz2⟩ := info_parts Tryd.infoTokC
  cases a with
  | none =>
    obtain ⟨rfl, rfl⟩ := h0 rfl
    clear h0 hl hc hlt h1
    go_enter Tryd.func59, Tryd.ntmps59
    go_wp2
    go_ret
    exact new_at (up_nil w _ 8) rfl
  | some ad =>
    have HR := Lib.hid (up_empty w 36 8)
    have HS2 : Hid (Src (w.alloc (.cells #[] 36)) (.slice (some ad) m c) m 8 news) := Lib.hid (.inr ⟨ad, c, rfl, hl, fun j u hj => by
      have hm0 : 0 < m := by
        have := (List.getElem?_eq_some_iff.1 hj).1
        rcases Nat.eq_zero_or_pos m with h | h
        · rw [h] at hl; omega
        · exact h
      rw [HR.out.2.cell (by rw [add_block2]; exact hlt ad rfl hm0)]
      exact hc ad rfl j u hj⟩)
    have H1 := Lib.hid h1
    clear h0 hl hc hlt h1
    go_enter Tryd.func59, Tryd.ntmps59
    go_wp2_with (at_builtin; refine wpList_append_ex rfl (.tmp 5) (.tmp 6) 22 rfl _ (app_up Tryd.underlying22 hi hz0 hz1 hz2 rfl (by decide) (by decide) HR.out HS2.out H1.out (by omega)) ?_; intro v' w1 hu; have U1 := Lib.hid hu; clear hu)
    go_ret
    exact new_at U1.out (by omega)

set_option maxRecDepth 100000 in
theorem cloneS_any {w : World} {a : Option Addr} {m c : Nat} {news : List Value} (h0 : a = none → m = 0 ∧ news = []) (hl : news.length = m * 5) (hc : ∀ ad, a = some ad → ∀ j u, news[j]? = some u → w.cell? (ad.add j) = some u) (hlt : ∀ ad, a = some ad → 0 < m → ad.block < w.heap.size) (h1 : ∀ u ∈ news, u.oneCell' = true) (hm : m ≤ 500000) :
    Calls Tryd.prog 60 #[.slice a m c] w (NewAt w 110 5 m news) := by
  have hq := fun (w : World) (a : Option Addr) (n c : Nat) => Lib.run_eql_slice_nil (P := Tryd.prog) w 34 110 a n c 0 0 Tryd.underlying34
  obtain ⟨i0, hi, hz0, hz1, hz2⟩ := info_parts Tryd.infoSit
  cases a with
  | none =>
    obtain ⟨rfl, rfl⟩ := h0 rfl
    clear h0 hl hc hlt h1
    go_enter Tryd.func60, Tryd.ntmps60
    go_wp2
    go_ret
    exact new_at (up_nil w _ 5) rfl
  | some ad =>
    have HR := Lib.hid (up_empty w 110 5)
    have HS2 : Hid (Src (w.alloc (.cells #[] 110)) (.slice (some ad) m c) m 5 news) := Lib.hid (.inr ⟨ad, c, rfl, hl, fun j u hj => by
      have hm0 : 0 < m := by
        have := (List.getElem?_eq_some_iff.1 hj).1
        rcases Nat.eq_zero_or_pos m with h | h
        · rw [h] at hl; omega
        · exact h
      rw [HR.out.2.cell (by rw [add_block2]; exact hlt ad rfl hm0)]
      exact hc ad rfl j u hj⟩)
    have H1 := Lib.hid h1
    clear h0 hl hc hlt h1
    go_enter Tryd.func60, Tryd.ntmps60
    go_wp2_with (at_builtin; refine wpList_append_ex rfl (.tmp 5) (.tmp 6) 34 rfl _ (app_up Tryd.underlying34 hi hz0 hz1 hz2 rfl (by decide) (by decide) HR.out HS2.out H1.out (by omega)) ?_; intro v' w1 hu; have U1 := Lib.hid hu; clear hu)
    go_ret
    exact new_at U1.out (by omega)

/-- Sites that were cloned. -/
def SitsNew (W : World) (S : List Xs) (end_ : Ending) (w' : World) : Prop :=
  ∃ a n cap, end_ = .returned (.slice a n cap) ∧ SitsA S (.slice a n cap) w' ∧ Below W.heap.size W w' ∧ ∀ g, g < W.heap.size → OffG g (.slice a n cap)
theorem scells_one (S : List Xs) : ∀ u ∈ scells S, u.oneCell' = true := by
  intro u hu
  unfold scells at hu
  rw [List.mem_flatMap] at hu
  obtain ⟨d, -, hd⟩ := hu
  simp only [scell, List.mem_cons, List.not_mem_nil, or_false] at hd
  rcases hd with rfl | rfl | rfl | rfl | rfl <;> rfl
theorem sits_of_row {B : Nat} {S : List Xs} {v : Value} {w : World} (h : w.ownsRow B 110 5 v S.length (scells S)) : SitsA S v w := by
  obtain ⟨a, cap, hv, h1, h2, h3⟩ := row_form h
  refine ⟨a, cap, hv, h1, h2, fun k s hs => ?_⟩
  have hg := fun j (hj : j < 5) => flat_get (f := scell) (n := 5) (fun _ => rfl) S k s hs j hj
  obtain ⟨g, hga, hlt, -⟩ := h3 (k * 5 + 0) _ ((hg 0 (by omega)).trans rfl)
  have hc : ∀ j u, j < 5 → (scell s)[j]? = some u → w.cell? ⟨g, k * 5 + j, none⟩ = some u := by
    intro j u hj hu
    obtain ⟨g', hga', -, e⟩ := h3 (k * 5 + j) u ((hg j hj).trans hu)
    rw [hga] at hga'
    simp only [Option.some.injEq, Addr.mk.injEq, and_true] at hga'
    rw [hga']
    exact e
  refine ⟨g, 0, hga, hlt, ?_⟩
  rw [Nat.zero_add]
  exact ⟨hc 0 _ (by omega) rfl, hc 1 _ (by omega) rfl, hc 2 _ (by omega) rfl, hc 3 _ (by omega) rfl, hc 4 _ (by omega) rfl⟩
theorem cloneSits_any {S : List Xs} {a : Option Addr} {n c : Nat} {w : World} (h : SitsA S (.slice a n c) w) (hS : S.length ≤ 500000) : Calls Tryd.prog 60 #[.slice a n c] w (SitsNew w S) := by
  have hn := h.len.1
  have hl : (scells S).length = n * 5 := by unfold scells; rw [flat_len (n := 5) (fun _ => rfl), hn]
  have hin : ∀ ad, a = some ad → ∀ j u, (scells S)[j]? = some u → w.cell? (ad.add j) = some u ∧ ad.block < w.heap.size := by
    intro ad ha j u hj
    obtain ⟨s, hs, hu⟩ := flat_split (n := 5) (by omega) (fun _ => rfl) hj
    obtain ⟨g, o, hg, hlt, hc⟩ := h.get hs
    rw [ha] at hg
    obtain rfl := Option.some.inj hg
    refine ⟨?_, hlt⟩
    rw [addr_off]
    have := scell_at hc (j % 5) u hu
    rw [Nat.add_assoc, Nat.div_add_mod'] at this
    exact this
  refine (cloneS_any (fun e => ?_) hl (fun ad ha j u hj => (hin ad ha j u hj).1) (fun ad ha h0 => ?_) (scells_one S) (by omega)).mono ?_
  · have hS0 : S = [] := by
      cases S with
      | nil => rfl
      | cons s r =>
        obtain ⟨g, o, hg, -⟩ := h.get (k := 0) (s := s) rfl
        rw [e] at hg
        cases hg
    subst hS0
    exact ⟨hn, rfl⟩
  · obtain ⟨u, hu⟩ : ∃ u, (scells S)[0]? = some u := ⟨_, List.getElem?_eq_getElem (by rw [hl]; omega)⟩
    exact (hin ad ha 0 u hu).2
  · rintro e w' ⟨a', cap', rfl, hu⟩
    have h1 := hu.1
    rw [hn] at h1 hu ⊢
    refine ⟨a', _, cap', rfl, sits_of_row h1, hu.2, fun g hg ad k c he h0 hb => ?_⟩
    have := (World.ownsRow.lt h1 ad.block (by rw [he]; simp [Value.ownBlock])).1
    omega

end Go.Proofs.YtkmlnccdldmmpaaDoor
