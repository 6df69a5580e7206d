/-
  Texts of the proof, put together: SuPa, SuAw.
-/
import Derived.Test.YtobplffailbkbaaG36
import Derived.Test.YtobplffailbkbaaG41
import Derived.Test.YtobplffailbkbaaG42
import Derived.Test.YtobplffailbkbaaG44
import Derived.Test.YtobplffailbkbaaG45
import Derived.Test.YtobplffailbkbaaG28

/-
  Two tokens as one: the project's Paste, walked.
-/
namespace Go.Proofs.Ytobplffailbkbaa
open Go.RowKit Go.Maps

def zeroX : Xt := ⟨0, ⟨#[]⟩, false, ⟨#[]⟩, 0, 0, false, []⟩
/-- The token, and whether there is one. -/
def pasteL (a b : Xt) : Xt × Bool := match joinL a b with
  | some u => (u, true)
  | none => (zeroX, false)
def PastePost (W : World) (a b : Xt) (e : Ending) (w' : World) : Prop := ∃ a1 n1 c1, e = .returned (.tuple #[tokA (pasteL a b).1 (.slice a1 n1 c1), .bool (pasteL a b).2]) ∧ SitsA (pasteL a b).1.ss (.slice a1 n1 c1) w' ∧ Below W.heap.size W w'
theorem join_paste {W w' : World} {a b : Xt} {sa : Option Addr} {sn sc : Nat} {e : Ending} (h : JoinPost W a b (.slice sa sn sc) e w') (hs : SitsA a.ss (.slice sa sn sc) W) : PastePost W a b e w' := by
  unfold PastePost pasteL
  obtain ⟨h, hb⟩ := h
  cases hj : joinL a b with
  | none =>
    rw [hj] at h
    exact ⟨none, 0, 0, h, sits_nil _, hb⟩
  | some u =>
    rw [hj] at h
    have hu : u.ss = a.ss := by
      unfold joinL at hj
      rw [Option.map_eq_some_iff] at hj
      obtain ⟨k, -, rfl⟩ := hj
      rfl
    exact ⟨sa, sn, sc, h, by show SitsA u.ss _ _; rw [hu]; exact hs.over hb, hb⟩
theorem pasteL_ss (a b : Xt) : (pasteL a b).1.ss.length ≤ a.ss.length := by
  unfold pasteL
  cases hj : joinL a b with
  | none => exact Nat.zero_le _
  | some u =>
    unfold joinL at hj
    rw [Option.map_eq_some_iff] at hj
    obtain ⟨k, -, rfl⟩ := hj
    exact Nat.le_refl _

/-- The result's box, and the new token's. -/
structure Box4 (W : World) (r m : Nat) (u : Xt) (sv : Value) (w : World) : Prop where
  res : w.heap[r]? = some (.cells #[.int .i64 0, .string ⟨#[]⟩, .bool false, .string ⟨#[]⟩, .int .i64 0, .int .i64 0, .bool false, .slice none 0 0] 26 (0, 0))
  box : w.heap[m]? = some (.cells #[.int .i64 u.k, .string u.x, .bool u.sp, .string u.g, .int .i64 u.f, .int .i64 u.t, .bool u.d, sv] 26 (0, 0))
  ne : m ≠ r
  low : Below W.heap.size W w
  hm : W.heap.size ≤ m
  hr : W.heap.size ≤ r
theorem Box4.over {W : World} {r m : Nat} {u : Xt} {sv : Value} {w w' : World} (h : Box4 W r m u sv w) (b : Below w.heap.size w w') : Box4 W r m u sv w' :=
  ⟨(b.block _ (row_lt h.res)).trans h.res, (b.block _ (row_lt h.box)).trans h.box, h.ne, below_up h.low b, h.hm, h.hr⟩
theorem Box4.set {W : World} {r m : Nat} {u : Xt} {sv : Value} {w : World} (h : Box4 W r m u sv w) (v : Value) : Box4 W r m u v (w.setCell ⟨m, 7, none⟩ v) :=
  ⟨(heap_setCell_other _ _ _ _ (Ne.symm h.ne)).trans h.res, (heap_setCell_same _ _ 7 _ _ _ h.box).trans rfl, h.ne, h.low.setCell (p := ⟨m, 7, none⟩) h.hm _, h.hm, h.hr⟩
theorem Box4.cells {W : World} {r m : Nat} {u : Xt} {sv : Value} {w : World} (h : Box4 W r m u sv w) : (w.cell? ⟨m, 0, none⟩ = some (.int .i64 u.k) ∧ w.cell? ⟨m, 1, none⟩ = some (.string u.x) ∧ w.cell? ⟨m, 2, none⟩ = some (.bool u.sp) ∧ w.cell? ⟨m, 3, none⟩ = some (.string u.g) ∧ w.cell? ⟨m, 4, none⟩ = some (.int .i64 u.f) ∧ w.cell? ⟨m, 5, none⟩ = some (.int .i64 u.t) ∧ w.cell? ⟨m, 6, none⟩ = some (.bool u.d) ∧ w.cell? ⟨m, 7, none⟩ = some sv) ∧
    (w.cell? ⟨r, 0, none⟩ = some (.int .i64 0) ∧ w.cell? ⟨r, 1, none⟩ = some (.string ⟨#[]⟩) ∧ w.cell? ⟨r, 2, none⟩ = some (.bool false) ∧ w.cell? ⟨r, 3, none⟩ = some (.string ⟨#[]⟩) ∧ w.cell? ⟨r, 4, none⟩ = some (.int .i64 0) ∧ w.cell? ⟨r, 5, none⟩ = some (.int .i64 0) ∧ w.cell? ⟨r, 6, none⟩ = some (.bool false) ∧ w.cell? ⟨r, 7, none⟩ = some (.slice none 0 0)) ∧ (∀ j, w.frozen? ⟨r, j, none⟩ = false) ∧ ∀ j, w.frozen? ⟨m, j, none⟩ = false :=
  ⟨cells8 h.box, cells8 h.res, fun _ => Lib.frozen_of_heap h.res _, fun _ => Lib.frozen_of_heap h.box _⟩

theorem SitsA.offq {S : List Xs} {v : Value} {w X : World} (h : SitsA S v w) {q : Nat} (hg : OffG q v) (hf : ∀ g, g ≠ q → X.heap[g]? = w.heap[g]?) (hs : X.heap.size = w.heap.size) : SitsA S v X := by
  obtain ⟨a, cap, hv, h1, h2, h3⟩ := h
  refine ⟨a, cap, hv, h1, h2, fun k s hk => ?_⟩
  obtain ⟨b, o, ha, hb, c0, c1, c2, c3, c4⟩ := h3 k s hk
  have hne : b ≠ q := hg ⟨b, o, none⟩ S.length cap (by rw [hv, ha]) (by have := (List.getElem?_eq_some_iff.1 hk).1; omega)
  have ho : ∀ i, X.cell? ⟨b, i, none⟩ = w.cell? ⟨b, i, none⟩ := fun i => World.cell?_of_block (hf b hne)
  exact ⟨b, o, ha, by rw [hs]; exact hb, (ho _).trans c0, (ho _).trans c1, (ho _).trans c2, (ho _).trans c3, (ho _).trans c4⟩

set_option maxRecDepth 100000 in
set_option maxHeartbeats 6400000 in
theorem spaste11_any (a b : Xt) (sa : Option Addr) (sn sc : Nat) (bv : Option Addr) (bn bc : Nat) (W : World) (ha : SitsA a.ss (.slice sa sn sc) W) (hs : a.x.size + b.x.size ≤ 100000) (hS : a.ss.length ≤ 500000) : Calls Try.prog 9 #[tokA a (.slice sa sn sc), tokA b (.slice bv bn bc)] W (PastePost W a b) := by
  have hlow := below_three W (.cells #[.int .i64 a.k, .string a.x, .bool a.sp, .string a.g, .int .i64 a.f, .int .i64 a.t, .bool a.d, .slice sa sn sc] 26) (.cells #[.int .i64 b.k, .string b.x, .bool b.sp, .string b.g, .int .i64 b.f, .int .i64 b.t, .bool b.d, .slice bv bn bc] 26) (.cells #[.int .i64 0, .string ⟨#[]⟩, .bool false, .string ⟨#[]⟩, .int .i64 0, .int .i64 0, .bool false, .slice none 0 0] 26)
  have HBX := Lib.hid (fun (w : World) (h : Below (W.heap.size + 1 + 1 + 1) (((W.alloc (.cells #[.int .i64 a.k, .string a.x, .bool a.sp, .string a.g, .int .i64 a.f, .int .i64 a.t, .bool a.d, .slice sa sn sc] 26)).alloc (.cells #[.int .i64 b.k, .string b.x, .bool b.sp, .string b.g, .int .i64 b.f, .int .i64 b.t, .bool b.d, .slice bv bn bc] 26)).alloc (.cells #[.int .i64 0, .string ⟨#[]⟩, .bool false, .string ⟨#[]⟩, .int .i64 0, .int .i64 0, .bool false, .slice none 0 0] 26)) w) => box3_next W a (.slice sa sn sc) _ h)
  have HJ : Hid (∀ X : World, Below W.heap.size W X → Calls Try.prog 21 #[tokA a (.slice sa sn sc), tokA b (.slice bv bn bc)] X (PastePost X a b)) := Lib.hid (fun X hX => (joined_any2 a b sa sn sc bv bn bc X hs).mono fun e w' h => join_paste h (ha.over hX))
  have HLW := Lib.hid hlow
  have HPL := Lib.hid (pasteL_ss a b)
  have HS := Lib.hid hS
  unfold PastePost at HJ ⊢
  obtain ⟨p, hp⟩ : ∃ p, pasteL a b = p := ⟨_, rfl⟩
  rw [hp] at HJ HPL ⊢
  obtain ⟨u, ok⟩ := p
  simp only at HJ HPL ⊢
  clear hlow ha hs hS hp
  go_enter Try.func9, Try.ntmps9
  go_wp2_with (first
    | (go_at_call 21; (with_reducible refine (HJ.out _ HLW.out).mono ?_); rintro e w1 ⟨a1, n1, c1, rfl, hs1, hb1⟩; have HX1 := Lib.hid (HBX.out w1 (by simpa using hb1)); have HCL := Lib.hid (fun (X : World) (hX : Below w1.heap.size w1 X) => cloneSits_any (hs1.over hX) (Nat.le_trans HPL.out HS.out)); clear hs1 hb1)
    | (go_at_call 22; (with_reducible refine (HCL.out _ ((Below.refl _ _).alloc (Nat.le_refl _) _)).mono ?_); rintro e w2 ⟨a2, n2, c2, rfl, hs2, hb2, ho2⟩; (obtain ⟨hm, m0, m1, m2, m3, m4, m5, m6, m7, mf, hml, hmb⟩ := made8 hb2); have HB4 : Hid (Box4 W (W.heap.size + 1 + 1) w1.heap.size u (.slice a1 n1 c1) w2) := Lib.hid ⟨(hmb.block _ HX1.out.big).trans HX1.out.res, hm, Nat.ne_of_gt HX1.out.big, below_up HX1.out.low hmb, Nat.le_of_lt (Nat.lt_of_le_of_lt (by omega) HX1.out.big), by omega⟩; have HO2 : Hid (OffG (W.heap.size + 1 + 1) (.slice a2 n2 c2)) := Lib.hid (ho2 _ (by have := HX1.out.big; simp; omega)); have HS2 := Lib.hid (hs2.set (ho2 w1.heap.size (by simp)) 7 (.slice a2 n2 c2)); have HB5 := Lib.hid (HB4.out.set (.slice a2 n2 c2)); (obtain ⟨⟨y0, y1, y2, y3, y4, y5, y6, y7⟩, ⟨z0, z1, z2, z3, z4, z5, z6, z7⟩, zf, -⟩ := HB5.out.cells); clear hs2 hb2 ho2 hm hml hmb m0 m1 m2 m3 m4 m5 m6))
  obtain ⟨X, hX, ⟨x0, x1, x2, x3, x4, x5, x6, x7⟩, hB, -, hfar, hsz⟩ := st8_done HB5.out.res HB5.out.low HB5.out.hr (.int .i64 u.k) (.string u.x) (.bool u.sp) (.string u.g) (.int .i64 u.f) (.int .i64 u.t) (.bool u.d) (.slice a2 n2 c2)
  rw [hX]
  exact bodyPost_ret (v := .tuple #[tokA u (.slice a2 n2 c2), .bool ok]) (by simp [results, Try.results9, go_sem, x0, x1, x2, x3, x4, x5, x6, x7]) rfl ⟨a2, n2, c2, rfl, HS2.out.offq HO2.out hfar hsz, hB⟩

end Go.Proofs.Ytobplffailbkbaa

/-
  What the document fixes of bodies, walked.
-/
namespace Go.Proofs.Ytobplffailbkbaa
open Go.RowKit Go.Maps

theorem rowsX_two {T U : List Xt} {a b : Option Addr} {n c n' c' : Nat} {w : World} {E : TypeId} (hT : ToksX T (.slice a n c) w) (hU : ToksX U (.slice b n' c') w) (ha : a = none → c = 0) (hb : b = none → c' = 0) : RowsX [T, U] (.slice (some ⟨w.heap.size, 0, none⟩) 2 2) (w.alloc (.cells #[.slice a n c, .slice b n' c'] E)) := by
  have hB : Below w.heap.size w (w.alloc (.cells #[.slice a n c, .slice b n' c'] E)) := (Below.refl _ _).alloc (Nat.le_refl _) _
  have hh := heap_alloc_new w (.cells #[.slice a n c, .slice b n' c'] E)
  refine ⟨_, _, rfl, Nat.le_refl _, by unfold maxLen; omega, (fun e => by cases e), fun k V hk => ⟨w.heap.size, 0, rfl, by simp, ?_⟩⟩
  match k, hk with
  | 0, hk =>
    cases hk
    exact ⟨a, n, c, by rw [Lib.cell_of_heap hh]; rfl, ha, hT.over hB⟩
  | 1, hk =>
    cases hk
    exact ⟨b, n', c', by rw [Lib.cell_of_heap hh]; rfl, hb, hU.over hB⟩
  | k + 2, hk => simp at hk
theorem toksX_some {t : Xt} {T : List Xt} {a : Option Addr} {n c : Nat} {w : World} (h : ToksX (t :: T) (.slice a n c) w) : a = none → c = 0 := by
  obtain ⟨g, o, x, y, z, rfl, -⟩ := h.get (k := 0) rfl
  intro e
  cases e
theorem bools_new (w : World) (b c : Bool) : Bools (w.alloc (.cells #[.bool b, .bool c] 4)) w.heap.size [b, c] := ⟨_, heap_alloc_new w _, rfl⟩
def aw11S : Xs := ⟨⟨#[70]⟩, ⟨#[]⟩, 0, 0, false⟩
def aw11X (x : ByteArray) : Xt := ⟨0, x, false, ⟨#[]⟩, 0, 0, false, []⟩
theorem aw11_fit : PartsFit (partL aw11M aw11A aw11B [aw11S]) := ⟨by decide +kernel, by decide +kernel, by decide +kernel, by decide +kernel⟩
theorem aw11_in {W : World} {pv bv rv fv : Value} (hm : MacAt aw11M pv bv W) (hr : RowsX aw11A rv W) (hf : RowsX aw11B fv W) : BodyIn W aw11M aw11A aw11B pv bv rv fv :=
  ⟨hm, hr, hf, ⟨by decide +kernel, by decide +kernel⟩, by decide +kernel, ⟨by decide +kernel, by decide +kernel, by decide +kernel, by decide +kernel⟩, ⟨by decide +kernel, by decide +kernel, by decide +kernel, by decide +kernel⟩⟩
theorem aw11_p1 : (pasteL (aw11X ⟨#[60]⟩) (aw11X ⟨#[60, 61]⟩)) = (⟨5, ⟨#[60, 60, 61]⟩, false, ⟨#[]⟩, 0, 0, true, []⟩, true) := by kernel_rfl
theorem aw11_p2 : (pasteL (aw11X ⟨#[97]⟩) (aw11X ⟨#[43]⟩)) = (zeroX, false) := by kernel_rfl
theorem aw11_w : wantsL aw11M = ([true, true], [false, true]) := by kernel_rfl

set_option maxRecDepth 100000 in
set_option maxHeartbeats 12800000 in
theorem awake11_any (W : World) : Calls Try.prog 8 #[] W (TruePost W) := by
  have T1 : Hid (∀ X : World, Calls Try.prog 12 #[.string ⟨#[70, 40, 97, 44, 98, 41, 32, 97, 35, 35, 98, 32, 35, 97, 32, 98]⟩] X (ToksNew X (lexT ⟨#[70, 40, 97, 44, 98, 41, 32, 97, 35, 35, 98, 32, 35, 97, 32, 98]⟩))) := Lib.hid (fun X => lexed9_any _ X (by decide))
  have T2 : Hid (∀ X : World, Calls Try.prog 12 #[.string ⟨#[120]⟩] X (ToksNew X (lexT ⟨#[120]⟩))) := Lib.hid (fun X => lexed9_any _ X (by decide))
  have T3 : Hid (∀ X : World, Calls Try.prog 12 #[.string ⟨#[49]⟩] X (ToksNew X (lexT ⟨#[49]⟩))) := Lib.hid (fun X => lexed9_any _ X (by decide))
  have T4 : Hid (∀ X : World, Calls Try.prog 12 #[.string ⟨#[88]⟩] X (ToksNew X (lexT ⟨#[88]⟩))) := Lib.hid (fun X => lexed9_any _ X (by decide))
  have T5 : Hid (∀ X : World, Calls Try.prog 12 #[.string ⟨#[50]⟩] X (ToksNew X (lexT ⟨#[50]⟩))) := Lib.hid (fun X => lexed9_any _ X (by decide))
  have P1 : Hid (∀ (X : World) (a : Option Addr) (n c : Nat), ToksX (lexT ⟨#[70, 40, 97, 44, 98, 41, 32, 97, 35, 35, 98, 32, 35, 97, 32, 98]⟩) (.slice a n c) X → Calls Try.prog 13 #[.slice a n c] X (fun e w' => ∃ pa pn pc ba bn bc, e = .returned (.tuple #[.agg #[.string ⟨#[70]⟩, .bool true, .bool false, .slice pa pn pc, .slice ba bn bc, .string fB, .int .i64 0, .int .i64 1], .slice none 0 0]) ∧ MacAt aw11M (.slice pa pn pc) (.slice ba bn bc) w' ∧ Below X.heap.size X w')) := Lib.hid (fun X a n c h => (rparse_any h aw11_p rfl rfl (by simp [aw11M]) (by simp [aw11M]) (by rw [aw11_t]; decide)).mono fun e w' h => by
    obtain ⟨pv, bv, he, hm, hb⟩ := h
    obtain ⟨pa, pn, pc, rfl⟩ := hm.1.form
    obtain ⟨ba, bn, bc, rfl⟩ := hm.2.form
    exact ⟨pa, pn, pc, ba, bn, bc, he, hm, hb⟩)
  have M1 : Hid (∀ (X : World) (pa : Option Addr) (pn pc : Nat) (ba : Option Addr) (bn bc : Nat), MacAt aw11M (.slice pa pn pc) (.slice ba bn bc) X → Calls Try.prog 15 #[.agg #[.string ⟨#[70]⟩, .bool true, .bool false, .slice pa pn pc, .slice ba bn bc, .string fB, .int .i64 0, .int .i64 1]] X (fun e w' => e = .returned (.agg #[.string ⟨#[70]⟩, .bool true, .bool false, .slice pa pn pc, .slice ba bn bc, .string fB, .int .i64 0, .int .i64 1]) ∧ Below X.heap.size X w')) := Lib.hid (fun X pa pn pc ba bn bc h => made11_any h)
  have B1 : Hid (∀ (X : World) (pa : Option Addr) (pn pc : Nat) (ba : Option Addr) (bn bc : Nat) (rv fv : Value), MacAt aw11M (.slice pa pn pc) (.slice ba bn bc) X → RowsX aw11A rv X → RowsX aw11B fv X → Calls Try.prog 14 #[.agg #[.string ⟨#[70]⟩, .bool true, .bool false, .slice pa pn pc, .slice ba bn bc, .string fB, .int .i64 0, .int .i64 1], rv, fv, .agg #[.string ⟨#[70]⟩, .string ⟨#[]⟩, .int .i64 0, .int .i64 0, .bool false], .slice none 0 0] X (fun e w' => ∃ a n c fa fc da dc, e = .returned (.tuple #[.slice a n c, .slice fa 3 fc, .slice da 0 dc]) ∧ ToksX (bodyL aw11M aw11A aw11B [aw11S]).1 (.slice a n c) w' ∧ Below X.heap.size X w')) := Lib.hid (fun X pa pn pc ba bn bc rv fv hm hr hf => (body_any (aw11_in hm hr hf) aw11S aw11_fit).mono fun e w' h => by
    obtain ⟨V, a, n, c, fa, fc, da, dc, he, hn, hx, -, -, hb⟩ := h
    rw [(aw11_b aw11S).1.2, (aw11_b aw11S).2] at he
    exact ⟨a, n, c, fa, fc, da, dc, he, hx, hb⟩)
  have X1 : Hid (∀ (X : World) (v : Value), ToksX (bodyL aw11M aw11A aw11B [aw11S]).1 v X → Calls Try.prog 19 #[v] X (fun e w' => e = .returned (.string ⟨#[120, 49, 32, 34, 120, 34, 32, 50]⟩) ∧ X = w')) := Lib.hid (fun X v h => by
    have := text9_any h (by rw [(aw11_b aw11S).1.1]; decide)
    rw [(aw11_b aw11S).1.1] at this
    exact this)
  have S1 : Hid (∀ X : World, Calls Try.prog 9 #[.agg #[.int .i64 0, .string ⟨#[60]⟩, .bool false, .string ⟨#[]⟩, .int .i64 0, .int .i64 0, .bool false, .slice none 0 0], .agg #[.int .i64 0, .string ⟨#[60, 61]⟩, .bool false, .string ⟨#[]⟩, .int .i64 0, .int .i64 0, .bool false, .slice none 0 0]] X (fun e w' => ∃ a n c, e = .returned (.tuple #[.agg #[.int .i64 5, .string ⟨#[60, 60, 61]⟩, .bool false, .string ⟨#[]⟩, .int .i64 0, .int .i64 0, .bool true, .slice a n c], .bool true]) ∧ Below X.heap.size X w')) := Lib.hid (fun X => (spaste11_any (aw11X ⟨#[60]⟩) (aw11X ⟨#[60, 61]⟩) none 0 0 none 0 0 X (sits_nil X) (by decide) (by decide)).mono fun e w' h => by
    obtain ⟨a, n, c, he, -, hb⟩ := h
    rw [aw11_p1] at he
    exact ⟨a, n, c, he, hb⟩)
  have S2 : Hid (∀ X : World, Calls Try.prog 9 #[.agg #[.int .i64 0, .string ⟨#[97]⟩, .bool false, .string ⟨#[]⟩, .int .i64 0, .int .i64 0, .bool false, .slice none 0 0], .agg #[.int .i64 0, .string ⟨#[43]⟩, .bool false, .string ⟨#[]⟩, .int .i64 0, .int .i64 0, .bool false, .slice none 0 0]] X (fun e w' => ∃ a n c, e = .returned (.tuple #[.agg #[.int .i64 0, .string ⟨#[]⟩, .bool false, .string ⟨#[]⟩, .int .i64 0, .int .i64 0, .bool false, .slice a n c], .bool false]) ∧ Below X.heap.size X w')) := Lib.hid (fun X => (spaste11_any (aw11X ⟨#[97]⟩) (aw11X ⟨#[43]⟩) none 0 0 none 0 0 X (sits_nil X) (by decide) (by decide)).mono fun e w' h => by
    obtain ⟨a, n, c, he, -, hb⟩ := h
    rw [aw11_p2] at he
    exact ⟨a, n, c, he, hb⟩)
  have W1 : Hid (∀ (X : World) (pa : Option Addr) (pn pc : Nat) (ba : Option Addr) (bn bc : Nat), MacAt aw11M (.slice pa pn pc) (.slice ba bn bc) X → Calls Try.prog 18 #[.agg #[.string ⟨#[70]⟩, .bool true, .bool false, .slice pa pn pc, .slice ba bn bc, .string fB, .int .i64 0, .int .i64 1]] X (fun e w' => ∃ g1 g2, e = .returned (.tuple #[.slice (some ⟨g1, 0, none⟩) 2 2, .slice (some ⟨g2, 0, none⟩) 2 2]) ∧ Bools w' g1 [true, true] ∧ Bools w' g2 [false, true] ∧ Below X.heap.size X w')) := Lib.hid (fun X pa pn pc ba bn bc h => (wants_any h (by decide +kernel) ⟨by decide +kernel, by decide +kernel⟩ (by decide +kernel)).mono fun e w' h => by
    obtain ⟨g1, g2, n1, n2, he, rfl, rfl, h1, h2, hb⟩ := h
    rw [aw11_w] at h1 h2
    exact ⟨g1, g2, he, h1, h2, hb⟩)
  have Y1 : Hid (∀ (X : World) (g g' : Nat) (L : List Bool), Bools X g L → Bools X g' L → L.length = 2 → Calls Try.prog 20 #[.slice (some ⟨g, 0, none⟩) 2 2, .slice (some ⟨g', 0, none⟩) 2 2] X (TruePost X)) := Lib.hid (fun X g g' L h h' hl => same11_yes h h' hl.symm ⟨by omega, by omega⟩ ⟨by omega, by omega⟩)
  go_enter Try.func8, Try.ntmps8
  go_wp2_with (first
    | (go_at_call 12; first
        | ((with_reducible refine (T1.out _).mono ?_); rintro e w1 ⟨a1, n1, c1, rfl, hn, hx, hb⟩; have HX1 := Lib.hid hx; have HB1 := Lib.hid hb; clear hx hb hn)
        | ((with_reducible refine (T2.out _).mono ?_); rintro e w4 ⟨a4, n4, c4, rfl, hn, hx, hb⟩; rw [aw11_x] at hx; have HX4 := Lib.hid hx; have HB4 := Lib.hid (below_up HB3.out hb); have HM4 := Lib.hid (HM3.out.over hb); have HQ4 := Lib.hid ((hb.block _ (row_lt HQ3.out)).trans HQ3.out); clear hx hb hn)
        | ((with_reducible refine (T3.out _).mono ?_); rintro e w5 ⟨a5, n5, c5, rfl, hn, hx, hb⟩; rw [aw11_1] at hx; have HX5 := Lib.hid hx; have HB5 := Lib.hid (below_up HB4.out hb); have HM5 := Lib.hid (HM4.out.over hb); have HQ5 := Lib.hid ((hb.block _ (row_lt HQ4.out)).trans HQ4.out); have HR5 : Hid (RowsX aw11A (.slice (some ⟨w5.heap.size, 0, none⟩) 2 2) (w5.alloc (.cells #[.slice a4 n4 c4, .slice a5 n5 c5] 28))) := Lib.hid (rowsX_two (HX4.out.over hb) hx (toksX_some HX4.out) (toksX_some hx)); clear hx hb hn)
        | ((with_reducible refine (T4.out _).mono ?_); rintro e w6 ⟨a6, n6, c6, rfl, hn, hx, hb⟩; rw [aw11_X] at hx; have HX6 := Lib.hid hx; have HR6 := Lib.hid (HR5.out.over hb); have hb := below_up ((Below.refl w5.heap.size w5).alloc (Nat.le_refl _) _) hb; have HB6 := Lib.hid (below_up HB5.out hb); have HM6 := Lib.hid (HM5.out.over hb); have HQ6 := Lib.hid ((hb.block _ (row_lt HQ5.out)).trans HQ5.out); clear hx hb hn)
        | ((with_reducible refine (T5.out _).mono ?_); rintro e w7 ⟨a7, n7, c7, rfl, hn, hx, hb⟩; rw [aw11_2] at hx; have HX7 := Lib.hid hx; have HB7 := Lib.hid (below_up HB6.out hb); have HM7 := Lib.hid (HM6.out.over hb); have HQ7 := Lib.hid ((hb.block _ (row_lt HQ6.out)).trans HQ6.out); have HR7 := Lib.hid (HR6.out.over hb); have HF7 : Hid (RowsX aw11B (.slice (some ⟨w7.heap.size, 0, none⟩) 2 2) (w7.alloc (.cells #[.slice a6 n6 c6, .slice a7 n7 c7] 28))) := Lib.hid (rowsX_two (HX6.out.over hb) hx (toksX_some HX6.out) (toksX_some hx)); clear hx hb hn))
    | (go_at_call 13; (with_reducible refine (P1.out _ _ _ _ HX1.out).mono ?_); rintro e w2 ⟨pa, pn, pc, ba, bn, bc, rfl, hm, hb⟩; have HM2 := Lib.hid hm; have HB2 := Lib.hid (below_up HB1.out hb); clear hm hb)
    | (go_at_call 15; first
        | ((with_reducible refine (M1.out _ _ _ _ _ _ _ (HM10.out.over ((Below.refl w10.heap.size w10).alloc (Nat.le_refl _) _))).mono ?_); rintro e w11 ⟨rfl, hb⟩; have hb := below_up ((Below.refl w10.heap.size w10).alloc (Nat.le_refl _) _) hb; have HB11 := Lib.hid (below_up HB10.out hb); have HM11 := Lib.hid (HM10.out.over hb); have HX11 := Lib.hid (HX10.out.over hb); have HT11 := Lib.hid ((hb.block _ (row_lt HT10.out)).trans HT10.out); clear hb)
        | ((with_reducible refine (M1.out _ _ _ _ _ _ _ (HM2.out.over ((Below.refl w2.heap.size w2).alloc (Nat.le_refl _) _))).mono ?_); rintro e w3 ⟨rfl, hb⟩; have HQ3 := Lib.hid ((hb.block w2.heap.size (by simp)).trans (heap_alloc_new w2 (.cells #[.string ⟨#[70]⟩, .bool true, .bool false, .slice pa pn pc, .slice ba bn bc, .string fB, .int .i64 0, .int .i64 1] 38))); have hb := below_up ((Below.refl w2.heap.size w2).alloc (Nat.le_refl _) _) hb; have HB3 := Lib.hid (below_up HB2.out hb); have HM3 := Lib.hid (HM2.out.over hb); clear hb))
    | (go_at_call 14; (with_reducible refine (B1.out _ _ _ _ _ _ _ _ _ (HM7.out.over ((Below.refl w7.heap.size w7).alloc (Nat.le_refl _) _)) (HR7.out.over ((Below.refl w7.heap.size w7).alloc (Nat.le_refl _) _)) HF7.out).mono ?_); rintro e w8 ⟨la, ln, lc, oa, oc, da, dc, rfl, hx, hb⟩; have HX8 := Lib.hid hx; have hb := below_up ((Below.refl w7.heap.size w7).alloc (Nat.le_refl _) _) hb; have HB8 := Lib.hid (below_up HB7.out hb); have HM8 := Lib.hid (HM7.out.over hb); have HQ8 := Lib.hid ((hb.block _ (row_lt HQ7.out)).trans HQ7.out); clear hx hb)
    | (go_at_call 9; first
        | ((with_reducible refine (S1.out _).mono ?_); rintro e w9 ⟨ta, tn, tc, rfl, hb⟩; have HB9 := Lib.hid (below_up HB8.out hb); have HM9 := Lib.hid (HM8.out.over hb); have HQ9 := Lib.hid ((hb.block _ (row_lt HQ8.out)).trans HQ8.out); have HX9 := Lib.hid (HX8.out.over hb); clear hb)
        | ((with_reducible refine (S2.out _).mono ?_); rintro e w10 ⟨ua, un, uc, rfl, hb⟩; have HT10 := Lib.hid ((hb.block w9.heap.size (by simp)).trans (heap_alloc_new w9 (.cells #[.int .i64 5, .string ⟨#[60, 60, 61]⟩, .bool false, .string ⟨#[]⟩, .int .i64 0, .int .i64 0, .bool true, .slice ta tn tc] 26))); have hb := below_up ((Below.refl w9.heap.size w9).alloc (Nat.le_refl _) _) hb; have HB10 := Lib.hid (below_up HB9.out hb); have HM10 := Lib.hid (HM9.out.over hb); have HQ10 := Lib.hid ((hb.block _ (row_lt HQ9.out)).trans HQ9.out); have HX10 := Lib.hid (HX9.out.over hb); (obtain ⟨q0, q1, q2, q3, q4, q5, q6, q7⟩ := cells8 ((((Below.refl w10.heap.size w10).alloc (Nat.le_refl _) (.cells #[.int .i64 0, .string ⟨#[]⟩, .bool false, .string ⟨#[]⟩, .int .i64 0, .int .i64 0, .bool false, .slice ua un uc] 26)).block _ (row_lt HQ10.out)).trans HQ10.out)); clear hb))
    | (go_at_call 18; (with_reducible refine (W1.out _ _ _ _ _ _ _ HM11.out).mono ?_); rintro e w12 ⟨g1, g2, rfl, h1, h2, hb⟩; have HBA12 := Lib.hid h1; have HBC12 := Lib.hid h2; have HB12 := Lib.hid (below_up HB11.out hb); have HX12 := Lib.hid (HX11.out.over hb); have HT12 := Lib.hid ((hb.block _ (row_lt HT11.out)).trans HT11.out); (obtain ⟨t0, t1, t2, t3, t4, t5, t6, t7⟩ := cells8 HT12.out); clear h1 h2 hb q0 q1 q2 q3 q4 q5 q6 q7)
    | (go_at_call 19; (with_reducible refine (X1.out _ _ HX12.out).mono ?_); rintro e w' ⟨rfl, rfl⟩)
    | (go_at_call 20; first
        | ((with_reducible refine (Y1.out _ _ _ [true, true] (HBA12.out.over ((Below.refl w12.heap.size w12).alloc (Nat.le_refl _) _)) (bools_new w12 true true) rfl).mono ?_); rintro e w13 ⟨rfl, hb⟩; have hb := below_up ((Below.refl w12.heap.size w12).alloc (Nat.le_refl _) _) hb; have HBC13 := Lib.hid (HBC12.out.over hb); have HB13 := Lib.hid (below_up HB12.out hb); clear hb)
        | ((with_reducible refine (Y1.out _ _ _ [false, true] (HBC13.out.over ((Below.refl w13.heap.size w13).alloc (Nat.le_refl _) _)) (bools_new w13 false true) rfl).mono ?_); rintro e w14 ⟨rfl, hb⟩; have hb := below_up ((Below.refl w13.heap.size w13).alloc (Nat.le_refl _) _) hb; have HB14 := Lib.hid (below_up HB13.out hb); clear hb)))
  go_ret
  exact ⟨rfl, HB14.out⟩

end Go.Proofs.Ytobplffailbkbaa
