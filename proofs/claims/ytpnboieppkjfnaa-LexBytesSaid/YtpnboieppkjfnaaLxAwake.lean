/-
  awake of the law: what the document fixes.
-/
import Derived.Test.YtpnboieppkjfnaaLxAt
namespace Go.Proofs.Ytpnboieppkjfnaa
open Go.RowKit

def Aw1 (W : World) (e : Ending) (w : World) : Prop :=
  ∃ gl lc da dc gt tc, e = .returned (.tuple #[.slice (some ⟨gl, 0, none⟩) 1 lc, .slice da 0 dc]) ∧ Below W.heap.size W w ∧ gl < w.heap.size ∧ gt < w.heap.size ∧ 1 ≤ lc ∧ 4 ≤ tc ∧
    w.cell? ⟨gl, 0, none⟩ = some (.slice (some ⟨gt, 0, none⟩) 4 tc) ∧ w.cell? ⟨gt, 9, none⟩ = some (.string ⟨#[43, 43]⟩) ∧ w.cell? ⟨gt, 27, none⟩ = some (.string ⟨#[102]⟩) ∧ w.cell? ⟨gt, 28, none⟩ = some (.int .i64 4) ∧ w.cell? ⟨gt, 29, none⟩ = some (.int .i64 5)
theorem aw_lines1 (W : World) : Calls Try.prog 9 #[.string ⟨#[102]⟩, .string ⟨#[97, 43, 43, 43, 98, 10]⟩] W (Aw1 W) := by
  have h := lines_any ⟨#[102]⟩ ⟨#[97, 43, 43, 43, 98, 10]⟩ W (by decide) (by decide)
  rw [show (⟨#[97, 43, 43, 43, 98, 10]⟩ : ByteArray).size = 6 from rfl, aw_one] at h
  refine h.mono ?_
  rintro e w ⟨la, n, lc, da, m, dc, rfl, hn, hm, hl, hd⟩
  obtain rfl : n = 1 := hn
  obtain rfl : m = 0 := hm
  obtain ⟨a, cap, hv, c1, c2, hc⟩ := hl.at
  simp only [Value.slice.injEq] at hv
  obtain ⟨rfl, -, rfl⟩ := hv
  obtain ⟨gl, tv, rfl, hgl, k0, k1, k2, k3, ht⟩ := hc 0 _ rfl
  obtain ⟨ta, tc, rfl, t1, t2, htc⟩ := ht
  obtain ⟨gt, rfl, hgt, -, e1, -⟩ := htc 1 _ rfl
  obtain ⟨gt', hgt', -, -, -, -, e3, e4, e5, -⟩ := htc 3 _ rfl
  simp only [Option.some.injEq, Addr.mk.injEq, and_true] at hgt'
  subst hgt'
  exact ⟨gl, lc, da, dc, gt, tc, rfl, hl.low, hgl, hgt, c1, t1, k0, e1, e3, e4, e5⟩

def Aw2 (W : World) (e : Ending) (w : World) : Prop :=
  ∃ la lc gd dc, e = .returned (.tuple #[.slice la 1 lc, .slice (some ⟨gd, 0, none⟩) 1 dc]) ∧ Below W.heap.size W w ∧ gd < w.heap.size ∧ 1 ≤ dc ∧ w.cell? ⟨gd, 0, none⟩ = some (.int .i64 1)
theorem aw_lines2 (W : World) : Calls Try.prog 9 #[.string ⟨#[102]⟩, .string ⟨#[47, 42, 32, 120]⟩] W (Aw2 W) := by
  have h := lines_any ⟨#[102]⟩ ⟨#[47, 42, 32, 120]⟩ W (by decide) (by decide)
  rw [show (⟨#[47, 42, 32, 120]⟩ : ByteArray).size = 4 from rfl, aw_two] at h
  refine h.mono ?_
  rintro e w ⟨la, n, lc, da, m, dc, rfl, hn, hm, hl, hd⟩
  obtain rfl : n = 1 := hn
  obtain rfl : m = 1 := hm
  obtain ⟨a, cap, hv, c1, c2, hc⟩ := hd.at
  simp only [Value.slice.injEq] at hv
  obtain ⟨rfl, -, rfl⟩ := hv
  obtain ⟨gd, rfl, hgd, k0, -⟩ := hc 0 _ rfl
  exact ⟨la, lc, gd, dc, rfl, hl.low, hgd, c1, k0⟩

def Aw3 (v : Value) (W : World) (e : Ending) (w : World) : Prop := e = .returned v ∧ Below W.heap.size W w
theorem aw_one1 (W : World) : Calls Try.prog 16 #[.string ⟨#[60, 60, 61]⟩] W (Aw3 (.tuple #[.agg #[.int .i64 5, .string ⟨#[60, 60, 61]⟩, .bool false, .string ⟨#[]⟩, .int .i64 0, .int .i64 0, .bool false, .slice none 0 0], .bool true]) W) := by
  refine (one_any ⟨#[60, 60, 61]⟩ W (by decide)).mono ?_
  rintro e w ⟨h1, h2⟩
  rw [aw_lsh] at h1
  exact ⟨h1, h2⟩
theorem aw_one2 (W : World) : Calls Try.prog 16 #[.string ⟨#[97, 32, 98]⟩] W (Aw3 (.tuple #[.agg #[.int .i64 0, .string ⟨#[]⟩, .bool false, .string ⟨#[]⟩, .int .i64 0, .int .i64 0, .bool false, .slice none 0 0], .bool false]) W) := by
  refine (one_any ⟨#[97, 32, 98]⟩ W (by decide)).mono ?_
  rintro e w ⟨h1, h2⟩
  rw [aw_ab] at h1
  exact ⟨h1, h2⟩

def AwakePost (W : World) (e : Ending) (w' : World) : Prop := e = .returned (.bool true) ∧ Below W.heap.size W w'

theorem bcell {W w1 : World} (hb : Below W.heap.size W w1) {b o : Nat} {v : Value} (h : W.cell? ⟨b, o, none⟩ = some v) (hlt : b < W.heap.size) : w1.cell? ⟨b, o, none⟩ = some v := (hb.cell (p := ⟨b, o, none⟩) hlt).trans h

theorem bcell_al {W w1 : World} {o : Obj} (hb : Below (W.alloc o).heap.size (W.alloc o) w1) {b k : Nat} {v : Value} (h : W.cell? ⟨b, k, none⟩ = some v) (hlt : b < W.heap.size) : w1.cell? ⟨b, k, none⟩ = some v := by
  rw [hb.cell (p := ⟨b, k, none⟩) (by simp; omega)]
  exact (World.cell?_alloc_lt W o ⟨b, k, none⟩ hlt).trans h
theorem bcell_new {W w1 : World} {cs : Array Value} {T : TypeId} (hb : Below (W.alloc (.cells cs T)).heap.size (W.alloc (.cells cs T)) w1) {k : Nat} {v : Value} (h : cs[k]? = some v) : w1.cell? ⟨W.heap.size, k, none⟩ = some v := by
  rw [hb.cell (p := ⟨W.heap.size, k, none⟩) (by simp), Lib.cell_of_heap (heap_alloc_new W (.cells cs T))]
  exact h

set_option maxRecDepth 100000 in
set_option maxHeartbeats 3200000 in
theorem awake_any (W : World) : Calls Try.prog 8 #[] W (AwakePost W) := by
  go_enter Try.func8, Try.ntmps8
  go_wp2_with (first
    | (go_at_call 9; (with_reducible refine (aw_lines1 _).mono ?_); rintro e w1 ⟨gl, lc, da, dc, gt, tc, rfl, b1, hgl, hgt, hlc, htc, k0, k9, k27, k28, k29⟩; have B1 := Lib.hid b1; clear b1)
    | (go_at_call 16; (with_reducible refine (aw_one1 _).mono ?_); rintro e w2 ⟨rfl, b2⟩; have j0 := bcell b2 k0 hgl; have j9 := bcell b2 k9 hgt; have j27 := bcell b2 k27 hgt; have j28 := bcell b2 k28 hgt; have j29 := bcell b2 k29 hgt; have hz2 := b2.size; have B2 := Lib.hid (B1.out.trans (b2.mono B1.out.size)); clear b2 k0 k9 k27 k28 k29)
    | (go_at_call 16; (with_reducible refine (aw_one2 _).mono ?_); rintro e w3 ⟨rfl, b3⟩; have i0 := bcell_al b3 j0 (by omega); have i9 := bcell_al b3 j9 (by omega); have i27 := bcell_al b3 j27 (by omega); have i28 := bcell_al b3 j28 (by omega); have i29 := bcell_al b3 j29 (by omega); have i5 := bcell_new b3 (k := 0) (v := .int .i64 5) rfl; have hz3 := b3.size; simp at hz3; have B3 := Lib.hid (B2.out.trans (((Below.refl _ _).alloc (Nat.le_refl _) _ |>.trans (b3.mono (by simp))).mono B2.out.size)); clear b3 j0 j9 j27 j28 j29)
    | (go_at_call 9; (with_reducible refine (aw_lines2 _).mono ?_); rintro e w4 ⟨la4, lc4, gd, dc4, rfl, b4, hgd, hdc, kd⟩; have h0 := bcell_al b4 i0 (by omega); have h9 := bcell_al b4 i9 (by omega); have h27 := bcell_al b4 i27 (by omega); have h28 := bcell_al b4 i28 (by omega); have h29 := bcell_al b4 i29 (by omega); have h5 := bcell_al b4 i5 (by omega); have B4 := Lib.hid (B3.out.trans (((Below.refl _ _).alloc (Nat.le_refl _) _ |>.trans (b4.mono (by simp))).mono B3.out.size)); clear b4 i0 i9 i27 i28 i29 i5))
  go_ret
  exact ⟨rfl, B4.out⟩

end Go.Proofs.Ytpnboieppkjfnaa
