/-
  Texts of the proof, put together: McAw9.
-/
import Derived.Test.YtmghocfkekggaaaG39

/-
  What the document fixes of macros, walked.
-/
namespace Go.Proofs.Ytmghocfkekggaaa
open Go.RowKit Go.Maps

set_option maxRecDepth 100000 in
set_option maxHeartbeats 12800000 in
theorem awake9_any (W : World) : Calls Try.prog 8 #[] W (TruePost W) := by
  have T1 : Hid (∀ X : World, Calls Try.prog 20 #[.string ⟨#[70, 40, 97, 44, 98, 41, 32, 97, 32, 98]⟩] X (ToksNew X (lexT ⟨#[70, 40, 97, 44, 98, 41, 32, 97, 32, 98]⟩))) := Lib.hid (fun X => lexed9_any _ X (by decide))
  have T2 : Hid (∀ X : World, Calls Try.prog 20 #[.string ⟨#[70, 40, 97, 44, 97, 41, 32, 97]⟩] X (ToksNew X (lexT ⟨#[70, 40, 97, 44, 97, 41, 32, 97]⟩))) := Lib.hid (fun X => lexed9_any _ X (by decide))
  have T3 : Hid (∀ X : World, Calls Try.prog 20 #[.string ⟨#[70, 32, 97, 35, 35]⟩] X (ToksNew X (lexT ⟨#[70, 32, 97, 35, 35]⟩))) := Lib.hid (fun X => lexed9_any _ X (by decide))
  have P1 : Hid (∀ (X : World) (v : Value), ToksX (lexT ⟨#[70, 40, 97, 44, 98, 41, 32, 97, 32, 98]⟩) v X → Calls Try.prog 19 #[v] X (GoodPost X aw9M)) := Lib.hid (fun X v h => (parse_any h (by rw [aw9_one]; decide) (by rw [aw9_one]; simp [awX]) (by rw [aw9_one]; decide)).mono fun e w' h => by
    rw [aw9_p1] at h
    exact good_post h)
  have P2 : Hid (∀ (X : World) (v : Value), ToksX (lexT ⟨#[70, 40, 97, 44, 97, 41, 32, 97]⟩) v X → Calls Try.prog 19 #[v] X (RefusedAt X ⟨5, fB, 0, 1⟩)) := Lib.hid (fun X v h => (parse_any h (by rw [aw9_two]; decide) (by rw [aw9_two]; simp [awX]) (by rw [aw9_two]; decide)).mono fun e w' h => by
    rw [aw9_p2] at h
    exact h)
  have P3 : Hid (∀ (X : World) (v : Value), ToksX (lexT ⟨#[70, 32, 97, 35, 35]⟩) v X → Calls Try.prog 19 #[v] X (RefusedAt X ⟨5, fB, 3, 5⟩)) := Lib.hid (fun X v h => (parse_any h (by rw [aw9_three]; decide) (by rw [aw9_three]; simp [awX]) (by rw [aw9_three]; decide)).mono fun e w' h => by
    rw [aw9_p3] at h
    exact h)
  go_enter Try.func8, Try.ntmps8
  go_wp2_with (first
    | (go_at_call 20; first
        | ((with_reducible refine (T1.out _).mono ?_); rintro e w1 ⟨a1, n1, c1, rfl, hn, hx, hb⟩; have HX1 := Lib.hid hx; have HB1 := Lib.hid hb; clear hx hb hn)
        | ((with_reducible refine (T2.out _).mono ?_); rintro e w3 ⟨a3, n3, c3, rfl, hn, hx, hb⟩; have HX3 := Lib.hid hx; have HB3 := Lib.hid (below_up (HB2.out.alloc HB2.out.size _) hb); have HQ3 := Lib.hid ((hb.block w2.heap.size (by simp)).trans (heap_alloc_new w2 _)); have HM3 := Lib.hid (HM2.out.over (below_up ((Below.refl w2.heap.size w2).alloc (Nat.le_refl _) _) hb)); clear hx hb hn)
        | ((with_reducible refine (T3.out _).mono ?_); rintro e w5 ⟨a5, n5, c5, rfl, hn, hx, hb⟩; have HX5 := Lib.hid hx; have HB45 := Lib.hid (below_up ((Below.refl w4.heap.size w4).alloc (Nat.le_refl _) _) hb); have HB5 := Lib.hid (below_up HB4.out HB45.out); clear hx hb hn))
    | (go_at_call 19; first
        | ((with_reducible refine (P1.out _ _ HX1.out).mono ?_); rintro e w2 ⟨pa, pn, pc, ba, bn, bc, rfl, hpn, hbn, hm, hb⟩; have HM2 := Lib.hid hm; have HB2 := Lib.hid (below_up HB1.out hb); (obtain rfl : pn = 2 := hpn); (obtain rfl : bn = 2 := hbn); clear hm hb)
        | ((with_reducible refine (P2.out _ _ HX3.out).mono ?_); rintro e w4 ⟨ge, rfl, hb, hge, hgl, hc, -, -, -⟩; have HB34 := Lib.hid hb; have HB4 := Lib.hid (below_up HB3.out hb); have HGL := Lib.hid hgl; have HGC := Lib.hid hc; clear hb hge hgl hc)
        | ((with_reducible refine (P3.out _ _ HX5.out).mono ?_); rintro e w6 ⟨gf, rfl, hb, hge, hgl, -, -, -, -⟩; have HB56 := Lib.hid hb; have HB6 := Lib.hid (below_up HB5.out hb); have HB46 := Lib.hid (below_up HB45.out hb); clear hb hge hgl)))
  have hB7 : Below W.heap.size W (w6.alloc (Obj.cells #[.string ⟨#[]⟩, .bool false, .bool false, .slice none 0 0, .slice none 0 0, .string ⟨#[]⟩, .int .i64 0, .int .i64 0] 38)) := HB6.out.alloc HB6.out.size _
  have h47 : Below w4.heap.size w4 (w6.alloc (Obj.cells #[.string ⟨#[]⟩, .bool false, .bool false, .slice none 0 0, .slice none 0 0, .string ⟨#[]⟩, .int .i64 0, .int .i64 0] 38)) := HB46.out.alloc HB46.out.size _
  obtain ⟨w7, hw7⟩ : ∃ w7, w6.alloc (Obj.cells #[.string ⟨#[]⟩, .bool false, .bool false, .slice none 0 0, .slice none 0 0, .string ⟨#[]⟩, .int .i64 0, .int .i64 0] 38) = w7 := ⟨_, rfl⟩
  rw [hw7] at hB7 h47 ⊢
  have h37 := below_up HB34.out h47
  obtain ⟨b1, hb1⟩ : ∃ b1, w2.heap.size = b1 := ⟨_, rfl⟩
  rw [hb1] at HQ3 ⊢
  have HQ7 : Hid (w7.heap[b1]? = some (mObj aw9M (.slice pa 2 pc) (.slice ba 2 bc))) := Lib.hid ((h37.block b1 (row_lt HQ3.out)).trans HQ3.out)
  have HM7 := Lib.hid (HM3.out.over h37)
  have HG7 : Hid (w7.cell? ⟨ge, 0, none⟩ = some (.int .i64 5) ∧ ge < w7.heap.size) := Lib.hid ⟨bcell h47 HGC.out HGL.out, Nat.lt_of_lt_of_le HGL.out h47.size⟩
  have HB7 := Lib.hid hB7
  clear hw7 hb1 hB7 h47 h37 HQ3 HM3 HGC HGL HB34 HB46 HB45 HB56 T1 T2 T3 P1 P2 P3 HX1 HX3 HX5 HB1 HB2 HB3 HB4 HB5 HB6 HM2
  (with_reducible refine (mnew_any _).mono ?_)
  rintro e w8 ⟨rfl, rfl⟩
  have hts := ts_new w7
  have hB8 : Below W.heap.size W (w7.alloc (tabObj none false)) := HB7.out.alloc HB7.out.size _
  have hQ8 := (Below.heap_alloc w7 (tabObj none false) b1 (row_lt HQ7.out)).trans HQ7.out
  have hM8 := HM7.out.over ((Below.refl w7.heap.size w7).alloc (Nat.le_refl _) (tabObj none false))
  have hG8 : (w7.alloc (tabObj none false)).cell? ⟨ge, 0, none⟩ = some (.int .i64 5) := bcell ((Below.refl w7.heap.size w7).alloc (Nat.le_refl _) (tabObj none false)) HG7.out.1 HG7.out.2
  have hp8 : W.heap.size ≤ w7.heap.size := HB7.out.size
  have hs8 : (w7.alloc (tabObj none false)).heap.size = w7.heap.size + 1 := by simp
  have hbp : b1 ≠ w7.heap.size := Nat.ne_of_lt (row_lt HQ7.out)
  have hgp : ge ≠ w7.heap.size := Nat.ne_of_lt HG7.out.2
  obtain ⟨V, hV⟩ : ∃ V, w7.alloc (tabObj none false) = V := ⟨_, rfl⟩
  obtain ⟨p, hp⟩ : ∃ p, w7.heap.size = p := ⟨_, rfl⟩
  rw [hV, hp] at hts
  rw [hV] at hB8 hQ8 hM8 hG8 hs8 ⊢
  rw [hp] at hp8 hs8 hbp hgp ⊢
  have HTS := Lib.hid hts
  have HB8 := Lib.hid hB8
  have HQ8 := Lib.hid hQ8
  have HM8 := Lib.hid hM8
  have HG8 : Hid (V.cell? ⟨ge, 0, none⟩ = some (.int .i64 5) ∧ ge < V.heap.size) := Lib.hid ⟨hG8, by have := HG7.out.2; omega⟩
  have HPW := Lib.hid hp8
  have D1 : Hid (∀ X : World, TS V p 0 (fun _ => none) X → Calls Try.prog 12 #[.pointer (some ⟨p, 0, none⟩), .agg #[.string aw9M.n, .bool aw9M.fn, .bool aw9M.va, .slice pa 2 pc, .slice ba 2 bc, .string aw9M.g, .int .i64 aw9M.f, .int .i64 aw9M.t]] X (fun e X' => e = .returned (.bool true) ∧ TS V p 1 (upd (fun _ => none) aw9M) X')) := Lib.hid (fun X hX => hX.define (HM8.out.turn hX.turned) (by omega) (by decide) (by decide) (by decide) (by decide))
  have D2 : Hid (∀ X : World, TS V p 1 (upd (fun _ => none) aw9M) X → Calls Try.prog 12 #[.pointer (some ⟨p, 0, none⟩), .agg #[.string aw9M.n, .bool aw9M.fn, .bool aw9M.va, .slice pa 2 pc, .slice ba 2 bc, .string aw9M.g, .int .i64 aw9M.f, .int .i64 aw9M.t]] X (fun e X' => e = .returned (.bool true) ∧ TS V p 2 (upd (upd (fun _ => none) aw9M) aw9M) X')) := Lib.hid (fun X hX => by
    have := hX.define (HM8.out.turn hX.turned) (by omega) (by decide) (by decide) (by decide) (by decide)
    rw [aw9_d2] at this
    exact this)
  have D3 : Hid (∀ X : World, TS V p 2 (upd (upd (fun _ => none) aw9M) aw9M) X → Calls Try.prog 12 #[.pointer (some ⟨p, 0, none⟩), .agg #[.string aw9M.n, .bool aw9M.fn, .bool aw9M.va, .slice pa 2 pc, .slice none 0 0, .string aw9M.g, .int .i64 aw9M.f, .int .i64 aw9M.t]] X (fun e X' => e = .returned (.bool false) ∧ TS V p 3 (upd (upd (upd (fun _ => none) aw9M) aw9M) aw9N) X')) := Lib.hid (fun X hX => by
    have := hX.define (m := aw9N) (pv := .slice pa 2 pc) (bv := .slice none 0 0) ⟨(HM8.out.turn hX.turned).1, toksX_nil X⟩ (by omega) (by decide) (by decide) (by decide) (by decide)
    rw [aw9_d3] at this
    exact this)
  clear hV hp hts hB8 hQ8 hM8 hG8 hp8 HQ7 HM7 HG7 HB7 hs8
  have HTSd : Hid (TS V p 0 (fun _ => none) V.drew) := Lib.hid (HTS.out.over (Below.refl _ _).drew)
  obtain ⟨⟨e0, e1, e2, e3, e4, e5, e6, e7⟩, -⟩ := mObj_cells HQ8.out
  have hbl := row_lt HQ8.out
  go_wp2
  go_region_held3 (fun w' => w'.cell? ⟨b1, 0, none⟩ = some (.string aw9M.n) ∧ w'.cell? ⟨b1, 1, none⟩ = some (.bool aw9M.fn) ∧ w'.cell? ⟨b1, 2, none⟩ = some (.bool aw9M.va) ∧ w'.cell? ⟨b1, 3, none⟩ = some (.slice pa 2 pc) ∧ w'.cell? ⟨b1, 4, none⟩ = some (.slice ba 2 bc) ∧ w'.cell? ⟨b1, 5, none⟩ = some (.string aw9M.g) ∧ w'.cell? ⟨b1, 6, none⟩ = some (.int .i64 aw9M.f) ∧ w'.cell? ⟨b1, 7, none⟩ = some (.int .i64 aw9M.t))
    (first | go_keep)
    (first
      | (go_at_call 12; first
         | ((refine (D1.out _ HTSd.out).mono ?_)
            rintro e w9 ⟨rfl, h9⟩
            obtain ⟨⟨k0, k1, k2, k3, k4, k5, k6, k7⟩, -⟩ := mObj_cells ((h9.turned.block b1 (row_lt HQ8.out) hbp).trans HQ8.out)
            have H9 := Lib.hid h9
            clear h9)
         | ((refine (D2.out _ H9.out).mono ?_)
            rintro e w10 ⟨rfl, h10⟩
            obtain ⟨⟨l0, l1, l2, l3, l4, l5, l6, l7⟩, -⟩ := mObj_cells ((h10.turned.block b1 (row_lt HQ8.out) hbp).trans HQ8.out)
            have H10 := Lib.hid h10
            clear h10)))
  have HPM : Hid (∀ X : World, StrsV aw9M.ps (.slice pa 2 pc) X → Calls Try.prog 25 #[.agg #[.string ⟨#[70]⟩, .bool true, .bool false, .slice pa 2 pc, .slice ba 2 bc, .string fB, .int .i64 0, .int .i64 1], .string ⟨#[98]⟩] X (IntNew 1 X)) := Lib.hid (fun X hX => aw9_param hX)
  have HDN : Hid (∀ X : World, MacAt aw9M (.slice pa 2 pc) (.slice ba 2 bc) X → Calls Try.prog 12 #[.pointer none, .agg #[.string ⟨#[70]⟩, .bool true, .bool false, .slice pa 2 pc, .slice ba 2 bc, .string fB, .int .i64 0, .int .i64 1]] X (BoolNew false X)) := Lib.hid (fun X hX => aw9_defnil hX)
  clear k0 k1 k2 k3 k4 k5 k6 k7 e0 e1 e2 e3 e4 e5 e6 e7
  go_wp2_with (first
    | (go_at_call 12; first
       | ((with_reducible refine (D3.out _ (H10.out.over ((Below.refl w10.heap.size w10).alloc (Nat.le_refl _) _))).mono ?_)
          rintro e w11 ⟨rfl, h11⟩
          obtain ⟨x0, x1, x2, x3, x4, x5, x6, x7⟩ := aw9_cells ((h11.turned.block b1 (row_lt HQ8.out) hbp).trans HQ8.out)
          have HB11 : Hid (Below W.heap.size W w11) := Lib.hid (h11.turned.ended HB8.out (fun g e => e ▸ HPW.out))
          have HM11 := Lib.hid (HM8.out.turn h11.turned)
          have HST11 : Hid (StrsV aw9M.ps (.slice pa 2 pc) w11) := Lib.hid HM11.out.1
          have HG11 : Hid (w11.cell? ⟨ge, 0, none⟩ = some (.int .i64 5)) := Lib.hid ((World.cell?_of_block (h11.turned.block ge HG8.out.2 hgp)).trans HG8.out.1)
          have HGS : Hid (ge < w11.heap.size) := Lib.hid (Nat.lt_of_lt_of_le HG8.out.2 h11.turned.size)
          have HBS : Hid (b1 < w11.heap.size) := Lib.hid (Nat.lt_of_lt_of_le (row_lt HQ8.out) h11.turned.size)
          clear h11)
       | ((with_reducible refine (HDN.out _ HM12.out).mono ?_)
          rintro e w13 ⟨rfl, hb13⟩
          have HB13 : Hid (Below W.heap.size W w13) := Lib.hid (below_up HB12.out hb13)
          clear hb13))
    | (go_at_call 25
       (with_reducible refine (HPM.out _ HST11.out).mono ?_)
       rintro e w12 ⟨rfl, hb12⟩
       have g12 := bcell hb12 HG11.out HGS.out
       have y0 := bcell hb12 x0 HBS.out
       have y1 := bcell hb12 x1 HBS.out
       have y2 := bcell hb12 x2 HBS.out
       have y3 := bcell hb12 x3 HBS.out
       have y4 := bcell hb12 x4 HBS.out
       have y5 := bcell hb12 x5 HBS.out
       have y6 := bcell hb12 x6 HBS.out
       have y7 := bcell hb12 x7 HBS.out
       have HM12 := Lib.hid (HM11.out.over hb12)
       have HB12 : Hid (Below W.heap.size W w12) := Lib.hid (below_up HB11.out hb12)
       clear hb12)
    | (go_at_call 11; (with_reducible refine (mcopy_nil _).mono ?_); rintro e w14 ⟨rfl, rfl⟩))
  go_ret
  exact ⟨rfl, HB13.out⟩

end Go.Proofs.Ytmghocfkekggaaa
