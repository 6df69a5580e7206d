/-
  LexBytes, walked.
-/
import Derived.Test.YtpnboieppkjfnaaLxAwake
import Derived.Test.YtpnboieppkjfnaaLxBytesL
namespace Go.Proofs.Ytpnboieppkjfnaa
open Go.RowKit

theorem TokAt.next {F : ByteArray} {t : Tk} {g j : Nat} {w w' : World} (h : TokAt F t g j w) (b : Below w.heap.size w w') (hg : g < w.heap.size) : TokAt F t g j w' := by
  obtain ⟨h0, h1, h2, h3, h4, h5, h6, h7⟩ := h
  exact ⟨bcell b h0 hg, bcell b h1 hg, bcell b h2 hg, bcell b h3 hg, bcell b h4 hg, bcell b h5 hg, bcell b h6 hg, bcell b h7 hg⟩
theorem ToksAt.next {F : ByteArray} {T : List Tk} {v : Value} {w w' : World} (h : ToksAt F T v w) (b : Below w.heap.size w w') : ToksAt F T v w' := by
  obtain ⟨a, cap, hv, h1, h2, h3⟩ := h
  refine ⟨a, cap, hv, h1, h2, fun k t ht => ?_⟩
  obtain ⟨g, hg, hlt, hk⟩ := h3 k t ht
  exact ⟨g, hg, Nat.lt_of_lt_of_le hlt b.size, hk.next b hlt⟩
theorem LinesAt.next {F : ByteArray} {lines : List Ln} {v : Value} {w w' : World} (h : LinesAt F lines v w) (b : Below w.heap.size w w') : LinesAt F lines v w' := by
  obtain ⟨a, cap, hv, h1, h2, h3⟩ := h
  refine ⟨a, cap, hv, h1, h2, fun k t ht => ?_⟩
  obtain ⟨g, tv, hg, hlt, k0, k1, k2, k3, hT⟩ := h3 k t ht
  exact ⟨g, tv, hg, Nat.lt_of_lt_of_le hlt b.size, bcell b k0 hlt, bcell b k1 hlt, bcell b k2 hlt, bcell b k3 hlt, hT.next b⟩

theorem below_up {W w w' : World} (h : Below W.heap.size W w) (b : Below w.heap.size w w') : Below W.heap.size W w' := h.trans (b.mono h.size)

theorem awake_more {W w : World} (b : Below W.heap.size W w) {e : Ending} {w' : World} (h : AwakePost w e w') : AwakePost W e w' := ⟨h.1, b.trans (h.2.mono b.size)⟩

theorem bytes_long (s : ByteArray) (W : World) (hs : s.size ≤ maxLen) (hl : 3000 < s.size) : Calls Try.prog 5 #[.string s] W (AwakePost W) := by
  unfold maxLen at hs
  have hli : (3000 : Int) < (s.size : Int) := by omega
  go_enter Try.func5, Try.ntmps5
  go_wp2_with (go_at_call 8; (with_reducible refine (awake_any _).mono ?_); rintro e w1 ⟨rfl, b1⟩)
  go_ret
  exact ⟨rfl, b1⟩

/-- What the great test loads. -/
def BackS (b g gt k jn : Nat) (t : Tk) (to : Nat) (tv : Value) (X : ByteArray) (w : World) : Prop :=
  w.cell? ⟨b, 0, none⟩ = some (.string ⟨#[102]⟩) ∧ w.cell? ⟨b, 1, none⟩ = some (.int .i64 (t.f : Int)) ∧ w.cell? ⟨b, 2, none⟩ = some (.int .i64 (t.t : Int)) ∧ w.cell? ⟨g, k * 4, none⟩ = some tv ∧ w.cell? ⟨g, k * 4 + 2, none⟩ = some (.int .i64 (to : Int)) ∧ w.cell? ⟨gt, jn * 8 + 1, none⟩ = some (.string X)
theorem BackS.next {b g gt k jn : Nat} {t : Tk} {to : Nat} {tv : Value} {X : ByteArray} {w w' : World} (h : BackS b g gt k jn t to tv X w) (hb : Below w.heap.size w w') (h1 : b < w.heap.size) (h2 : g < w.heap.size) (h3 : gt < w.heap.size) : BackS b g gt k jn t to tv X w' := by
  obtain ⟨a0, a1, a2, a3, a4, a5⟩ := h
  exact ⟨bcell hb a0 h1, bcell hb a1 h1, bcell hb a2 h1, bcell hb a3 h2, bcell hb a4 h2, bcell hb a5 h3⟩
theorem backS_of {w : World} {g gt k jn : Nat} {t : Tk} {to : Nat} {tv : Value} {X : ByteArray} (h2 : g < w.heap.size) (h3 : gt < w.heap.size) (a3 : w.cell? ⟨g, k * 4, none⟩ = some tv) (a4 : w.cell? ⟨g, k * 4 + 2, none⟩ = some (.int .i64 (to : Int))) (a5 : w.cell? ⟨gt, jn * 8 + 1, none⟩ = some (.string X)) :
    BackS w.heap.size g gt k jn t to tv X ((w.alloc (.cells #[.string ⟨#[102]⟩, .int .i64 (t.f : Int), .int .i64 (t.t : Int)] 38)).drew) := by
  have hn := Lib.cell_of_heap (heap_alloc_new w (.cells #[.string ⟨#[102]⟩, .int .i64 (t.f : Int), .int .i64 (t.t : Int)] 38))
  have ha : ∀ (b o : Nat) (v : Value), b < w.heap.size → w.cell? ⟨b, o, none⟩ = some v → (w.alloc (.cells #[.string ⟨#[102]⟩, .int .i64 (t.f : Int), .int .i64 (t.t : Int)] 38)).drew.cell? ⟨b, o, none⟩ = some v := fun b o v hb hv => (World.cell?_alloc_lt w _ ⟨b, o, none⟩ hb).trans hv
  exact ⟨(hn 0).trans rfl, (hn 1).trans rfl, (hn 2).trans rfl, ha _ _ _ h2 a3, ha _ _ _ h2 a4, ha _ _ _ h3 a5⟩
theorem below_back {wo wr w3 : World} {o : Obj} (h : Below wo.heap.size wo wr) (b : Below (wr.alloc o).drew.heap.size (wr.alloc o).drew w3) : Below wo.heap.size wo w3 :=
  h.trans ((((Below.refl _ _).alloc (Nat.le_refl _) o).drew.trans (b.mono (by simp))).mono h.size)

theorem LnOk.le {l : List UInt8} : ∀ {a : Nat} {T : List Ln}, LnOk l a T → a ≤ lastT a T
  | _, [], _ => Nat.le_refl _
  | _, _ :: _, h => Nat.le_trans h.2.1 (LnOk.le h.2.2.2.2)

set_option maxRecDepth 100000 in
set_option maxHeartbeats 6400000 in
theorem bytes_short (s : ByteArray) (W : World) (hl : s.size ≤ 3000) : Calls Try.prog 5 #[.string s] W (AwakePost W) := by
  have hli : ¬ (3000 : Int) < (s.size : Int) := by omega
  obtain ⟨R, hR⟩ : ∃ R, linesA (charsL s.data.toList) s.size = R := ⟨_, rfl⟩
  have HLN := Lib.hid (lines_any ⟨#[102]⟩ s W (by omega) (by decide))
  have hgood := lines_good s.data.toList (charsL_nl _)
  rw [len_byte, hR] at hgood
  rw [hR] at HLN
  obtain ⟨hok, hlast, hemp⟩ := hgood
  rw [len_byte] at hlast
  obtain ⟨lines, hlines⟩ : ∃ lines, R.lines = lines := ⟨_, rfl⟩
  have HLN : Hid (Calls Try.prog 9 #[.string ⟨#[102]⟩, .string s] W fun e w' => ∃ la lc da m dc, e = .returned (.tuple #[.slice la lines.length lc, .slice da m dc]) ∧ LinesAt ⟨#[102]⟩ lines (.slice la lines.length lc) w' ∧ Below W.heap.size W w') := Lib.hid (by
    refine HLN.out.mono ?_
    rintro e w' ⟨la, n, lc, da, m, dc, rfl, hn, -, hr, -⟩
    rw [hlines] at hn
    subst hn
    have hat := hr.at
    rw [hlines] at hat
    exact ⟨la, lc, da, m, dc, rfl, hat, hr.low⟩)
  rw [hlines] at hok hlast hemp
  have HOK := Lib.hid hok
  have HLA := Lib.hid hlast
  have HEM := Lib.hid hemp
  clear hok hlast hemp hR hlines
  go_enter Try.func5, Try.ntmps5
  go_wp2_with (go_at_call 9; (with_reducible refine HLN.out.mono ?_); rintro e w1 ⟨la, lc, da, m, dc, rfl, hat, b1⟩; have HAT := Lib.hid hat; have B1 := Lib.hid b1; clear hat b1)
  go_loopw [5, 6] (fun a i wr => ∃ (p k : Nat), a = .int .i64 (p : Int) ∧ i = .int .i64 (k : Int) ∧ k ≤ lines.length ∧ p ≤ s.size ∧ LnOk s.data.toList p (lines.drop k) ∧ lastT p (lines.drop k) = s.size ∧ Below w1.heap.size w1 wr) (fun _ i _ => lines.length - (intOf i).toNat)
  case atStart => exact ⟨0, 0, rfl, rfl, Nat.zero_le _, Nat.zero_le _, HOK.out, HLA.out, Below.refl _ _⟩
  case round =>
    obtain ⟨p, k, rfl, rfl, hk, hp, hok, hlast, hb⟩ := hrel
    obtain ⟨a', cap, hv, c1, c2, hln⟩ := HAT.out.next hb
    simp only [Value.slice.injEq] at hv
    obtain ⟨rfl, -, rfl⟩ := hv
    unfold maxLen at c2
    have HBB := Lib.hid hb
    clear hb
    by_cases hlt : k < lines.length
    · obtain ⟨ln, hl⟩ : ∃ ln, lines[k]? = some ln := ⟨_, List.getElem?_eq_getElem hlt⟩
      obtain ⟨g, tv, rfl, hg, kc0, kc1, kc2, kc3, htks⟩ := hln k ln hl
      obtain ⟨ta, tc, rfl, d1, d2, htk⟩ := htks
      unfold maxLen at d2
      have hld : lines.drop k = ln :: lines.drop (k + 1) := by
        rw [List.drop_eq_getElem_cons hlt]
        rw [List.getElem?_eq_getElem hlt] at hl
        simp only [Option.some.injEq] at hl
        rw [hl]
      rw [hld] at hok hlast
      obtain ⟨o1, o2, o3, o4, o5⟩ := hok
      rw [o1] at kc1
      have hlt2 : ln.t ≤ s.size := by rw [← hlast]; exact LnOk.le o5
      have HO3 := Lib.hid o3
      have HTO := Lib.hid o4
      have HO5 := Lib.hid o5
      have HLS := Lib.hid hlast
      have HTK := Lib.hid htk
      have hki : (k : Int) < (lines.length : Int) := by omega
      have n0 : ¬ (ln.t : Int) < (p : Int) := by omega
      have m0 : decide (ln.t < p) = false := by simp; omega
      clear hln hl hld o1 o2 o3 o4 o5 hlast htk
      cases ho : ln.o with
      | true =>
        rw [ho] at kc3
        have hk1 : k + 1 = lines.length := by
          have h := congrArg List.length (HO3.out ho)
          rw [List.length_drop] at h
          simp at h
          omega
        have hk2 : ¬ (k : Int) + 1 < (lines.length : Int) := by omega
        have HK1 := Lib.hid hk1
        clear hk1 ho
        go_wp2
        obtain ⟨wo, hwo⟩ : ∃ wo : World, wr = wo := ⟨_, rfl⟩
        rw [hwo] at kc0 kc1 kc2 kc3 HTK HBB hg ⊢
        clear hwo
        go_loopw [5, 7] (fun a j wx => ∃ (q jn : Nat), a = .int .i64 (q : Int) ∧ j = .int .i64 (jn : Int) ∧ jn ≤ ln.toks.length ∧ q ≤ s.size ∧ TokOk s.data.toList ln.t q (ln.toks.drop jn) ∧ Below wo.heap.size wo wx) (fun _ j _ => ln.toks.length - (intOf j).toNat)
        case atStart => exact ⟨p, 0, rfl, rfl, Nat.zero_le _, hp, HTO.out, Below.refl _ _⟩
        case round =>
          obtain ⟨q, jn, rfl, rfl, hj, hq, htok, hb2⟩ := hrel
          have e0 := bcell hb2 kc0 hg
          have e2 := bcell hb2 kc2 hg
          by_cases hjlt : jn < ln.toks.length
          · obtain ⟨t, ht⟩ : ∃ t, ln.toks[jn]? = some t := ⟨_, List.getElem?_eq_getElem hjlt⟩
            obtain ⟨gt, hga, hgt, hta⟩ := HTK.out jn t ht
            subst hga
            have htd : ln.toks.drop jn = t :: ln.toks.drop (jn + 1) := by
              rw [List.drop_eq_getElem_cons hjlt]
              rw [List.getElem?_eq_getElem hjlt] at ht
              simp only [Option.some.injEq] at ht
              rw [ht]
            rw [htd] at htok
            obtain ⟨q1, q2, q3, q4, q5⟩ := htok
            obtain ⟨-, x1, -, x3, x4, x5, -, -⟩ := hta.next hb2 hgt
            obtain ⟨X, hX⟩ : ∃ X : ByteArray, (⟨t.x.toArray⟩ : ByteArray) = X := ⟨_, rfl⟩
            rw [hX] at x1
            have hgx : g < wr.heap.size := Nat.lt_of_lt_of_le hg hb2.size
            have hgtx : gt < wr.heap.size := Nat.lt_of_lt_of_le hgt hb2.size
            have HBK : Hid (∀ Y : World, Calls Try.prog 14 #[.string s, .int .i64 (t.f : Int), .int .i64 (t.t : Int)] Y fun e w' => e = .returned (.string X) ∧ Below Y.heap.size Y w') := Lib.hid (by
              intro Y
              have h := rBack_any s (t.f : Int) (t.t : Int) Y (by omega)
              rw [q4] at h
              rw [← hX]
              exact h)
            have hsz : t.t ≤ s.size := by omega
            have n1 : ¬ (t.f : Int) < (q : Int) := by omega
            have n2 : ¬ (t.t : Int) ≤ (t.f : Int) := by omega
            have n3 : ¬ (ln.t : Int) < (t.t : Int) := by omega
            have m1 : decide (t.f < q) = false := by simp; omega
            have m2 : decide (t.t ≤ t.f) = false := by simp; omega
            have m3 : decide (ln.t < t.t) = false := by simp; omega
            have hji : (jn : Int) < (ln.toks.length : Int) := by omega
            have hj0 : (0 : Int) ≤ (jn : Int) := by omega
            have HQ5 := Lib.hid q5
            have HB2 := Lib.hid hb2
            have hw1 : wr.heap.size ≠ g := by omega
            have hw2 : wr.heap.size ≠ gt := by omega
            clear ht htd q1 q2 q3 q4 q5 hta hX hb2
            have HA0 : Hid (BackS wr.heap.size g gt k jn t ln.t (.slice (some ⟨gt, 0, none⟩) ln.toks.length tc) X ((wr.alloc (.cells #[.string ⟨#[102]⟩, .int .i64 (t.f : Int), .int .i64 (t.t : Int)] 38)).drew)) := Lib.hid (backS_of hgx hgtx e0 e2 x1)
            go_wp2
            go_region_held3 (fun w' => w'.cell? ⟨wr.heap.size, 0, none⟩ = some (.string ⟨#[102]⟩) ∧ w'.cell? ⟨wr.heap.size, 1, none⟩ = some (.int .i64 (t.f : Int)) ∧ w'.cell? ⟨wr.heap.size, 2, none⟩ = some (.int .i64 (t.t : Int)) ∧ w'.cell? ⟨g, k * 4, none⟩ = some (.slice (some ⟨gt, 0, none⟩) ln.toks.length tc) ∧ w'.cell? ⟨g, k * 4 + 2, none⟩ = some (.int .i64 (ln.t : Int)) ∧ w'.cell? ⟨gt, jn * 8 + 1, none⟩ = some (.string X))
              (first | exact HA0.out | exact HA3.out)
              (first | (go_at_call 14; (with_reducible refine (HBK.out _).mono ?_); rintro e w3 ⟨rfl, b3⟩; have HA3 := Lib.hid (HA0.out.next b3 (by simp) (by simp; omega) (by simp; omega)); have HW3 := Lib.hid (below_back (wr := wr) HB2.out b3); clear b3))
            obtain ⟨-, -, y2, -⟩ := HA3.out
            go_wp2
            go_roundw
            case rel => exact ⟨t.t, jn + 1, rfl, by go_num, hjlt, hsz, HQ5.out, HW3.out⟩
            case measure => simp [intOf]; omega
          · have hji : ¬ (jn : Int) < (ln.toks.length : Int) := by omega
            have HB2 := Lib.hid hb2
            clear htok hb2
            go_wp2
            go_roundw
            case rel => exact ⟨ln.t, k + 1, rfl, by go_num, hlt, hlt2, HO5.out, HLS.out, HBB.out.trans (HB2.out.mono HBB.out.size)⟩
            case measure => simp [intOf]; omega
      | false =>
        rw [ho] at kc3
        clear ho
        go_wp2
        obtain ⟨wo, hwo⟩ : ∃ wo : World, wr = wo := ⟨_, rfl⟩
        rw [hwo] at kc0 kc1 kc2 kc3 HTK HBB hg ⊢
        clear hwo
        go_loopw [5, 7] (fun a j wx => ∃ (q jn : Nat), a = .int .i64 (q : Int) ∧ j = .int .i64 (jn : Int) ∧ jn ≤ ln.toks.length ∧ q ≤ s.size ∧ TokOk s.data.toList ln.t q (ln.toks.drop jn) ∧ Below wo.heap.size wo wx) (fun _ j _ => ln.toks.length - (intOf j).toNat)
        case atStart => exact ⟨p, 0, rfl, rfl, Nat.zero_le _, hp, HTO.out, Below.refl _ _⟩
        case round =>
          obtain ⟨q, jn, rfl, rfl, hj, hq, htok, hb2⟩ := hrel
          have e0 := bcell hb2 kc0 hg
          have e2 := bcell hb2 kc2 hg
          by_cases hjlt : jn < ln.toks.length
          · obtain ⟨t, ht⟩ : ∃ t, ln.toks[jn]? = some t := ⟨_, List.getElem?_eq_getElem hjlt⟩
            obtain ⟨gt, hga, hgt, hta⟩ := HTK.out jn t ht
            subst hga
            have htd : ln.toks.drop jn = t :: ln.toks.drop (jn + 1) := by
              rw [List.drop_eq_getElem_cons hjlt]
              rw [List.getElem?_eq_getElem hjlt] at ht
              simp only [Option.some.injEq] at ht
              rw [ht]
            rw [htd] at htok
            obtain ⟨q1, q2, q3, q4, q5⟩ := htok
            obtain ⟨-, x1, -, x3, x4, x5, -, -⟩ := hta.next hb2 hgt
            obtain ⟨X, hX⟩ : ∃ X : ByteArray, (⟨t.x.toArray⟩ : ByteArray) = X := ⟨_, rfl⟩
            rw [hX] at x1
            have hgx : g < wr.heap.size := Nat.lt_of_lt_of_le hg hb2.size
            have hgtx : gt < wr.heap.size := Nat.lt_of_lt_of_le hgt hb2.size
            have HBK : Hid (∀ Y : World, Calls Try.prog 14 #[.string s, .int .i64 (t.f : Int), .int .i64 (t.t : Int)] Y fun e w' => e = .returned (.string X) ∧ Below Y.heap.size Y w') := Lib.hid (by
              intro Y
              have h := rBack_any s (t.f : Int) (t.t : Int) Y (by omega)
              rw [q4] at h
              rw [← hX]
              exact h)
            have hsz : t.t ≤ s.size := by omega
            have n1 : ¬ (t.f : Int) < (q : Int) := by omega
            have n2 : ¬ (t.t : Int) ≤ (t.f : Int) := by omega
            have n3 : ¬ (ln.t : Int) < (t.t : Int) := by omega
            have m1 : decide (t.f < q) = false := by simp; omega
            have m2 : decide (t.t ≤ t.f) = false := by simp; omega
            have m3 : decide (ln.t < t.t) = false := by simp; omega
            have hji : (jn : Int) < (ln.toks.length : Int) := by omega
            have hj0 : (0 : Int) ≤ (jn : Int) := by omega
            have HQ5 := Lib.hid q5
            have HB2 := Lib.hid hb2
            have hw1 : wr.heap.size ≠ g := by omega
            have hw2 : wr.heap.size ≠ gt := by omega
            clear ht htd q1 q2 q3 q4 q5 hta hX hb2
            have HA0 : Hid (BackS wr.heap.size g gt k jn t ln.t (.slice (some ⟨gt, 0, none⟩) ln.toks.length tc) X ((wr.alloc (.cells #[.string ⟨#[102]⟩, .int .i64 (t.f : Int), .int .i64 (t.t : Int)] 38)).drew)) := Lib.hid (backS_of hgx hgtx e0 e2 x1)
            go_wp2
            go_region_held3 (fun w' => w'.cell? ⟨wr.heap.size, 0, none⟩ = some (.string ⟨#[102]⟩) ∧ w'.cell? ⟨wr.heap.size, 1, none⟩ = some (.int .i64 (t.f : Int)) ∧ w'.cell? ⟨wr.heap.size, 2, none⟩ = some (.int .i64 (t.t : Int)) ∧ w'.cell? ⟨g, k * 4, none⟩ = some (.slice (some ⟨gt, 0, none⟩) ln.toks.length tc) ∧ w'.cell? ⟨g, k * 4 + 2, none⟩ = some (.int .i64 (ln.t : Int)) ∧ w'.cell? ⟨gt, jn * 8 + 1, none⟩ = some (.string X))
              (first | exact HA0.out | exact HA3.out)
              (first | (go_at_call 14; (with_reducible refine (HBK.out _).mono ?_); rintro e w3 ⟨rfl, b3⟩; have HA3 := Lib.hid (HA0.out.next b3 (by simp) (by simp; omega) (by simp; omega)); have HW3 := Lib.hid (below_back (wr := wr) HB2.out b3); clear b3))
            obtain ⟨-, -, y2, -⟩ := HA3.out
            go_wp2
            go_roundw
            case rel => exact ⟨t.t, jn + 1, rfl, by go_num, hjlt, hsz, HQ5.out, HW3.out⟩
            case measure => simp [intOf]; omega
          · have hji : ¬ (jn : Int) < (ln.toks.length : Int) := by omega
            have HB2 := Lib.hid hb2
            clear htok hb2
            go_wp2
            go_roundw
            case rel => exact ⟨ln.t, k + 1, rfl, by go_num, hlt, hlt2, HO5.out, HLS.out, HBB.out.trans (HB2.out.mono HBB.out.size)⟩
            case measure => simp [intOf]; omega
    · obtain rfl : k = lines.length := by omega
      rw [List.drop_eq_nil_of_le (Nat.le_refl _)] at hlast
      have hps : p = s.size := hlast
      subst hps
      have hki : ¬ (lines.length : Int) < (lines.length : Int) := by omega
      have HFIN := Lib.hid (fun Y e (b : AwakePost wr e Y) => awake_more (B1.out.trans (HBB.out.mono B1.out.size)) b)
      by_cases h0 : s.size = 0
      · have hl0 : lines.length = 0 := by
          have := HEM.out.2 (list_nil (by omega))
          rw [this]
          rfl
        have hse := empty_yes (s := s) (by omega)
        have z1 : ((lines.length : Int) == 0) = true := by rw [hl0]; rfl
        clear hln hok hlast hl0 h0
        go_wp2_with (go_at_call 8; (with_reducible refine (awake_any _).mono ?_); rintro e w6 h6; obtain ⟨rfl, b6⟩ := HFIN.out _ _ h6)
        go_ret
        exact ⟨rfl, b6⟩
      · have hl0 : lines.length ≠ 0 := by
          intro h
          have := HEM.out.1 (List.eq_nil_of_length_eq_zero h)
          exact h0 (by rw [← len_byte, this]; rfl)
        have hse := empty_no (s := s) (by omega)
        have z1 : ((lines.length : Int) == 0) = false := by rw [beq_eq_false_iff_ne]; omega
        clear hln hok hlast hl0 h0
        go_wp2_with (go_at_call 8; (with_reducible refine (awake_any _).mono ?_); rintro e w6 h6; obtain ⟨rfl, b6⟩ := HFIN.out _ _ h6)
        go_ret
        exact ⟨rfl, b6⟩

theorem law_bytes (s : ByteArray) (W : World) (hs : s.size ≤ maxLen) : Calls Try.prog 5 #[.string s] W (AwakePost W) := by
  by_cases hl : s.size ≤ 3000
  · exact bytes_short s W hl
  · exact bytes_long s W hs (by omega)

end Go.Proofs.Ytpnboieppkjfnaa
