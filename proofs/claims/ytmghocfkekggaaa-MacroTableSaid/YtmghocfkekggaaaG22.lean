/-
  Texts of the proof, put together: McMis.
-/
import Derived.Test.YtmghocfkekggaaaG21

/-
  The first token of a body that may not stand there: the reader's isParam and misfit.
-/
namespace Go.Proofs.Ytmghocfkekggaaa
open Go.RowKit Go.Maps

theorem isPar_not {ps : List ByteArray} {T : List Xt} {j : Nat} (h : T.length ≤ j) : isPar ps T j = false := by
  unfold isPar
  rw [List.getElem?_eq_none h]
theorem isPar_at {ps : List ByteArray} {T : List Xt} {j : Nat} {t : Xt} (h : T[j]? = some t) : isPar ps T j = (decide (t.k = 1) && memB t.x ps) := by
  unfold isPar
  rw [h]

set_option maxRecDepth 100000 in
set_option maxHeartbeats 3200000 in
theorem isParam_any {W : World} {p mb : Nat} {m : Xm} {pv bv : Value} {w : World} (h : Rb W p mb m pv bv w) (hz : ∀ t ∈ m.bd, t.x.size ≤ maxLen) (j : Nat) :
    Calls Try.prog 57 #[.pointer (some ⟨p, 0, none⟩), .int .i64 (j : Int)] w (BoolNew (isPar m.ps m.bd j) w) := by
  obtain ⟨a, n, cap, rfl⟩ := h.2.form
  obtain ⟨hn, hc1, hc2⟩ := h.2.len
  obtain ⟨-, -, -, -, k4, -, -, -, -, k9⟩ := h.1.cells
  unfold maxLen at hc2
  by_cases hlt : j < n
  · obtain ⟨t, ht⟩ : ∃ t, m.bd[j]? = some t := ⟨_, List.getElem?_eq_getElem (by omega)⟩
    obtain ⟨g, o, sa, sn, sc, rfl, hg, -, ⟨c0, c1, -⟩, -⟩ := h.2.get ht
    rw [isPar_at ht]
    have hts := hz t (List.mem_of_getElem? ht)
    have hl : ¬ (n : Int) ≤ (j : Int) := by omega
    by_cases hk : t.k = 1
    · have hk' : (t.k != 1) = false := by simp [hk]
      obtain ⟨c, hlook⟩ := h.1.look t.x hts
      obtain ⟨bm, hbm⟩ : ∃ b, memB t.x m.ps = b := ⟨_, rfl⟩
      rw [hbm] at hlook ⊢
      have HE : Hid (bm = (decide (t.k = 1) && bm)) := Lib.hid (by simp [hk])
      clear hk ht h hbm hts hn
      go_enter Try.func57, Try.ntmps57
      go_wp2
      go_quiet (fail)
      go_wp2
      go_ret
      exact bool_new HE.out (Below.of_drews _ _)
    · have hk' : (t.k != 1) = true := by simp [hk]
      have HE : Hid (false = (decide (t.k = 1) && memB t.x m.ps)) := Lib.hid (by simp [hk])
      clear hk ht hn h
      go_enter Try.func57, Try.ntmps57
      go_wp2
      go_ret
      exact bool_new HE.out (Below.refl _ _)
  · have HE : Hid (false = isPar m.ps m.bd j) := Lib.hid (isPar_not (by omega)).symm
    have hl : (n : Int) ≤ (j : Int) := by omega
    clear hn h
    go_enter Try.func57, Try.ntmps57
    go_wp2
    go_ret
    exact bool_new HE.out (Below.refl _ _)


/-- A token's box. -/
def BoxT (t : Xt) (sv : Value) (g : Nat) (w : World) : Prop :=
  w.cell? ⟨g, 0, none⟩ = some (.int .i64 t.k) ∧ w.cell? ⟨g, 1, none⟩ = some (.string t.x) ∧ w.cell? ⟨g, 2, none⟩ = some (.bool t.sp) ∧ w.cell? ⟨g, 3, none⟩ = some (.string t.g) ∧
  w.cell? ⟨g, 4, none⟩ = some (.int .i64 t.f) ∧ w.cell? ⟨g, 5, none⟩ = some (.int .i64 t.t) ∧ w.cell? ⟨g, 6, none⟩ = some (.bool t.d) ∧ w.cell? ⟨g, 7, none⟩ = some sv
theorem BoxT.next {t : Xt} {sv : Value} {g : Nat} {w w' : World} (h : BoxT t sv g w) (b : Below w.heap.size w w') (hg : g < w.heap.size) : BoxT t sv g w' := by
  obtain ⟨c0, c1, c2, c3, c4, c5, c6, c7⟩ := h
  exact ⟨bcell b c0 hg, bcell b c1 hg, bcell b c2 hg, bcell b c3 hg, bcell b c4 hg, bcell b c5 hg, bcell b c6 hg, bcell b c7 hg⟩

def misI (o : Option Nat) : Int := match o with
  | none => -1
  | some i => (i : Int)
theorem mis_at {fn va : Bool} {ps : List ByteArray} {T : List Xt} {k : Nat} {t : Xt} (ht : T[k]? = some t) (hb : ∀ j u, j < k → T[j]? = some u → illX fn va ps T j u = false) (h : illX fn va ps T k t = true) : (k : Int) = misI (misL fn va ps T T.length 0) := by
  rcases misL_is (fn := fn) (va := va) (ps := ps) (T := T) T.length 0 (by omega) with ⟨-, h2⟩ | ⟨j, u, -, h2, h3, h4, h5⟩
  · rw [h2 k t (Nat.zero_le _) ht] at h
    cases h
  · rw [h3]
    rcases Nat.lt_trichotomy k j with hk | hk | hk
    · rw [h5 k t (Nat.zero_le _) hk ht] at h
      cases h
    · rw [hk]
      rfl
    · rw [hb j u hk h2] at h4
      cases h4
theorem mis_none {fn va : Bool} {ps : List ByteArray} {T : List Xt} (hb : ∀ j u, j < T.length → T[j]? = some u → illX fn va ps T j u = false) : (-1 : Int) = misI (misL fn va ps T T.length 0) := by
  rcases misL_is (fn := fn) (va := va) (ps := ps) (T := T) T.length 0 (by omega) with ⟨h1, -⟩ | ⟨j, u, -, h2, -, h4, -⟩
  · rw [h1]
    rfl
  · rw [hb j u (List.getElem?_eq_some_iff.1 h2).1 h2] at h4
    cases h4

theorem mis_ways (bp b0 b1 bh fnb bi bk bx vab : Bool) : (bp = true ∧ b0 = true) ∨ (bp = true ∧ b0 = false ∧ b1 = true) ∨ ((bp = false) ∧ bh = true ∧ fnb = true ∧ bi = false) ∨ ((bp = false) ∧ (bh = false) ∧ bk = false) ∨ ((bp = false) ∧ (bh = false) ∧ bk = true ∧ bx = false) ∨ ((bp = false) ∧ (bh = false) ∧ bk = true ∧ bx = true ∧ vab = true) ∨ ((bp = false) ∧ (bh = false) ∧ bk = true ∧ bx = true ∧ vab = false) ∨ ((bp = false) ∧ (bh = true ∧ fnb = false) ∧ bk = false) ∨ ((bp = false) ∧ (bh = true ∧ fnb = false) ∧ bk = true ∧ bx = false) ∨ ((bp = false) ∧ (bh = true ∧ fnb = false) ∧ bk = true ∧ bx = true ∧ vab = true) ∨ ((bp = false) ∧ (bh = true ∧ fnb = false) ∧ bk = true ∧ bx = true ∧ vab = false) ∨ ((bp = false) ∧ (bh = true ∧ fnb = true ∧ bi = true) ∧ bk = false) ∨ ((bp = false) ∧ (bh = true ∧ fnb = true ∧ bi = true) ∧ bk = true ∧ bx = false) ∨ ((bp = false) ∧ (bh = true ∧ fnb = true ∧ bi = true) ∧ bk = true ∧ bx = true ∧ vab = true) ∨ ((bp = false) ∧ (bh = true ∧ fnb = true ∧ bi = true) ∧ bk = true ∧ bx = true ∧ vab = false) ∨ ((bp = true ∧ b0 = false ∧ b1 = false) ∧ bh = true ∧ fnb = true ∧ bi = false) ∨ ((bp = true ∧ b0 = false ∧ b1 = false) ∧ (bh = false) ∧ bk = false) ∨ ((bp = true ∧ b0 = false ∧ b1 = false) ∧ (bh = false) ∧ bk = true ∧ bx = false) ∨ ((bp = true ∧ b0 = false ∧ b1 = false) ∧ (bh = false) ∧ bk = true ∧ bx = true ∧ vab = true) ∨ ((bp = true ∧ b0 = false ∧ b1 = false) ∧ (bh = false) ∧ bk = true ∧ bx = true ∧ vab = false) ∨ ((bp = true ∧ b0 = false ∧ b1 = false) ∧ (bh = true ∧ fnb = false) ∧ bk = false) ∨ ((bp = true ∧ b0 = false ∧ b1 = false) ∧ (bh = true ∧ fnb = false) ∧ bk = true ∧ bx = false) ∨ ((bp = true ∧ b0 = false ∧ b1 = false) ∧ (bh = true ∧ fnb = false) ∧ bk = true ∧ bx = true ∧ vab = true) ∨ ((bp = true ∧ b0 = false ∧ b1 = false) ∧ (bh = true ∧ fnb = false) ∧ bk = true ∧ bx = true ∧ vab = false) ∨ ((bp = true ∧ b0 = false ∧ b1 = false) ∧ (bh = true ∧ fnb = true ∧ bi = true) ∧ bk = false) ∨ ((bp = true ∧ b0 = false ∧ b1 = false) ∧ (bh = true ∧ fnb = true ∧ bi = true) ∧ bk = true ∧ bx = false) ∨ ((bp = true ∧ b0 = false ∧ b1 = false) ∧ (bh = true ∧ fnb = true ∧ bi = true) ∧ bk = true ∧ bx = true ∧ vab = true) ∨ ((bp = true ∧ b0 = false ∧ b1 = false) ∧ (bh = true ∧ fnb = true ∧ bi = true) ∧ bk = true ∧ bx = true ∧ vab = false) := by
  cases bp <;> cases b0 <;> cases b1 <;> cases bh <;> cases fnb <;> cases bi <;> cases bk <;> cases bx <;> cases vab <;> simp

set_option maxRecDepth 100000 in
set_option maxHeartbeats 12800000 in
theorem misfit_any {W : World} {p mb : Nat} {m : Xm} {pv bv : Value} {w : World} (h : Rb W p mb m pv bv w) (hz : ∀ t ∈ m.bd, t.x.size ≤ maxLen) (hl : m.bd.length ≤ 1000000) :
    Calls Try.prog 39 #[.pointer (some ⟨p, 0, none⟩)] w (IntNew (misI (misL m.fn m.va m.ps m.bd m.bd.length 0)) w) := by
  obtain ⟨a, n, cap, rfl⟩ := h.2.form
  obtain ⟨hn, hc1, hc2⟩ := h.2.len
  obtain ⟨-, e1, e2, -, e4, -⟩ := h.1.cells
  obtain ⟨fnb, hfn⟩ : ∃ b, m.fn = b := ⟨_, rfl⟩
  obtain ⟨vab, hva⟩ : ∃ b, m.va = b := ⟨_, rfl⟩
  obtain ⟨T, hT⟩ : ∃ T, m.bd = T := ⟨_, rfl⟩
  obtain ⟨Z, hZ⟩ : ∃ Z, misI (misL m.fn m.va m.ps m.bd m.bd.length 0) = Z := ⟨_, rfl⟩
  have HPAR : Hid (∀ (j : Nat) (X : World), Below w.heap.size w X → Calls Try.prog 57 #[.pointer (some ⟨p, 0, none⟩), .int .i64 (j : Int)] X (BoolNew (isPar m.ps T j) X)) := Lib.hid (fun j X hX => hT ▸ isParam_any (h.over hX) hz j)
  rw [hZ]
  rw [hfn, hva, hT] at hZ
  rw [hT] at hn hl
  have HX : Hid (ToksX T (.slice a n cap) w) := Lib.hid (hT ▸ h.2)
  have HR := Lib.hid h
  have HPL := Lib.hid h.1.lt
  have HZ := Lib.hid hZ
  rw [hfn] at e1
  rw [hva] at e2
  have E1 := Lib.hid e1
  have E2 := Lib.hid e2
  have E4 := Lib.hid e4
  unfold maxLen at hc2
  have HN := Lib.hid hn
  have hn6 : n ≤ 1000000 := by omega
  clear h hz hl hT hZ hfn hva hn e1 e2
  go_enter Try.func39, Try.ntmps39
  go_wp2
  go_loopw [11] (fun s wr => ∃ k : Nat, s = .int .i64 (k : Int) ∧ k ≤ n ∧ Below w.heap.size w wr ∧ ∀ j u, j < k → T[j]? = some u → illX fnb vab m.ps T j u = false) (fun s _ => n - (intOf s).toNat)
  case atStart => exact ⟨0, rfl, Nat.zero_le _, Below.refl _ _, fun j u hj => by omega⟩
  case round =>
    obtain ⟨k, rfl, hk, hb, hall⟩ := hrel
    have HB := Lib.hid hb
    have HA := Lib.hid hall
    clear hall
    by_cases hlt : k < n
    · obtain ⟨t, ht⟩ : ∃ t, T[k]? = some t := ⟨_, List.getElem?_eq_getElem (by rw [← HN.out]; exact hlt)⟩
      obtain ⟨g, o, sa, sn, sc, rfl, hg, -, hta, -⟩ := HX.out.get ht
      obtain ⟨c0, c1, c2, c3, c4, c5, c6, c7⟩ := hta.next hb hg
      have q1 := bcell hb E1.out HPL.out
      have q2 := bcell hb E2.out HPL.out
      have q4 := bcell hb E4.out HPL.out
      have HRET : Hid (illX fnb vab m.ps T k t = true → (k : Int) = Z) := Lib.hid (fun hi => (mis_at ht HA.out hi).trans HZ.out)
      have HGO : Hid (illX fnb vab m.ps T k t = false → ∀ j u, j < k + 1 → T[j]? = some u → illX fnb vab m.ps T j u = false) := Lib.hid (fun hi j u hj hu => by
        rcases Nat.lt_or_ge j k with hjk | hjk
        · exact HA.out j u hjk hu
        · obtain rfl : j = k := by omega
          rw [ht] at hu
          cases hu
          exact hi)
      obtain ⟨b0, hb0⟩ : ∃ b, ((k : Int) == 0) = b := ⟨_, rfl⟩
      obtain ⟨b1, hb1⟩ : ∃ b, ((k : Int) == (n : Int) - 1) = b := ⟨_, rfl⟩
      obtain ⟨bk, hbk⟩ : ∃ b, (t.k == 1) = b := ⟨_, rfl⟩
      obtain ⟨bx, hbx⟩ : ∃ b, (t.x.toList == [95, 95, 86, 65, 95, 65, 82, 71, 83, 95, 95]) = b := ⟨_, rfl⟩
      have HPA : Hid (∀ X : World, Calls Try.prog 55 #[.agg #[.int .i64 t.k, .string t.x, .bool t.sp, .string t.g, .int .i64 t.f, .int .i64 t.t, .bool t.d, .slice sa sn sc]] X (BoolNew (pasteX t) X)) := Lib.hid (fun X => paste_any t sa sn sc X)
      have HHA : Hid (∀ X : World, Calls Try.prog 56 #[.agg #[.int .i64 t.k, .string t.x, .bool t.sp, .string t.g, .int .i64 t.f, .int .i64 t.t, .bool t.d, .slice sa sn sc]] X (BoolNew (hashX t) X)) := Lib.hid (fun X => hash_any t sa sn sc X)
      have HPK : Hid (∀ X : World, Below w.heap.size w X → Calls Try.prog 57 #[.pointer (some ⟨p, 0, none⟩), .int .i64 ((k : Int) + 1)] X (BoolNew (isPar m.ps T (k + 1)) X)) := Lib.hid (fun X hX => HPAR.out (k + 1) X hX)
      obtain ⟨bp, hbp⟩ : ∃ b, pasteX t = b := ⟨_, rfl⟩
      obtain ⟨bh, hbh⟩ : ∃ b, hashX t = b := ⟨_, rfl⟩
      obtain ⟨bi, hbi⟩ : ∃ b, isPar m.ps T (k + 1) = b := ⟨_, rfl⟩
      have HILL : Hid (illX fnb vab m.ps T k t = ((bp && (b0 || b1)) || (bh && fnb && !bi) || (bk && bx && !vab))) := Lib.hid (by
        unfold illX
        rw [hbp, hbh, hbi, ← hb0, ← hb1, ← hbk, ← hbx, va_is]
        congr 1
        · congr 1
          congr 1
          congr 1
          · rw [Bool.eq_iff_iff]; simp
          · rw [Bool.eq_iff_iff, ← HN.out]; simp; omega
        )
      rw [hbp] at HPA
      rw [hbh] at HHA
      rw [hbi] at HPK
      have hkI : (k : Int) < (n : Int) := by omega
      have hk0 : (0 : Int) ≤ (k : Int) := by omega
      have HW := Lib.hid (mis_ways bp b0 b1 bh fnb bi bk bx vab)
      clear hbp hbh hbi hb ht hta
      rcases HW.out with ⟨rfl, rfl⟩ | ⟨rfl, rfl, rfl⟩ | ⟨rfl, ⟨rfl, rfl, rfl⟩⟩ | ⟨rfl, rfl, rfl⟩ | ⟨rfl, rfl, ⟨rfl, rfl⟩⟩ | ⟨rfl, rfl, ⟨rfl, rfl, rfl⟩⟩ | ⟨rfl, rfl, ⟨rfl, rfl, rfl⟩⟩ | ⟨rfl, ⟨rfl, rfl⟩, rfl⟩ | ⟨rfl, ⟨rfl, rfl⟩, ⟨rfl, rfl⟩⟩ | ⟨rfl, ⟨rfl, rfl⟩, ⟨rfl, rfl, rfl⟩⟩ | ⟨rfl, ⟨rfl, rfl⟩, ⟨rfl, rfl, rfl⟩⟩ | ⟨rfl, ⟨rfl, rfl, rfl⟩, rfl⟩ | ⟨rfl, ⟨rfl, rfl, rfl⟩, ⟨rfl, rfl⟩⟩ | ⟨rfl, ⟨rfl, rfl, rfl⟩, ⟨rfl, rfl, rfl⟩⟩ | ⟨rfl, ⟨rfl, rfl, rfl⟩, ⟨rfl, rfl, rfl⟩⟩ | ⟨⟨rfl, rfl, rfl⟩, ⟨rfl, rfl, rfl⟩⟩ | ⟨⟨rfl, rfl, rfl⟩, rfl, rfl⟩ | ⟨⟨rfl, rfl, rfl⟩, rfl, ⟨rfl, rfl⟩⟩ | ⟨⟨rfl, rfl, rfl⟩, rfl, ⟨rfl, rfl, rfl⟩⟩ | ⟨⟨rfl, rfl, rfl⟩, rfl, ⟨rfl, rfl, rfl⟩⟩ | ⟨⟨rfl, rfl, rfl⟩, ⟨rfl, rfl⟩, rfl⟩ | ⟨⟨rfl, rfl, rfl⟩, ⟨rfl, rfl⟩, ⟨rfl, rfl⟩⟩ | ⟨⟨rfl, rfl, rfl⟩, ⟨rfl, rfl⟩, ⟨rfl, rfl, rfl⟩⟩ | ⟨⟨rfl, rfl, rfl⟩, ⟨rfl, rfl⟩, ⟨rfl, rfl, rfl⟩⟩ | ⟨⟨rfl, rfl, rfl⟩, ⟨rfl, rfl, rfl⟩, rfl⟩ | ⟨⟨rfl, rfl, rfl⟩, ⟨rfl, rfl, rfl⟩, ⟨rfl, rfl⟩⟩ | ⟨⟨rfl, rfl, rfl⟩, ⟨rfl, rfl, rfl⟩, ⟨rfl, rfl, rfl⟩⟩ | ⟨⟨rfl, rfl, rfl⟩, ⟨rfl, rfl, rfl⟩, ⟨rfl, rfl, rfl⟩⟩
      all_goals
        clear HW
        go_wp2_with (first
          | (go_at_call 55; (with_reducible refine (HPA.out _).mono ?_); rintro e w1 ⟨rfl, hp1⟩; have hx1 : BoxT t (.slice sa sn sc) wr.heap.size w1 := box8 hp1; have HX1 := Lib.hid hx1; (obtain ⟨x0, x1, x2, x3, x4, x5, x6, x7⟩ := hx1); have hw1 : Below wr.heap.size wr w1 := below_up ((Below.refl wr.heap.size wr).alloc (Nat.le_refl _) _) hp1; have HB1 : Hid (Below w.heap.size w w1) := Lib.hid (below_up HB.out hw1); have p1 := bcell HB1.out E1.out HPL.out; have p2 := bcell HB1.out E2.out HPL.out; have p4 := bcell HB1.out E4.out HPL.out; have HS1 : Hid (wr.heap.size < w1.heap.size) := Lib.hid (by have := hp1.size; simp at this; omega); clear hp1 hw1)
          | (go_at_call 56; (with_reducible refine (HHA.out _).mono ?_); rintro e w2 ⟨rfl, hp2⟩; have hx2 := HX1.out.next hp2 HS1.out; (obtain ⟨y0, y1, y2, y3, y4, y5, y6, y7⟩ := hx2); have HB2 : Hid (Below w.heap.size w w2) := Lib.hid (below_up HB1.out hp2); have HX2 := Lib.hid (HX1.out.next hp2 HS1.out); have HS2 : Hid (wr.heap.size < w2.heap.size) := Lib.hid (Nat.lt_of_lt_of_le HS1.out hp2.size); have r1 := bcell HB2.out E1.out HPL.out; have r2 := bcell HB2.out E2.out HPL.out; have r4 := bcell HB2.out E4.out HPL.out; clear hp2)
          | (go_at_call 57; (with_reducible refine (HPK.out _ HB2.out).mono ?_); rintro e w3 ⟨rfl, hp3⟩; have hx3 := HX2.out.next hp3 HS2.out; (obtain ⟨z0, z1, z2, z3, z4, z5, z6, z7⟩ := hx3); have HB3 : Hid (Below w.heap.size w w3) := Lib.hid (below_up HB2.out hp3); have s1 := bcell HB3.out E1.out HPL.out; have s2 := bcell HB3.out E2.out HPL.out; have s4 := bcell HB3.out E4.out HPL.out; clear hp3))
        first
          | (go_ret
             refine int_new (HRET.out (by rw [HILL.out]; simp)) ?_
             first | exact HB3.out | exact HB2.out | exact HB1.out)
          | (go_roundw
             case rel => exact ⟨k + 1, by go_num, hlt, (by first | exact HB3.out | exact HB2.out | exact HB1.out), HGO.out (by rw [HILL.out]; simp)⟩
             case measure => simp [intOf]; omega)
    · have hkI : ¬ (k : Int) < (n : Int) := by omega
      have HE : Hid ((-1 : Int) = Z) := Lib.hid ((mis_none (fun j u hj hu => HA.out j u (by have := HN.out; omega) hu)).trans HZ.out)
      go_wp2
      go_ret
      exact int_new HE.out HB.out

end Go.Proofs.Ytmghocfkekggaaa
