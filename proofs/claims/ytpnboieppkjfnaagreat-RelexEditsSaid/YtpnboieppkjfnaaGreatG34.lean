/-
  Texts of the proof, put together: ReB, ReC.
-/
import Derived.Test.YtpnboieppkjfnaaGreatG33
import Derived.Deep.RegionHeld3

/-
  What an edit touches, as it lies in memory: where a part begins and ends, and its text.
-/
namespace Go.Proofs.YtpnboieppkjfnaaGreat
open Go.RowKit

structure AE where
  B : Nat
  M : Mp
  a : Nat
  ev : Value
  r : Option Addr
  o : Option T
  Ts : List (List UInt8)
  fr : Nat
  te : Nat
  mo : Int
  l : List UInt8
  K : List (Nat × Int)
  mf : Int

structure AE.Ok (E : AE) : Prop where
  txt : otext E.o = E.l
  mo : E.mo = (E.l.length : Int) - E.Ts.flatten.length
  old : E.Ts.flatten.length ≤ 65536
  new : E.l.length ≤ 65536
  mf : E.mf = E.mo ∨ E.Ts = []
  mfb : -65536 ≤ E.mf ∧ E.mf ≤ 65536

structure AE.At (E : AE) (first next : Nat) (w : World) : Prop where
  inv : Inv E.B [] E.M w
  obj : w.heap[E.a]? = some (anewObj E.ev (E.fr : Int) (E.te : Int) E.mf E.r (first : Int) (next : Int))
  rope : RP E.M w E.r E.o
  row : w.ownsRow 0 84 2 E.ev E.K.length (kcells E.K)
  read : KRead E.K (rows 0 E.Ts) w

theorem AE.At.below {E : AE} {f n : Nat} {w w' : World} (h : E.At f n w) (b : Below w.heap.size w w') : E.At f n w' := by
  have k : Kr E.B [] E.M w E.M w' := Kr.of_below h.inv b
  have s : Sm w w' := Sm.below b
  exact ⟨k.inv, (b.block _ (row_lt h.obj)).trans h.obj, h.rope.ext h.inv k s, own_sm h.row s (by decide), h.read.sm s⟩

theorem AE.At.cells {E : AE} {f n : Nat} {w : World} (h : E.At f n w) : E.a < w.heap.size ∧ w.cell? ⟨E.a, 0, none⟩ = some E.ev ∧ w.cell? ⟨E.a, 3, none⟩ = some (.int .i64 E.mf) ∧ w.cell? ⟨E.a, 4, none⟩ = some (.pointer E.r) ∧ w.cell? ⟨E.a, 5, none⟩ = some (.int .i64 (f : Int)) ∧ w.cell? ⟨E.a, 6, none⟩ = some (.int .i64 (n : Int)) := by
  have h1 := h.obj
  refine ⟨row_lt h1, ?_, ?_, ?_, ?_, ?_⟩ <;> (rw [Lib.cell_of_heap h1]; rfl)

theorem AE.At.len {E : AE} {f n : Nat} {w : World} (h : E.At f n w) : E.K.length = E.Ts.length := by rw [h.read.1, rows_len]

theorem kcells_get {K : List (Nat × Int)} {i : Nat} {k : Nat × Int} (h : K[i]? = some k) : (kcells K)[i * 2]? = some (.pointer (some ⟨k.1, 0, none⟩)) ∧ (kcells K)[i * 2 + 1]? = some (.int .i64 k.2) := by
  have hg := fun j (hj : j < 2) => flat_get (f := kcell) (n := 2) (fun _ => rfl) K i k h j hj
  exact ⟨(hg 0 (by omega)).trans rfl, (hg 1 (by omega)).trans rfl⟩

/-- The kept lines' slice, and each one's two cells. -/
theorem krow_form {w : World} {v : Value} {K : List (Nat × Int)} (h : w.ownsRow 0 84 2 v K.length (kcells K)) : ∃ ad cap, v = .slice ad K.length cap ∧ K.length ≤ cap ∧ cap ≤ maxLen ∧ ∀ i k, K[i]? = some k → ∃ g, ad = some ⟨g, 0, none⟩ ∧ g < w.heap.size ∧ w.cell? ⟨g, i * 2, none⟩ = some (.pointer (some ⟨k.1, 0, none⟩)) ∧ w.cell? ⟨g, i * 2 + 1, none⟩ = some (.int .i64 k.2) := by
  obtain ⟨ad, cap, hv, h1, h2, h3⟩ := row_form h
  refine ⟨ad, cap, hv, h1, h2, fun i k hk => ?_⟩
  obtain ⟨e0, e1⟩ := kcells_get hk
  obtain ⟨g, hg, hl, c0⟩ := h3 _ _ e0
  obtain ⟨g', hg', -, c1⟩ := h3 _ _ e1
  rw [hg] at hg'
  simp only [Option.some.injEq, Addr.mk.injEq, and_true] at hg'
  subst hg'
  exact ⟨g, hg, hl, c0, c1⟩

def begN2 (Ts : List (List UInt8)) (i : Nat) : Nat := match (rows 0 Ts)[i]? with
  | some x => x.1.f
  | none => 0
def plaN (E : AE) (i : Nat) : Nat := match (rows 0 E.Ts)[i]? with
  | some x => ((x.1.f : Int) + E.mo).toNat
  | none => E.l.length

set_option maxRecDepth 100000 in
theorem begin_any {E : AE} {f n : Nat} {w : World} (h : E.At f n w) (hf : f ≤ E.Ts.length) : Calls Tryz.prog 73 #[.pointer (some ⟨E.a, 0, none⟩)] w (NatBel (begN2 E.Ts f) w) := by
  obtain ⟨ha, c0, c3, c4, c5, c6⟩ := h.cells
  have hK := h.len
  obtain ⟨ad, cap, hv, hc1, hc2, hc3⟩ := krow_form h.row
  rw [hv] at c0
  unfold maxLen at hc2
  by_cases hlt : f < E.Ts.length
  · obtain ⟨k, hk⟩ : ∃ k, E.K[f]? = some k := ⟨_, List.getElem?_eq_getElem (by omega)⟩
    obtain ⟨x, hx⟩ : ∃ x, (rows 0 E.Ts)[f]? = some x := ⟨_, List.getElem?_eq_getElem (by rw [rows_len]; omega)⟩
    obtain ⟨g, rfl, hg, k0, k1⟩ := hc3 f k hk
    have hs := h.read.2 f k x hk hx
    have hbe : begN2 E.Ts f = x.1.f := by unfold begN2; rw [hx]
    rw [hbe]
    have HC : Hid (∀ X : World, Below w.heap.size w X → Calls Tryz.prog 47 #[.agg #[.pointer (some ⟨k.1, 0, none⟩), .int .i64 k.2]] X (NatBel x.1.f X)) := Lib.hid (fun X hX => from_any (hs.2.sm (Sm.below hX)) hs.1)
    have hfI : ((f : Int) == (E.K.length : Int)) = false := by
      rw [beq_eq_false_iff_ne]
      omega
    have hfI2 : (f : Int) < (E.K.length : Int) := by omega
    clear h hs hx hk hv hbe hc3 hK
    go_enter Tryz.func73, Tryz.ntmps73
    go_wp2
    go_quiet (fail)
    obtain ⟨w1, hw1⟩ : ∃ w1, w.drewN nq = w1 := ⟨_, rfl⟩
    have hB1 : Below w.heap.size w w1 := by rw [← hw1]; exact Below.of_drews _ _
    have d0 := bcell hB1 c0 ha
    have d5 := bcell hB1 c5 ha
    have e0 := bcell hB1 k0 hg
    have e1 := bcell hB1 k1 hg
    have HB1 := Lib.hid hB1
    rw [hw1]
    clear hw1 hB1 c0 c3 c4 c5 c6 k0 k1
    go_wp2
    go_still_tail 11, (by kernel_rfl)
    have HB2 : Hid (Below w.heap.size w w1.drew) := Lib.hid HB1.out.drew
    change wpList _ _ _ _ _ w1.drew
    obtain ⟨w2, hw2⟩ : ∃ w2, w1.drew = w2 := ⟨_, rfl⟩
    rw [hw2] at HB2 ⊢
    clear hw2 d0 d5 e0 e1
    go_wp2_with (go_at_call 47; (with_reducible refine (HC.out _ HB2.out).mono ?_); rintro e w3 ⟨rfl, hb3⟩; have HB3 := Lib.hid hb3; clear hb3)
    go_ret
    exact ⟨rfl, below_up HB2.out HB3.out⟩
  · have hbe : begN2 E.Ts f = 0 := by unfold begN2; rw [List.getElem?_eq_none (by rw [rows_len]; omega)]
    rw [hbe]
    have hfI : ((f : Int) == (E.K.length : Int)) = true := by
      rw [beq_iff_eq]
      omega
    clear h hv hbe hc3 hK
    go_enter Tryz.func73, Tryz.ntmps73
    go_wp2
    go_quiet (fail)
    go_wp2
    go_ret
    exact ⟨rfl, Below.of_drews _ _⟩

theorem AE.Ok.mos {E : AE} (h : E.Ok) : -65536 ≤ E.mo ∧ E.mo ≤ 65536 := by
  have h1 := h.mo
  have h2 := h.old
  have h3 := h.new
  omega

def PlS (a g i : Nat) (v p m b : Value) (w : World) : Prop :=
  w.cell? ⟨a, 0, none⟩ = some v ∧ w.cell? ⟨a, 3, none⟩ = some m ∧ w.cell? ⟨g, i * 2, none⟩ = some p ∧ w.cell? ⟨g, i * 2 + 1, none⟩ = some b
theorem PlS.next {a g i : Nat} {v p m b : Value} {w w' : World} (h : PlS a g i v p m b w) (hb : Below w.heap.size w w') (ha : a < w.heap.size) (hg : g < w.heap.size) : PlS a g i v p m b w' :=
  ⟨bcell hb h.1 ha, bcell hb h.2.1 ha, bcell hb h.2.2.1 hg, bcell hb h.2.2.2 hg⟩

set_option maxRecDepth 100000 in
theorem place_any {E : AE} {f n : Nat} {w : World} (h : E.At f n w) (ho : E.Ok) (i : Nat) (hi : i ≤ E.Ts.length) (hp : ∀ x, (rows 0 E.Ts)[i]? = some x → 0 ≤ (x.1.f : Int) + E.mo) : Calls Tryz.prog 91 #[.pointer (some ⟨E.a, 0, none⟩), .int .i64 (i : Int)] w (NatBel (plaN E i) w) := by
  obtain ⟨ha, c0, c3, c4, c5, c6⟩ := h.cells
  have hK := h.len
  obtain ⟨ad, cap, hv, hc1, hc2, hc3⟩ := krow_form h.row
  rw [hv] at c0
  unfold maxLen at hc2
  obtain ⟨hm1, hm2⟩ := ho.mos
  by_cases hlt : i < E.Ts.length
  · obtain ⟨k, hk⟩ : ∃ k, E.K[i]? = some k := ⟨_, List.getElem?_eq_getElem (by omega)⟩
    obtain ⟨x, hx⟩ : ∃ x, (rows 0 E.Ts)[i]? = some x := ⟨_, List.getElem?_eq_getElem (by rw [rows_len]; omega)⟩
    obtain ⟨g, rfl, hg, k0, k1⟩ := hc3 i k hk
    have hs := h.read.2 i k x hk hx
    rw [ho.mf.resolve_right (fun e => by rw [e] at hlt; simp at hlt)] at c3
    have hbe : plaN E i = ((x.1.f : Int) + E.mo).toNat := by unfold plaN; rw [hx]
    have h0 := hp x hx
    have HN : Hid ((x.1.f : Int) + E.mo = ((plaN E i : Nat) : Int)) := Lib.hid (by rw [hbe]; omega)
    have HC : Hid (∀ X : World, Below w.heap.size w X → Calls Tryz.prog 47 #[.agg #[.pointer (some ⟨k.1, 0, none⟩), .int .i64 k.2]] X (NatBel x.1.f X)) := Lib.hid (fun X hX => from_any (hs.2.sm (Sm.below hX)) hs.1)
    have hfI : ((i : Int) == (E.K.length : Int)) = false := by
      rw [beq_eq_false_iff_ne]
      omega
    have hfI2 : (i : Int) < (E.K.length : Int) := by omega
    have hsm : (x.1.f : Int) ≤ 200000 := by
      have := hs.1.1
      have := hs.1.2.1
      omega
    have hwr : IntKind.i64.wrap ((x.1.f : Int) + E.mo) = (x.1.f : Int) + E.mo := IntWalk.i64_in _ (by omega)
    clear h hs hx hk hv hbe hc3 hK hp ho
    go_enter Tryz.func91, Tryz.ntmps91
    go_wp2
    have HA0 : Hid (PlS E.a g i (.slice (some ⟨g, 0, none⟩) E.K.length cap) (.pointer (some ⟨k.1, 0, none⟩)) (.int .i64 E.mo) (.int .i64 k.2) w.drew) := Lib.hid (PlS.next ⟨c0, c3, k0, k1⟩ (Below.refl _ _).drew ha hg)
    go_region_held3 (fun w' => w'.cell? ⟨E.a, 0, none⟩ = some (.slice (some ⟨g, 0, none⟩) E.K.length cap) ∧ w'.cell? ⟨E.a, 3, none⟩ = some (.int .i64 E.mo) ∧ w'.cell? ⟨g, i * 2, none⟩ = some (.pointer (some ⟨k.1, 0, none⟩)) ∧ w'.cell? ⟨g, i * 2 + 1, none⟩ = some (.int .i64 k.2))
      (first | exact HA0.out | exact HA3.out)
      (first | (go_at_call 47; (with_reducible refine (HC.out _ (Below.refl _ _).drew).mono ?_); rintro e w3 ⟨rfl, hb3⟩; have HA3 := Lib.hid (HA0.out.next hb3 ha hg); have HB3 := Lib.hid (Below.of_drew (w := w) hb3); clear hb3))
    all_goals go_wp2
    all_goals go_ret
    all_goals exact ⟨ret_nat HN.out, HB3.out⟩
  · have hbe : plaN E i = E.l.length := by unfold plaN; rw [List.getElem?_eq_none (by rw [rows_len]; omega)]
    rw [hbe]
    have hfI : ((i : Int) == (E.K.length : Int)) = true := by
      rw [beq_iff_eq]
      omega
    have hol : osize E.o = E.l.length := by rw [osize_eq, ho.txt]
    have HL : Hid (Calls Tryz.prog 41 #[.pointer E.r] w (NatPost E.l.length w)) := Lib.hid (by rw [← hol]; exact len_any h.inv h.rope)
    clear h hv hbe hc3 hK hol hp ho
    go_enter Tryz.func91, Tryz.ntmps91
    go_wp2_with (go_at_call 41; (with_reducible refine HL.out.mono ?_); rintro e w' ⟨rfl, rfl⟩)
    go_ret
    exact ⟨rfl, Below.refl _ _⟩

theorem sliceA_any {E : AE} {f n : Nat} {w : World} (h : E.At f n w) (ho : E.Ok) (i j : Nat) (hij : i ≤ j) (hj : j ≤ E.l.length) : Calls Tryz.prog 90 #[.pointer (some ⟨E.a, 0, none⟩), .int .i64 (i : Int), .int .i64 (j : Int)] w fun e w' => e = .returned (.string ⟨(seg E.l i j).toArray⟩) ∧ Below w.heap.size w w' := by
  obtain ⟨ha, c0, c3, c4, c5, c6⟩ := h.cells
  have hol : osize E.o = E.l.length := by rw [osize_eq, ho.txt]
  have HS := Lib.hid (ho.txt ▸ slice_bel h.inv h.rope i j hij (by omega))
  clear h ho hol
  go_enter Tryz.func90, Tryz.ntmps90
  go_wp2_with (go_at_call 110; (with_reducible refine HS.out.mono ?_); rintro e w' ⟨rfl, hb⟩; have HB := Lib.hid hb; clear hb)
  go_ret
  exact ⟨rfl, HB.out⟩

def partN (E : AE) (f n : Nat) : List UInt8 := seg E.l (begN2 E.Ts f) (plaN E n)

set_option maxRecDepth 100000 in
theorem part_any {E : AE} {f n : Nat} {w : World} (h : E.At f n w) (ho : E.Ok) (hf : f ≤ E.Ts.length) (hn : n ≤ E.Ts.length) (hp : ∀ x, (rows 0 E.Ts)[n]? = some x → 0 ≤ (x.1.f : Int) + E.mo) (h1 : begN2 E.Ts f ≤ plaN E n) (h2 : plaN E n ≤ E.l.length) : Calls Tryz.prog 87 #[.pointer (some ⟨E.a, 0, none⟩)] w fun e w' => e = .returned (.string ⟨(partN E f n).toArray⟩) ∧ Below w.heap.size w w' := by
  have HBE : Hid (∀ X : World, Below w.heap.size w X → Calls Tryz.prog 73 #[.pointer (some ⟨E.a, 0, none⟩)] X (NatBel (begN2 E.Ts f) X)) := Lib.hid (fun X hX => begin_any (h.below hX) hf)
  have HPL : Hid (∀ X : World, Below w.heap.size w X → Calls Tryz.prog 91 #[.pointer (some ⟨E.a, 0, none⟩), .int .i64 (n : Int)] X (NatBel (plaN E n) X)) := Lib.hid (fun X hX => place_any (h.below hX) ho n hn hp)
  have HSL : Hid (∀ X : World, Below w.heap.size w X → Calls Tryz.prog 90 #[.pointer (some ⟨E.a, 0, none⟩), .int .i64 (begN2 E.Ts f : Int), .int .i64 (plaN E n : Int)] X (fun e w' => e = .returned (.string ⟨(partN E f n).toArray⟩) ∧ Below X.heap.size X w')) := Lib.hid (fun X hX => sliceA_any (h.below hX) ho _ _ h1 h2)
  obtain ⟨ha, c0, c3, c4, c5, c6⟩ := h.cells
  clear h ho hp
  generalize begN2 E.Ts f = bq at *
  generalize plaN E n = pq at *
  go_enter Tryz.func87, Tryz.ntmps87
  go_wp2
  have HC0 : Hid (w.drew.cell? ⟨E.a, 6, none⟩ = some (.int .i64 (n : Int))) := Lib.hid c6
  go_region_held3 (fun w' => w'.cell? ⟨E.a, 6, none⟩ = some (.int .i64 (n : Int)))
    (first | exact HC0.out | exact HC4.out | exact HC3.out | exact HC2.out | exact HC1.out)
    (first
      | (go_at_call 73; first
          | ((with_reducible refine (HBE.out _ HB2.out).mono ?_); rintro e w3 ⟨rfl, hb3⟩; have HC3 := Lib.hid (bcell hb3 HC2.out (Nat.lt_of_lt_of_le ha HB2.out.size)); have HB3 := Lib.hid (below_up HB2.out hb3); clear hb3)
          | ((with_reducible refine (HBE.out _ (Below.refl _ _).drew).mono ?_); rintro e w1 ⟨rfl, hb1⟩; have HC1 := Lib.hid (bcell hb1 HC0.out ha); have HB1 := Lib.hid (show Below w.heap.size w w1 from Below.of_drew (w := w) hb1); clear hb1))
      | (go_at_call 91; first
          | ((with_reducible refine (HPL.out _ HB1.out).mono ?_); rintro e w3 ⟨rfl, hb3⟩; have HC3 := Lib.hid (bcell hb3 HC1.out (Nat.lt_of_lt_of_le ha HB1.out.size)); have HB3 := Lib.hid (below_up HB1.out hb3); clear hb3)
          | ((with_reducible refine (HPL.out _ (Below.refl _ _).drew).mono ?_); rintro e w2 ⟨rfl, hb2⟩; have HC2 := Lib.hid (bcell hb2 HC0.out ha); have HB2 := Lib.hid (show Below w.heap.size w w2 from Below.of_drew (w := w) hb2); clear hb2))
      | (go_at_call 90; (with_reducible refine (HSL.out _ HB3.out).mono ?_); rintro e w4 ⟨rfl, hb4⟩; have HC4 := Lib.hid (bcell hb4 HC3.out (Nat.lt_of_lt_of_le ha HB3.out.size)); have HB4 := Lib.hid (below_up HB3.out hb4); clear hb4))
  all_goals go_wp2
  all_goals go_ret
  all_goals exact ⟨rfl, HB4.out⟩

end Go.Proofs.YtpnboieppkjfnaaGreat

/-
  Which line has a place: sort.Search, and lineOf.
-/
namespace Go.Proofs.YtpnboieppkjfnaaGreat
open Go.RowKit

/-- Whose end a place is behind. -/
def Mono (R : List (Ln × List Dg)) (p idx : Nat) : Prop := idx ≤ R.length ∧ ∀ (k : Nat) x, R[k]? = some x → (k < idx ↔ x.1.t ≤ p)

def BoolBel (b : Bool) (w : World) (e : Ending) (w' : World) : Prop := e = .returned (.bool b) ∧ Below w.heap.size w w'

def LnS (a q g i : Nat) (v pl p b : Value) (w : World) : Prop :=
  w.cell? ⟨a, 0, none⟩ = some v ∧ w.cell? ⟨q, 0, none⟩ = some pl ∧ w.cell? ⟨g, i * 2, none⟩ = some p ∧ w.cell? ⟨g, i * 2 + 1, none⟩ = some b
theorem LnS.next {a q g i : Nat} {v pl p b : Value} {w w' : World} (h : LnS a q g i v pl p b w) (hb : Below w.heap.size w w') (ha : a < w.heap.size) (hq : q < w.heap.size) (hg : g < w.heap.size) : LnS a q g i v pl p b w' :=
  ⟨bcell hb h.1 ha, bcell hb h.2.1 hq, bcell hb h.2.2.1 hg, bcell hb h.2.2.2 hg⟩

set_option maxRecDepth 100000 in
theorem lineOf1_any {w : World} {v : Value} {K : List (Nat × Int)} {R : List (Ln × List Dg)} (hrow : w.ownsRow 0 84 2 v K.length (kcells K)) (hread : KRead K R w) (a q p : Nat) (ha : w.cell? ⟨a, 0, none⟩ = some v) (hq : w.cell? ⟨q, 0, none⟩ = some (.int .i64 (p : Int))) (hal : a < w.heap.size) (hql : q < w.heap.size) (i : Nat) (x : Ln × List Dg) (hx : R[i]? = some x) (b : Bool) (hb : decide (p < x.1.t) = b) :
    Calls Tryz.prog 104 #[.int .i64 (i : Int), .pointer (some ⟨a, 0, none⟩), .pointer (some ⟨q, 0, none⟩)] w (BoolBel b w) := by
  have hlen := hread.1
  have hi : i < R.length := by
    rcases Nat.lt_or_ge i R.length with h | h
    · exact h
    · rw [List.getElem?_eq_none h] at hx; cases hx
  obtain ⟨k, hk⟩ : ∃ k, K[i]? = some k := ⟨_, List.getElem?_eq_getElem (by omega)⟩
  obtain ⟨ad, cap, rfl, hc1, hc2, hc3⟩ := krow_form hrow
  unfold maxLen at hc2
  obtain ⟨g, rfl, hg, k0, k1⟩ := hc3 i k hk
  have hs := hread.2 i k x hk hx
  have hiI : (i : Int) < (K.length : Int) := by omega
  have HC : Hid (∀ X : World, Below w.heap.size w X → Calls Tryz.prog 48 #[.agg #[.pointer (some ⟨k.1, 0, none⟩), .int .i64 k.2]] X (NatBel x.1.t X)) := Lib.hid (fun X hX => to_any (hs.2.sm (Sm.below hX)) hs.1)
  have HBD := Lib.hid hb
  have HA0 : Hid (LnS a q g i (.slice (some ⟨g, 0, none⟩) K.length cap) (.int .i64 (p : Int)) (.pointer (some ⟨k.1, 0, none⟩)) (.int .i64 k.2) w.drew) := Lib.hid (LnS.next ⟨ha, hq, k0, k1⟩ (Below.refl _ _).drew hal hql hg)
  clear hs hx hk hc3 hlen hread hrow hb hi
  go_enter Tryz.func104, Tryz.ntmps104
  go_wp2
  go_region_held3 (fun w' => w'.cell? ⟨a, 0, none⟩ = some (.slice (some ⟨g, 0, none⟩) K.length cap) ∧ w'.cell? ⟨q, 0, none⟩ = some (.int .i64 (p : Int)) ∧ w'.cell? ⟨g, i * 2, none⟩ = some (.pointer (some ⟨k.1, 0, none⟩)) ∧ w'.cell? ⟨g, i * 2 + 1, none⟩ = some (.int .i64 k.2))
    (first | exact HA0.out | exact HA3.out)
    (first | (go_at_call 48; (with_reducible refine (HC.out _ (Below.refl _ _).drew).mono ?_); rintro e w3 ⟨rfl, hb3⟩; have HA3 := Lib.hid (HA0.out.next hb3 hal hql hg); have HB3 := Lib.hid (show Below w.heap.size w w3 from Below.of_drew (w := w) hb3); clear hb3))
  all_goals go_wp2
  all_goals go_ret
  all_goals exact ⟨ret_bool HBD.out, HB3.out⟩

def SeRel (w : World) (idx n : Nat) (i j : Value) (wr : World) : Prop := ∃ a b : Nat, i = .int .i64 (a : Int) ∧ j = .int .i64 (b : Int) ∧ a ≤ idx ∧ idx ≤ b ∧ b ≤ n ∧ Below w.heap.size w wr

set_option maxRecDepth 100000 in
set_option maxHeartbeats 1600000 in
theorem search_any {w : World} (n idx : Nat) (hn : n ≤ 1000000) (hi : idx ≤ n) (a q : Nat)
    (hf : ∀ (k : Nat) (X : World), k < n → Below w.heap.size w X → Calls Tryz.prog 104 #[.int .i64 (k : Int), .pointer (some ⟨a, 0, none⟩), .pointer (some ⟨q, 0, none⟩)] X (BoolBel (decide (idx ≤ k)) X)) :
    Calls Tryz.prog 103 #[.int .i64 (n : Int), .func (.func 104) #[] #[.pointer (some ⟨a, 0, none⟩), .pointer (some ⟨q, 0, none⟩)]] w (NatBel idx w) := by
  have hnot : ∀ (x : Bool) (w : World), (Op.unary .not (.bool x)).run Tryz.prog w = .ok (.bool (!x)) w := fun _ _ => rfl
  have HF := Lib.hid hf
  have HS0 : Hid (SeRel w idx n (.int .i64 0) (.int .i64 (n : Int)) w) := Lib.hid ⟨0, n, rfl, rfl, Nat.zero_le _, hi, Nat.le_refl _, Below.refl _ _⟩
  clear hf
  go_enter Tryz.func103, Tryz.ntmps103
  go_wp2
  go_loopw [5, 6] (fun i j wr => SeRel w idx n i j wr) (fun i j _ => (intOf j - intOf i).toNat)
  case atStart => exact HS0.out
  case round =>
    obtain ⟨i, j, rfl, rfl, h1, h2, h3, hb⟩ := hrel
    by_cases hlt : i < j
    · have hm : ((i : Int) + (j : Int)) / 2 = (((i + j) / 2 : Nat) : Int) := by omega
      by_cases hd : idx ≤ (i + j) / 2
      · have HM : Hid (∀ X : World, Below w.heap.size w X → Calls Tryz.prog 104 #[.int .i64 (((i : Int) + (j : Int)) / 2), .pointer (some ⟨a, 0, none⟩), .pointer (some ⟨q, 0, none⟩)] X (BoolBel true X)) := Lib.hid (fun X hX => by
          have := HF.out ((i + j) / 2) X (by omega) hX
          rw [decide_eq_true hd] at this
          rw [hm]
          exact this)
        have HE : Hid (∀ X : World, Below w.heap.size w X → SeRel w idx n (.int .i64 (i : Int)) (.int .i64 (((i : Int) + (j : Int)) / 2)) X) := Lib.hid (fun X hX => ⟨i, (i + j) / 2, rfl, by rw [hm], h1, hd, by omega, hX⟩)
        have HB := Lib.hid hb
        clear hb hm
        go_wp2_with (go_at_call 104; (with_reducible refine (HM.out _ HB.out).mono ?_); rintro e w1 ⟨rfl, b1⟩; have HB1 := Lib.hid (below_up HB.out b1); clear b1)
        go_roundw
        case rel => exact HE.out _ HB1.out
        case measure => simp [intOf]; omega
      · have HM : Hid (∀ X : World, Below w.heap.size w X → Calls Tryz.prog 104 #[.int .i64 (((i : Int) + (j : Int)) / 2), .pointer (some ⟨a, 0, none⟩), .pointer (some ⟨q, 0, none⟩)] X (BoolBel false X)) := Lib.hid (fun X hX => by
          have := HF.out ((i + j) / 2) X (by omega) hX
          rw [decide_eq_false hd] at this
          rw [hm]
          exact this)
        have HE : Hid (∀ X : World, Below w.heap.size w X → SeRel w idx n (.int .i64 (((i : Int) + (j : Int)) / 2 + 1)) (.int .i64 (j : Int)) X) := Lib.hid (fun X hX => ⟨(i + j) / 2 + 1, j, by rw [hm]; rfl, rfl, by omega, h2, h3, hX⟩)
        have HB := Lib.hid hb
        clear hb hm
        go_wp2_with (go_at_call 104; (with_reducible refine (HM.out _ HB.out).mono ?_); rintro e w1 ⟨rfl, b1⟩; have HB1 := Lib.hid (below_up HB.out b1); clear b1)
        go_roundw
        case rel => exact HE.out _ HB1.out
        case measure => simp [intOf]; omega
    · go_wp2
      go_ret
      exact ⟨ret_nat (by omega), hb⟩

/-- The line that has a place, or else the last one. -/
def lofN (R : List (Ln × List Dg)) (p : Nat) : Nat := min (R.findIdx fun x => decide (p < x.1.t)) (R.length - 1)

set_option maxRecDepth 100000 in
theorem lineOf_any {w : World} {v : Value} {K : List (Nat × Int)} {R : List (Ln × List Dg)} (hrow : w.ownsRow 0 84 2 v K.length (kcells K)) (hread : KRead K R w) (fr te mo : Int) (p : Nat) (hR : R.length ≤ 100000) (hmono : Mono R p (R.findIdx fun x => decide (p < x.1.t))) :
    Calls Tryz.prog 85 #[.agg #[v, .int .i64 fr, .int .i64 te, .int .i64 mo], .int .i64 (p : Int)] w (NatBel (lofN R p) w) := by
  obtain ⟨idx, hidx⟩ : ∃ idx, (R.findIdx fun x => decide (p < x.1.t)) = idx := ⟨_, rfl⟩
  unfold lofN
  rw [hidx] at hmono ⊢
  have hlen := hread.1
  obtain ⟨ad, cap, hv, hc1, hc2, -⟩ := krow_form hrow
  unfold maxLen at hc2
  have HSE : Hid (∀ X : World, Below w.heap.size w X → X.cell? ⟨w.heap.size, 0, none⟩ = some v → X.cell? ⟨w.heap.size + 1, 0, none⟩ = some (.int .i64 (p : Int)) → w.heap.size + 1 < X.heap.size → Calls Tryz.prog 103 #[.int .i64 (K.length : Int), .func (.func 104) #[] #[.pointer (some ⟨w.heap.size, 0, none⟩), .pointer (some ⟨w.heap.size + 1, 0, none⟩)]] X (NatBel idx X)) := Lib.hid (by
    intro X hX c0 c1 hz
    refine search_any K.length idx (by omega) (by rw [hlen]; exact hmono.1) _ _ fun k Y hk hY => ?_
    obtain ⟨x, hx⟩ : ∃ x, R[k]? = some x := ⟨_, List.getElem?_eq_getElem (by omega)⟩
    have hs : Sm w Y := (Sm.below hX).trans (Sm.below hY)
    refine lineOf1_any (own_sm hrow hs (by decide)) (hread.sm hs) _ _ p (bcell hY c0 (by omega)) (bcell hY c1 (by omega)) (Nat.lt_of_lt_of_le (show w.heap.size < X.heap.size by omega) hY.size) (Nat.lt_of_lt_of_le hz hY.size) k x hx _ ?_
    have := hmono.2 k x hx
    exact decide_eq_decide.2 (by omega))
  subst hv
  have hres : max (0 : Int) (min (idx : Int) ((K.length : Int) - 1)) = ((min idx (R.length - 1) : Nat) : Int) := by
    rw [hlen]
    omega
  have HR := Lib.hid hres
  have hKs : (K.length : Int) ≤ 100000 := by omega
  clear hres hlen hread hrow hmono hidx
  go_enter Tryz.func85, Tryz.ntmps85
  go_wp2_with (go_at_call 103; (with_reducible refine (HSE.out _ ?_ ?_ ?_ ?_).mono ?_))
  · exact ((Below.refl _ _).alloc (Nat.le_refl _) _).alloc (by simp) _
  · rw [World.cell?_alloc_lt _ _ _ (by simp), Lib.cell_of_heap (heap_alloc_new w _)]
    rfl
  · have := heap_alloc_new (w.alloc (.cells #[.slice ad K.length cap, .int .i64 fr, .int .i64 te, .int .i64 mo] 62)) (.cells #[.int .i64 (p : Int)] 3)
    rw [show (w.alloc (.cells #[.slice ad K.length cap, .int .i64 fr, .int .i64 te, .int .i64 mo] 62)).heap.size = w.heap.size + 1 from by simp] at this
    rw [Lib.cell_of_heap this]
    rfl
  · simp
  · rintro e w1 ⟨rfl, b1⟩
    have c0 : w1.cell? ⟨w.heap.size, 0, none⟩ = some (.slice ad K.length cap) := bcell b1 (by
      rw [World.cell?_alloc_lt _ _ _ (by simp), Lib.cell_of_heap (heap_alloc_new w _)]
      rfl) (by simp; omega)
    have HB : Hid (Below w.heap.size w w1) := Lib.hid ((((Below.refl _ _).alloc (Nat.le_refl _) _).alloc (by simp) _).trans (b1.mono (by simp; omega)))
    clear b1
    go_wp2
    go_ret
    exact ⟨ret_nat HR.out, HB.out⟩

end Go.Proofs.YtpnboieppkjfnaaGreat
