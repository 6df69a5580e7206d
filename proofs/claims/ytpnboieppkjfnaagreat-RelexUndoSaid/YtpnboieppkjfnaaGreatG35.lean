/-
  Texts of the proof, put together: ReD.
-/
import Derived.Test.YtpnboieppkjfnaaGreatG34
import Derived.Deep.LoopGhost

/-
  What an edit touches: touched and lex of an anew, walked.
-/
namespace Go.Proofs.YtpnboieppkjfnaaGreat
open Go.RowKit

theorem AE.At.set {E : AE} {f n : Nat} {w : World} (h : E.At f n w) {f' n' j : Nat} {v : Int} (hv : (anewObj E.ev (E.fr : Int) (E.te : Int) E.mf E.r (f' : Int) (n' : Int)) = .cells (#[E.ev, .int .i64 (E.fr : Int), .int .i64 (E.te : Int), .int .i64 E.mf, .pointer E.r, .int .i64 (f : Int), .int .i64 (n : Int)].setIfInBounds j (.int .i64 v)) 160 (0, 0)) : E.At f' n' (w.setCell ⟨E.a, j, none⟩ (.int .i64 v)) := by
  have hs : Sm w (w.setCell ⟨E.a, j, none⟩ (.int .i64 v)) := fun k o hk ho => by
    rw [heap_setCell_other w ⟨E.a, j, none⟩ k _ (fun e => ?_)]
    · exact hk
    · subst e
      have := h.obj
      rw [hk] at this
      obtain ⟨cs, ty, rfl, -, -, h3⟩ := ho
      simp only [anewObj, Option.some.injEq, Obj.cells.injEq] at this
      exact h3 this.2.1
  have hz : w.heap.size = (w.setCell ⟨E.a, j, none⟩ (.int .i64 v)).heap.size := by simp [World.setCell]
  have hnode : ∀ b t, E.M b = some t → (w.setCell ⟨E.a, j, none⟩ (.int .i64 v)).heap[b]? = w.heap[b]? := fun b t hb => by
    refine heap_setCell_other w ⟨E.a, j, none⟩ b _ fun e => ?_
    subst e
    obtain ⟨lp, rp, d, st, q, br, h1, _⟩ := h.inv.node _ t hb
    have := h.obj
    rw [h1] at this
    simp [anewObj, nodeObj] at this
  have hi : Inv E.B [] E.M (w.setCell ⟨E.a, j, none⟩ (.int .i64 v)) := h.inv.same (Nat.le_of_eq hz) hnode
  refine ⟨hi, ?_, ?_, own_sm h.row hs (by decide), h.read.sm hs⟩
  · have := h.obj
    unfold anewObj at this
    rw [heap_setCell_same w E.a j _ _ _ this, hv]
  · rcases h.rope with h1 | ⟨b, p, e, hn, hh, hp⟩
    · exact .inl h1
    · exact .inr ⟨b, p, e, hn, hs _ _ hh ⟨_, _, rfl, by decide, by decide⟩, hp⟩

theorem AE.At.free {E : AE} {f n : Nat} {w : World} (h : E.At f n w) (k : Nat) : w.frozen? ⟨E.a, k, none⟩ = false := frozen_of_row w E.a k _ _ h.obj

def AE.lf (E : AE) : Nat := lofN (rows 0 E.Ts) E.fr
def AE.n0 (E : AE) : Nat := min (lofN (rows 0 E.Ts) E.te + 1) E.Ts.length

/-- Where parts begin and end, behind the edit. -/
structure AE.Geo (E : AE) : Prop where
  lf : E.lf ≤ E.Ts.length
  place : ∀ m, E.n0 ≤ m → m ≤ E.Ts.length → (∀ x, (rows 0 E.Ts)[m]? = some x → 0 ≤ (x.1.f : Int) + E.mo) ∧ plaN E m ≤ E.l.length
  begin_ : ∀ m f, E.n0 ≤ m → m ≤ E.Ts.length → f ≤ E.lf → begN2 E.Ts f ≤ plaN E m
  mono1 : Mono (rows 0 E.Ts) E.fr ((rows 0 E.Ts).findIdx fun x => decide (E.fr < x.1.t))
  mono2 : Mono (rows 0 E.Ts) E.te ((rows 0 E.Ts).findIdx fun x => decide (E.te < x.1.t))
  few : E.Ts.length ≤ 70000

theorem part_at {E : AE} {f n : Nat} {w : World} (h : E.At f n w) (ho : E.Ok) (hg : E.Geo) (hf : f ≤ E.lf) (hn0 : E.n0 ≤ n) (hn : n ≤ E.Ts.length) : Calls Tryz.prog 87 #[.pointer (some ⟨E.a, 0, none⟩)] w fun e w' => e = .returned (.string ⟨(partN E f n).toArray⟩) ∧ Below w.heap.size w w' :=
  part_any h ho (Nat.le_trans hf hg.lf) hn (hg.place n hn0 hn).1 (hg.begin_ n f hn0 hn hf) (hg.place n hn0 hn).2

theorem partN_len (E : AE) (f n : Nat) : (partN E f n).length ≤ E.l.length := by
  unfold partN seg
  rw [List.length_take, List.length_drop]
  omega

theorem spliced_at {l : List UInt8} {b : Bool} (h : spB l = b) (hl : l.length ≤ 65536) (w : World) : Calls Tryz.prog 86 #[.string ⟨l.toArray⟩] w (BoolPost b w) := by
  have := spliced_any ⟨l.toArray⟩ w (by show l.toArray.size ≤ _; simp; omega)
  rw [show (⟨l.toArray⟩ : ByteArray).data.toList = l from by simp, h] at this
  exact this

def TSpec (E : AE) (first next : Nat) : Prop :=
  E.n0 ≤ next ∧ next ≤ E.Ts.length ∧ (next = E.Ts.length ∨ spB (partN E E.lf next) = false) ∧ (∀ m, E.n0 ≤ m → m < next → spB (partN E E.lf m) = true) ∧
  ((first = E.lf ∧ (E.lf = 0 ∨ spB (partN E E.lf next) = false)) ∨ (first + 1 = E.lf ∧ spB (partN E E.lf next) = true))
def TPost (E : AE) (w : World) (e : Ending) (w' : World) : Prop :=
  e = .returned (.pointer (some ⟨E.a, 0, none⟩)) ∧ ∃ first next, E.At first next w' ∧ TSpec E first next ∧ Below w.heap.size w w'

/-- On the way: no line that is not spliced was passed by. -/
def TMid (E : AE) (n : Nat) : Prop := E.n0 ≤ n ∧ n ≤ E.Ts.length ∧ ∀ m, E.n0 ≤ m → m < n → spB (partN E E.lf m) = true

structure TwS (a : Nat) (v : Value) (n : Nat) (w : World) : Prop where
  c0 : w.cell? ⟨a, 0, none⟩ = some v
  c6 : w.cell? ⟨a, 6, none⟩ = some (.int .i64 (n : Int))
theorem TwS.next {a : Nat} {v : Value} {n : Nat} {w w' : World} (h : TwS a v n w) (hb : Below w.heap.size w w') (ha : a < w.heap.size) : TwS a v n w' := ⟨bcell hb h.c0 ha, bcell hb h.c6 ha⟩

/-- The edit, as its box holds it. -/
structure EdS (e : Nat) (v : Value) (fr te : Nat) (mo : Int) (w : World) : Prop where
  c0 : w.cell? ⟨e, 0, none⟩ = some v
  c1 : w.cell? ⟨e, 1, none⟩ = some (.int .i64 (fr : Int))
  c2 : w.cell? ⟨e, 2, none⟩ = some (.int .i64 (te : Int))
  c3 : w.cell? ⟨e, 3, none⟩ = some (.int .i64 mo)
theorem EdS.next {e : Nat} {v : Value} {fr te : Nat} {mo : Int} {w w' : World} (h : EdS e v fr te mo w) (hb : Below w.heap.size w w') (he : e < w.heap.size) : EdS e v fr te mo w' :=
  ⟨bcell hb h.c0 he, bcell hb h.c1 he, bcell hb h.c2 he, bcell hb h.c3 he⟩
theorem EdS.set {e : Nat} {v : Value} {fr te : Nat} {mo : Int} {w : World} (h : EdS e v fr te mo w) {a j : Nat} (u : Value) (ha : e ≠ a) : EdS e v fr te mo (w.setCell ⟨a, j, none⟩ u) := by
  have hk : (w.setCell ⟨a, j, none⟩ u).heap[e]? = w.heap[e]? := heap_setCell_other w ⟨a, j, none⟩ e _ ha
  exact ⟨(World.cell?_of_block (w := w) hk).trans h.c0, (World.cell?_of_block (w := w) hk).trans h.c1, (World.cell?_of_block (w := w) hk).trans h.c2, (World.cell?_of_block (w := w) hk).trans h.c3⟩

set_option maxRecDepth 100000 in
set_option maxHeartbeats 3200000 in
theorem touched_any {E : AE} {w : World} (ha : E.a = w.heap.size + 1) (hi : Inv E.B [] E.M w) (hr : RP E.M w E.r E.o) (hrow : w.ownsRow 0 84 2 E.ev E.K.length (kcells E.K)) (hread : KRead E.K (rows 0 E.Ts) w) (ho : E.Ok) (hg : E.Geo) :
    Calls Tryz.prog 68 #[.agg #[E.ev, .int .i64 (E.fr : Int), .int .i64 (E.te : Int), .int .i64 E.mf], .pointer E.r] w (TPost E w) := by
  have hlen := hread.1
  rw [rows_len] at hlen
  have hK : (E.K.length : Int) ≤ 100000 := by have := hg.few; omega
  obtain ⟨ad, cap, hev, hc1, hc2, -⟩ := krow_form hrow
  unfold maxLen at hc2
  have b0 : Below w.heap.size w ((w.alloc (.cells #[E.ev, .int .i64 (E.fr : Int), .int .i64 (E.te : Int), .int .i64 E.mf] 62)).alloc (anewObj E.ev (E.fr : Int) (E.te : Int) E.mf E.r 0 0)) := ((Below.refl _ _).alloc (Nat.le_refl _) _).alloc (by simp) _
  have hat0 : E.At 0 0 ((w.alloc (.cells #[E.ev, .int .i64 (E.fr : Int), .int .i64 (E.te : Int), .int .i64 E.mf] 62)).alloc (anewObj E.ev (E.fr : Int) (E.te : Int) E.mf E.r 0 0)) := by
    have k : Kr E.B [] E.M w E.M _ := Kr.of_below hi b0
    have s : Sm w _ := Sm.below b0
    refine ⟨k.inv, ?_, hr.ext hi k s, own_sm hrow s (by decide), hread.sm s⟩
    rw [ha, show w.heap.size + 1 = (w.alloc (.cells #[E.ev, .int .i64 (E.fr : Int), .int .i64 (E.te : Int), .int .i64 E.mf] 62)).heap.size from by simp]
    exact heap_alloc_new _ _
  have HL1 : Hid (∀ X : World, Below w.heap.size w X → Calls Tryz.prog 85 #[.agg #[E.ev, .int .i64 (E.fr : Int), .int .i64 (E.te : Int), .int .i64 E.mf], .int .i64 (E.fr : Int)] X (NatBel E.lf X)) := Lib.hid (fun X hX => lineOf_any (own_sm hrow (Sm.below hX) (by decide)) (hread.sm (Sm.below hX)) _ _ _ E.fr (by rw [rows_len]; have := hg.few; omega) hg.mono1)
  have HL2 : Hid (∀ X : World, Below w.heap.size w X → Calls Tryz.prog 85 #[.agg #[E.ev, .int .i64 (E.fr : Int), .int .i64 (E.te : Int), .int .i64 E.mf], .int .i64 (E.te : Int)] X (NatBel (lofN (rows 0 E.Ts) E.te) X)) := Lib.hid (fun X hX => lineOf_any (own_sm hrow (Sm.below hX) (by decide)) (hread.sm (Sm.below hX)) _ _ _ E.te (by rw [rows_len]; have := hg.few; omega) hg.mono2)
  have HA0 := Lib.hid hat0
  have HB0 := Lib.hid b0
  have HGE := Lib.hid hg
  have HO := Lib.hid ho
  have HLEN := Lib.hid hlen
  clear hat0 b0 hg ho hlen hread hrow hr hi
  have HEV := Lib.hid hev
  rw [hev] at HL1 HL2 HA0 HB0 ⊢
  clear hev
  have HHA := Lib.hid ha
  have hlf : (E.lf : Int) ≤ 100000 := by have := HGE.out.lf; have := HGE.out.few; omega
  have hl2 : ((lofN (rows 0 E.Ts) E.te : Nat) : Int) ≤ 100000 := by
    have := HGE.out.few
    unfold lofN
    rw [rows_len]
    omega
  have hn0 : min (((lofN (rows 0 E.Ts) E.te : Nat) : Int) + 1) (E.K.length : Int) = (E.n0 : Int) := by
    unfold AE.n0
    have := HLEN.out
    omega
  have HN0 := Lib.hid hn0
  clear hn0
  obtain ⟨l2, hl2e⟩ : ∃ l2, lofN (rows 0 E.Ts) E.te = l2 := ⟨_, rfl⟩
  rw [hl2e] at HL2 hl2 HN0
  clear hl2e
  go_enter Tryz.func68, Tryz.ntmps68
  go_wp2_with fail
  refine (HL1.out _ HB0.out).mono ?_
  rintro e w1 ⟨rfl, b1⟩
  have HA1 := Lib.hid (HA0.out.below b1)
  have HB1 := Lib.hid (below_up HB0.out b1)
  have hsz : w.heap.size + 1 < w1.heap.size := by
    have := b1.size
    simp [anewObj] at this
    omega
  have HE1 : Hid (EdS w.heap.size (.slice ad E.K.length cap) E.fr E.te E.mf w1) := Lib.hid (by
    have h0 : EdS w.heap.size (.slice ad E.K.length cap) E.fr E.te E.mf (w.alloc (.cells #[.slice ad E.K.length cap, .int .i64 (E.fr : Int), .int .i64 (E.te : Int), .int .i64 E.mf] 62)) := by
      refine ⟨?_, ?_, ?_, ?_⟩ <;> (rw [Lib.cell_of_heap (heap_alloc_new w _)]; rfl)
    have h1 := h0.next ((Below.refl _ _).alloc (Nat.le_refl _) (anewObj (.slice ad E.K.length cap) (E.fr : Int) (E.te : Int) E.mf E.r 0 0)) (by simp)
    exact h1.next b1 (by simp; omega))
  have z5 : w1.frozen? ⟨E.a, 5, none⟩ = false := HA1.out.free 5
  have k5 : w1.cell? ⟨E.a, 5, none⟩ = some (.int .i64 0) := HA1.out.cells.2.2.2.2.1
  rw [HHA.out] at z5 k5
  clear b1 HA0
  go_wp2_with fail
  have hA2 : E.At E.lf 0 (w1.setCell ⟨w.heap.size + 1, 5, none⟩ (.int .i64 (E.lf : Int))) := by
    have := HA1.out.set (f' := E.lf) (n' := 0) (j := 5) (v := (E.lf : Int)) rfl
    rw [HHA.out] at this
    exact this
  have hE2 : EdS w.heap.size (.slice ad E.K.length cap) E.fr E.te E.mf (w1.setCell ⟨w.heap.size + 1, 5, none⟩ (.int .i64 (E.lf : Int))) := HE1.out.set _ (by omega)
  have hB2 : Below w.heap.size w (w1.setCell ⟨w.heap.size + 1, 5, none⟩ (.int .i64 (E.lf : Int))) := HB1.out.setCell (by simp) _
  have hz2 : w.heap.size + 1 < (w1.setCell ⟨w.heap.size + 1, 5, none⟩ (.int .i64 (E.lf : Int))).heap.size := by simp [World.setCell]; omega
  obtain ⟨w2, hw2⟩ : ∃ w2, w1.setCell ⟨w.heap.size + 1, 5, none⟩ (.int .i64 (E.lf : Int)) = w2 := ⟨_, rfl⟩
  rw [hw2] at hA2 hE2 hB2 hz2 ⊢
  obtain ⟨d0, d1, d2, d3⟩ := hE2
  have HD0 : Hid (EdS w.heap.size (.slice ad E.K.length cap) E.fr E.te E.mf w2.drew) := Lib.hid (EdS.next ⟨d0, d1, d2, d3⟩ (Below.refl _ _).drew (by omega))
  have z6 : w2.frozen? ⟨w.heap.size + 1, 6, none⟩ = false := by rw [← HHA.out]; exact hA2.free 6
  have k6 : w2.cell? ⟨w.heap.size + 1, 6, none⟩ = some (.int .i64 0) := by rw [← HHA.out]; exact hA2.cells.2.2.2.2.2
  have HA2 := Lib.hid hA2
  have HB2 := Lib.hid hB2
  have hwr : IntKind.i64.wrap ((l2 : Int) + 1) = (l2 : Int) + 1 := IntWalk.i64_in _ (by omega)
  clear hw2 hA2 hB2 HA1 HB1 HE1 z5 k5
  go_region_held3 (fun w' => w'.cell? ⟨w.heap.size, 0, none⟩ = some (.slice ad E.K.length cap) ∧ w'.cell? ⟨w.heap.size, 1, none⟩ = some (.int .i64 (E.fr : Int)) ∧ w'.cell? ⟨w.heap.size, 2, none⟩ = some (.int .i64 (E.te : Int)) ∧ w'.cell? ⟨w.heap.size, 3, none⟩ = some (.int .i64 E.mf))
    (first | exact ⟨HD0.out.c0, HD0.out.c1, HD0.out.c2, HD0.out.c3⟩ | exact ⟨HD3.out.c0, HD3.out.c1, HD3.out.c2, HD3.out.c3⟩ | go_keep)
    (first | (go_at_call 85; (with_reducible refine (HL2.out _ HB2.out.drew).mono ?_); rintro e w3 ⟨rfl, b3⟩; have HD3 := Lib.hid (HD0.out.next b3 (by simp; omega)); have HA3 := Lib.hid ((HA2.out.below (Below.refl _ _).drew).below b3); have HB3 := Lib.hid (below_up HB2.out.drew b3); have z63 : w3.frozen? ⟨w.heap.size + 1, 6, none⟩ = false := (by rw [← HHA.out]; exact HA3.out.free 6); have k63 : w3.cell? ⟨w.heap.size + 1, 6, none⟩ = some (.int .i64 0) := (by rw [← HHA.out]; exact HA3.out.cells.2.2.2.2.2); clear b3))
  have hA4 : E.At E.lf E.n0 (w3.setCell ⟨w.heap.size + 1, 6, none⟩ (.int .i64 (min ((l2 : Int) + 1) (E.K.length : Int)))) := by
    have := HA3.out.set (f' := E.lf) (n' := E.n0) (j := 6) (v := min ((l2 : Int) + 1) (E.K.length : Int)) (by rw [HN0.out]; rfl)
    rw [HHA.out] at this
    exact this
  have hB4 : Below w.heap.size w (w3.setCell ⟨w.heap.size + 1, 6, none⟩ (.int .i64 (min ((l2 : Int) + 1) (E.K.length : Int)))) := HB3.out.setCell (by simp) _
  obtain ⟨w4, hw4⟩ : ∃ w4, w3.setCell ⟨w.heap.size + 1, 6, none⟩ (.int .i64 (min ((l2 : Int) + 1) (E.K.length : Int))) = w4 := ⟨_, rfl⟩
  rw [hw4] at hA4 hB4 ⊢
  have HA4 := Lib.hid hA4
  have HB4 := Lib.hid hB4
  have HM4 : Hid (TMid E E.n0) := Lib.hid ⟨Nat.le_refl _, by unfold AE.n0; exact Nat.min_le_right _ _, fun m h1 h2 => by omega⟩
  clear hw4 hA4 hB4 HA3 HB3 HD3 z63 k63 z6 k6 d0 d1 d2 d3 hz2 HD0 HA2 HB2 hsz HL1 HL2
  go_wp2_with fail
  go_loopg [29] (E.Ts.length) (fun gk t wr => ∃ n, E.At E.lf n wr ∧ TMid E n ∧ E.Ts.length - n ≤ gk ∧ Below w.heap.size w wr)
  case atStart => exact ⟨E.n0, HA4.out, HM4.out, Nat.sub_le _ _, HB4.out⟩
  case round =>
    obtain ⟨n, hA, hM, hgk, hB⟩ := hrel
    have hM' := hM
    obtain ⟨m1, m2, m3⟩ := hM'
    obtain ⟨-, c0, -, -, c5, c6⟩ := hA.cells
    rw [HHA.out, HEV.out] at c0
    rw [HHA.out] at c5 c6
    have ha : w.heap.size + 1 < wr.heap.size := by rw [← HHA.out]; exact hA.cells.1
    have z6 : wr.frozen? ⟨w.heap.size + 1, 6, none⟩ = false := by rw [← HHA.out]; exact hA.free 6
    have z5 : wr.frozen? ⟨w.heap.size + 1, 5, none⟩ = false := by rw [← HHA.out]; exact hA.free 5
    have HPA : Hid (∀ X : World, Below wr.heap.size wr X → Calls Tryz.prog 87 #[.pointer (some ⟨w.heap.size + 1, 0, none⟩)] X (fun e w' => e = .returned (.string ⟨(partN E E.lf n).toArray⟩) ∧ Below X.heap.size X w')) := Lib.hid (fun X hX => by
      have := part_at (hA.below hX) HO.out HGE.out (Nat.le_refl _) m1 m2
      rw [HHA.out] at this
      exact this)
    have hpl := partN_len E E.lf n
    have hol := HO.out.new
    have HA := Lib.hid hA
    have HM := Lib.hid hM
    have HGK := Lib.hid hgk
    have HB := Lib.hid hB
    clear hA hM hgk hB m3
    by_cases hlt : n < E.Ts.length
    · have hltI : decide (n < E.K.length) = true := decide_eq_true (by have := HLEN.out; omega)
      have hltJ : (n : Int) < (E.K.length : Int) := by have := HLEN.out; omega
      cases hsp : spB (partN E E.lf n) with
      | true =>
        have HSP : Hid (∀ X : World, Calls Tryz.prog 86 #[.string ⟨(partN E E.lf n).toArray⟩] X (BoolPost true X)) := Lib.hid (fun X => spliced_at hsp (by omega) X)
        have HSB := Lib.hid hsp
        have HNX : Hid (∀ X : World, E.At E.lf n X → Below w.heap.size w X → ∃ n', E.At E.lf n' (X.setCell ⟨w.heap.size + 1, 6, none⟩ (.int .i64 ((n : Int) + 1))) ∧ TMid E n' ∧ E.Ts.length - n' ≤ E.Ts.length - (n + 1) ∧ Below w.heap.size w (X.setCell ⟨w.heap.size + 1, 6, none⟩ (.int .i64 ((n : Int) + 1)))) := Lib.hid (fun X hX hbX => by
          have := hX.set (f' := E.lf) (n' := n + 1) (j := 6) (v := (n : Int) + 1) rfl
          rw [HHA.out] at this
          refine ⟨n + 1, this, ⟨by omega, by omega, fun m h1 h2 => ?_⟩, Nat.le_refl _, hbX.setCell (by simp) _⟩
          rcases Nat.lt_or_ge m n with h3 | h3
          · exact HM.out.2.2 m h1 h3
          · rw [show m = n from by omega]
            exact HSB.out)
        have hms : E.Ts.length - (n + 1) < E.Ts.length - n := by omega
        have HMS : Hid (E.Ts.length - (n + 1) < E.Ts.length - n) := Lib.hid hms
        clear hsp hpl hol hms HSB
        generalize partN E E.lf n = pn at *
        have HS0 : Hid (TwS (w.heap.size + 1) (.slice ad E.K.length cap) n wr.drew) := Lib.hid (TwS.next ⟨c0, c6⟩ (Below.refl _ _).drew ha)
        go_wp2_with fail
        go_region_held3 (fun w' => w'.cell? ⟨w.heap.size + 1, 0, none⟩ = some (.slice ad E.K.length cap) ∧ w'.cell? ⟨w.heap.size + 1, 6, none⟩ = some (.int .i64 (n : Int)))
          (first | exact ⟨HS0.out.c0, HS0.out.c6⟩ | exact ⟨HS1.out.c0, HS1.out.c6⟩ | go_keep)
          (first
            | (go_at_call 87; (with_reducible refine (HPA.out _ (Below.refl _ _).drew).mono ?_); rintro e x1 ⟨rfl, y1⟩; have HS1 := Lib.hid (HS0.out.next y1 ha); have HA1 := Lib.hid ((HA.out.below (Below.refl _ _).drew).below y1); have HB1 := Lib.hid (below_up HB.out.drew y1); clear y1)
            | (go_at_call 86; (with_reducible refine (HSP.out _).mono ?_); rintro e w' ⟨rfl, rfl⟩))
        all_goals
          have q6 : x1.cell? ⟨w.heap.size + 1, 6, none⟩ = some (.int .i64 (n : Int)) := HS1.out.c6
          have qz : x1.frozen? ⟨w.heap.size + 1, 6, none⟩ = false := by rw [← HHA.out]; exact HA1.out.free 6
          have hwn : IntKind.i64.wrap ((n : Int) + 1) = (n : Int) + 1 := IntWalk.i64_in _ (by have := HGE.out.few; omega)
          go_wp2_with fail
          go_roundg (E.Ts.length - (n + 1))
          case rel => exact HNX.out _ HA1.out HB1.out
          case measure => exact Nat.lt_of_lt_of_le HMS.out HGK.out
      | false =>
        have HSP : Hid (∀ X : World, Calls Tryz.prog 86 #[.string ⟨(partN E E.lf n).toArray⟩] X (BoolPost false X)) := Lib.hid (fun X => spliced_at hsp (by omega) X)
        have HSB := Lib.hid hsp
        have HFI : Hid (∀ (X : World) (f : Nat), E.At f n X → TSpec E f n → Below w.heap.size w X → TPost E w (.returned (.pointer (some ⟨w.heap.size + 1, 0, none⟩))) X) := Lib.hid (fun X f h1 h2 h3 => ⟨by rw [HHA.out], f, n, h1, h2, h3⟩)
        have HTS : Hid (TSpec E E.lf n) := Lib.hid ⟨m1, m2, .inr hsp, HM.out.2.2, .inl ⟨rfl, .inr hsp⟩⟩
        clear hsp hpl hol
        generalize partN E E.lf n = pn at *
        have HS0 : Hid (TwS (w.heap.size + 1) (.slice ad E.K.length cap) n wr.drew) := Lib.hid (TwS.next ⟨c0, c6⟩ (Below.refl _ _).drew ha)
        go_wp2_with fail
        go_region_held3 (fun w' => w'.cell? ⟨w.heap.size + 1, 0, none⟩ = some (.slice ad E.K.length cap) ∧ w'.cell? ⟨w.heap.size + 1, 6, none⟩ = some (.int .i64 (n : Int)))
          (first | exact ⟨HS0.out.c0, HS0.out.c6⟩ | exact ⟨HS1.out.c0, HS1.out.c6⟩ | go_keep)
          (first
            | (go_at_call 87; (with_reducible refine (HPA.out _ (Below.refl _ _).drew).mono ?_); rintro e x1 ⟨rfl, y1⟩; have HS1 := Lib.hid (HS0.out.next y1 ha); have HA1 := Lib.hid ((HA.out.below (Below.refl _ _).drew).below y1); have HB1 := Lib.hid (below_up HB.out.drew y1); have HX1 := Lib.hid (show Below wr.heap.size wr x1 from Below.of_drew (w := wr) y1); clear y1)
            | (go_at_call 86; (with_reducible refine (HSP.out _).mono ?_); rintro e w' ⟨rfl, rfl⟩))
        all_goals
          have q5 : x1.cell? ⟨w.heap.size + 1, 5, none⟩ = some (.int .i64 (E.lf : Int)) := by rw [← HHA.out]; exact HA1.out.cells.2.2.2.2.1
          rcases Nat.eq_zero_or_pos E.lf with hz | hz
          · have hz0 : decide (0 < E.lf) = false := decide_eq_false (by omega)
            have hzI : ¬ (0 : Int) < (E.lf : Int) := by omega
            have HZ := Lib.hid hz
            clear hz
            go_wp2_with fail
            go_ret
            exact HFI.out _ _ HA1.out HTS.out HB1.out
          · have hz0 : decide (0 < E.lf) = true := decide_eq_true hz
            have hzI : (0 : Int) < (E.lf : Int) := by omega
            go_wp2_with (first
              | (go_at_call 87; (with_reducible refine (HPA.out _ HX1.out).mono ?_); rintro e x2 ⟨rfl, y2⟩; have HA2 := Lib.hid (HA1.out.below y2); have HB2 := Lib.hid (below_up HB1.out y2); clear y2)
              | (go_at_call 86; (with_reducible refine (HSP.out _).mono ?_); rintro e w' ⟨rfl, rfl⟩))
            go_ret
            exact HFI.out _ _ HA2.out HTS.out HB2.out
    · have hnl : n = E.Ts.length := by omega
      have hltI : decide (n < E.K.length) = false := decide_eq_false (by have := HLEN.out; omega)
      have hltJ : ¬ (n : Int) < (E.K.length : Int) := by have := HLEN.out; omega
      have HFI : Hid (∀ (X : World) (f : Nat), E.At f n X → TSpec E f n → Below w.heap.size w X → TPost E w (.returned (.pointer (some ⟨w.heap.size + 1, 0, none⟩))) X) := Lib.hid (fun X f h1 h2 h3 => ⟨by rw [HHA.out], f, n, h1, h2, h3⟩)
      rcases Nat.eq_zero_or_pos E.lf with hz | hz
      · have hz0 : decide (0 < E.lf) = false := decide_eq_false (by omega)
        have hzI : ¬ (0 : Int) < (E.lf : Int) := by omega
        have HTS : Hid (TSpec E E.lf n) := Lib.hid ⟨m1, m2, .inl (by omega), HM.out.2.2, .inl ⟨rfl, .inl hz⟩⟩
        have HZ := Lib.hid hz
        have HLL := Lib.hid hnl
        clear hz hnl
        go_wp2
        go_quiet (fail)
        obtain ⟨x1, hx1⟩ : ∃ x1, wr.drewN nq = x1 := ⟨_, rfl⟩
        have HX1 : Hid (Below wr.heap.size wr x1) := Lib.hid (by rw [← hx1]; exact Below.of_drews _ _)
        have HA1 := Lib.hid (HA.out.below HX1.out)
        have HB1 := Lib.hid (below_up HB.out HX1.out)
        rw [hx1]
        clear hx1
        have q5 : x1.cell? ⟨w.heap.size + 1, 5, none⟩ = some (.int .i64 (E.lf : Int)) := by rw [← HHA.out]; exact HA1.out.cells.2.2.2.2.1
        go_wp2_with fail
        go_ret
        exact HFI.out _ _ HA1.out HTS.out HB1.out
      · have hz0 : decide (0 < E.lf) = true := decide_eq_true hz
        have hzI : (0 : Int) < (E.lf : Int) := by omega
        cases hsp : spB (partN E E.lf n) with
        | true =>
          have HSP : Hid (∀ X : World, Calls Tryz.prog 86 #[.string ⟨(partN E E.lf n).toArray⟩] X (BoolPost true X)) := Lib.hid (fun X => spliced_at hsp (by omega) X)
          have HSB := Lib.hid hsp
          clear hsp
          · skip
            have hlp : (E.lf : Int) ≤ 100000 := by have := HGE.out.lf; have := HGE.out.few; omega
            have hwn : IntKind.i64.wrap ((E.lf : Int) - 1) = (E.lf : Int) - 1 := IntWalk.i64_in _ (by omega)
            have HEND : Hid (∀ X : World, E.At E.lf n X → Below w.heap.size w X → TPost E w (.returned (.pointer (some ⟨w.heap.size + 1, 0, none⟩))) (X.setCell ⟨w.heap.size + 1, 5, none⟩ (.int .i64 ((E.lf : Int) - 1)))) := Lib.hid (fun X h1 h3 => by
              have h2 := h1.set (f' := E.lf - 1) (n' := n) (j := 5) (v := (E.lf : Int) - 1) (by rw [show ((E.lf - 1 : Nat) : Int) = (E.lf : Int) - 1 from by omega]; rfl)
              rw [HHA.out] at h2
              exact HFI.out _ (E.lf - 1) h2 ⟨m1, m2, .inl (by omega), HM.out.2.2, .inr ⟨by omega, HSB.out⟩⟩ (h3.setCell (by simp) _))
            clear hpl hol
            have HLL := Lib.hid hnl
            clear hnl
            generalize partN E E.lf n = pn at *
            go_wp2
            go_quiet (fail)
            obtain ⟨x1, hx1⟩ : ∃ x1, wr.drewN nq = x1 := ⟨_, rfl⟩
            have HX1 : Hid (Below wr.heap.size wr x1) := Lib.hid (by rw [← hx1]; exact Below.of_drews _ _)
            have HA1 := Lib.hid (HA.out.below HX1.out)
            have HB1 := Lib.hid (below_up HB.out HX1.out)
            rw [hx1]
            clear hx1
            have q5 : x1.cell? ⟨w.heap.size + 1, 5, none⟩ = some (.int .i64 (E.lf : Int)) := by rw [← HHA.out]; exact HA1.out.cells.2.2.2.2.1
            go_wp2_with (first
              | (go_at_call 87; (with_reducible refine (HPA.out _ HX1.out).mono ?_); rintro e x2 ⟨rfl, y2⟩; have HA2 := Lib.hid (HA1.out.below y2); have HB2 := Lib.hid (below_up HB1.out y2); have r5 : x2.cell? ⟨w.heap.size + 1, 5, none⟩ = some (.int .i64 (E.lf : Int)) := (by rw [← HHA.out]; exact HA2.out.cells.2.2.2.2.1); have rz : x2.frozen? ⟨w.heap.size + 1, 5, none⟩ = false := (by rw [← HHA.out]; exact HA2.out.free 5); clear y2)
              | (go_at_call 86; (with_reducible refine (HSP.out _).mono ?_); rintro e w' ⟨rfl, rfl⟩))
            go_ret
            exact HEND.out _ HA2.out HB2.out
        | false =>
          have HSP : Hid (∀ X : World, Calls Tryz.prog 86 #[.string ⟨(partN E E.lf n).toArray⟩] X (BoolPost false X)) := Lib.hid (fun X => spliced_at hsp (by omega) X)
          have HSB := Lib.hid hsp
          clear hsp
          · skip
            have HTS : Hid (TSpec E E.lf n) := Lib.hid ⟨m1, m2, .inl (by omega), HM.out.2.2, .inl ⟨rfl, .inr HSB.out⟩⟩
            clear hpl hol
            have HLL := Lib.hid hnl
            clear hnl
            generalize partN E E.lf n = pn at *
            go_wp2
            go_quiet (fail)
            obtain ⟨x1, hx1⟩ : ∃ x1, wr.drewN nq = x1 := ⟨_, rfl⟩
            have HX1 : Hid (Below wr.heap.size wr x1) := Lib.hid (by rw [← hx1]; exact Below.of_drews _ _)
            have HA1 := Lib.hid (HA.out.below HX1.out)
            have HB1 := Lib.hid (below_up HB.out HX1.out)
            rw [hx1]
            clear hx1
            have q5 : x1.cell? ⟨w.heap.size + 1, 5, none⟩ = some (.int .i64 (E.lf : Int)) := by rw [← HHA.out]; exact HA1.out.cells.2.2.2.2.1
            go_wp2_with (first
              | (go_at_call 87; (with_reducible refine (HPA.out _ HX1.out).mono ?_); rintro e x2 ⟨rfl, y2⟩; have HA2 := Lib.hid (HA1.out.below y2); have HB2 := Lib.hid (below_up HB1.out y2); clear y2)
              | (go_at_call 86; (with_reducible refine (HSP.out _).mono ?_); rintro e w' ⟨rfl, rfl⟩))
            go_ret
            exact HFI.out _ _ HA2.out HTS.out HB2.out

end Go.Proofs.YtpnboieppkjfnaaGreat
