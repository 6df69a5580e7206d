/-
  Texts of the proof, put together: McDef.
-/
import Derived.Test.YtmghocfkekggaaaG30
import Derived.Deep.RegionHeld3

/-
  A macro is defined.
-/
namespace Go.Proofs.Ytmghocfkekggaaa
open Go.RowKit Go.Maps

/-- Blocks without texts have turned, and there are new ones. -/
structure Turned (Q : Nat → Prop) (w w' : World) : Prop where
  os : w'.os = w.os
  tape : w'.tape = w.tape
  output : w'.output = w.output
  size : w.heap.size ≤ w'.heap.size
  block : ∀ g, g < w.heap.size → ¬ Q g → w'.heap[g]? = w.heap[g]?
  nos : ∀ g, Q g → g < w.heap.size → NoStr w g
theorem Turned.refl {Q : Nat → Prop} {w : World} (h : ∀ g, Q g → g < w.heap.size → NoStr w g) : Turned Q w w := ⟨rfl, rfl, rfl, Nat.le_refl _, fun _ _ _ => rfl, h⟩
theorem Turned.below {Q : Nat → Prop} {w w' w'' : World} (h : Turned Q w w') (b : Below w'.heap.size w' w'') : Turned Q w w'' :=
  ⟨b.os.trans h.os, b.tape.trans h.tape, b.output.trans h.output, Nat.le_trans h.size b.size, fun g hg hq => (b.block g (Nat.lt_of_lt_of_le hg h.size)).trans (h.block g hg hq), h.nos⟩
theorem Turned.grown {Q : Nat → Prop} {w w' w'' : World} {q : Nat} (h : Turned Q w w') (b : w'.grownBy w'' (some q)) (hq : q < w.heap.size → Q q) : Turned Q w w'' :=
  ⟨b.os.trans h.os, b.tape.trans h.tape, b.output.trans h.output, Nat.le_trans h.size b.size, fun g hg hn => (b.block g (Nat.lt_of_lt_of_le hg h.size) (fun e => hn (by cases e; exact hq hg))).trans (h.block g hg hn), h.nos⟩
theorem Turned.trans {Q : Nat → Prop} {w w' w'' : World} (h : Turned Q w w') (b : Turned Q w' w'') : Turned Q w w'' :=
  ⟨b.os.trans h.os, b.tape.trans h.tape, b.output.trans h.output, Nat.le_trans h.size b.size, fun g hg hn => (b.block g (Nat.lt_of_lt_of_le hg h.size) hn).trans (h.block g hg hn), h.nos⟩
theorem Turned.ended {Q : Nat → Prop} {W w w' : World} (h : Turned Q w w') (hb : Below W.heap.size W w) (hq : ∀ g, Q g → W.heap.size ≤ g) : Below W.heap.size W w' :=
  ⟨h.os.trans hb.os, h.tape.trans hb.tape, h.output.trans hb.output, Nat.le_trans hb.size h.size, fun g hg => (h.block g (Nat.lt_of_lt_of_le hg hb.size) (fun e => by have := hq g e; omega)).trans (hb.block g hg)⟩
theorem Turned.wide {Q R : Nat → Prop} {w w' : World} (h : Turned Q w w') (hr : ∀ g, Q g → R g) (hn : ∀ g, R g → g < w.heap.size → NoStr w g) : Turned R w w' :=
  ⟨h.os, h.tape, h.output, h.size, fun g hg hq => h.block g hg fun e => hq (hr g e), hn⟩

theorem StrsV.turn {S : List ByteArray} {v : Value} {Q : Nat → Prop} {w w' : World} (h : StrsV S v w) (t : Turned Q w w') : StrsV S v w' := by
  obtain ⟨a, cap, hv, h1, h2, h3⟩ := h
  refine ⟨a, cap, hv, h1, h2, fun k s hk => ?_⟩
  obtain ⟨g, o, ha, hg, hc⟩ := h3 k s hk
  exact ⟨g, o, ha, Nat.lt_of_lt_of_le hg t.size, (World.cell?_of_block (t.block g hg fun e => t.nos g e hg _ _ hc)).trans hc⟩
theorem SitsA.turn {S : List Xs} {v : Value} {Q : Nat → Prop} {w w' : World} (h : SitsA S v w) (t : Turned Q w w') : SitsA S v w' := by
  obtain ⟨a, cap, hv, h1, h2, h3⟩ := h
  refine ⟨a, cap, hv, h1, h2, fun k s hk => ?_⟩
  obtain ⟨g, o, ha, hg, hc⟩ := h3 k s hk
  have hb := t.block g hg fun e => t.nos g e hg _ _ hc.1
  obtain ⟨c0, c1, c2, c3, c4⟩ := hc
  exact ⟨g, o, ha, Nat.lt_of_lt_of_le hg t.size, (World.cell?_of_block hb).trans c0, (World.cell?_of_block hb).trans c1, (World.cell?_of_block hb).trans c2, (World.cell?_of_block hb).trans c3, (World.cell?_of_block hb).trans c4⟩
theorem ToksX.turn {T : List Xt} {v : Value} {Q : Nat → Prop} {w w' : World} (h : ToksX T v w) (t : Turned Q w w') : ToksX T v w' := by
  obtain ⟨a, cap, hv, h1, h2, h3⟩ := h
  refine ⟨a, cap, hv, h1, h2, fun k x hk => ?_⟩
  obtain ⟨g, o, ha, hg, sv, hc, hss⟩ := h3 k x hk
  have hb := t.block g hg fun e => t.nos g e hg _ _ hc.2.1
  obtain ⟨c0, c1, c2, c3, c4, c5, c6, c7⟩ := hc
  exact ⟨g, o, ha, Nat.lt_of_lt_of_le hg t.size, sv, ⟨(World.cell?_of_block hb).trans c0, (World.cell?_of_block hb).trans c1, (World.cell?_of_block hb).trans c2, (World.cell?_of_block hb).trans c3, (World.cell?_of_block hb).trans c4, (World.cell?_of_block hb).trans c5, (World.cell?_of_block hb).trans c6, (World.cell?_of_block hb).trans c7⟩, hss.turn t⟩
theorem MacAt.turn {m : Xm} {pv bv : Value} {Q : Nat → Prop} {w w' : World} (h : MacAt m pv bv w) (t : Turned Q w w') : MacAt m pv bv w' := ⟨h.1.turn t, h.2.turn t⟩
theorem Reads.turn {D : DataW Value} {K : ByteArray → Option Xm} {Q : Nat → Prop} {w w' : World} (h : Reads D K w) (t : Turned Q w w') : Reads D K w' := fun x =>
  ⟨(h x).1, fun m hm => let ⟨pv, bv, h1, h2⟩ := (h x).2 m hm; ⟨pv, bv, h1, h2.turn t⟩⟩
theorem MapIs.turn {w w' : World} {mo : Option Nat} {N : Nat} {K : ByteArray → Option Xm} {Q : Nat → Prop} (h : MapIs w mo N K) (t : Turned Q w w') (hq : ∀ b, mo = some b → ¬ Q b) : MapIs w' mo N K := by
  match mo, h, hq with
  | none, h, _ => exact h
  | some k, h, hq =>
    obtain ⟨D, h1, h2⟩ := h
    exact ⟨D, ownsMap_over h1 (t.block k h1.lt (hq k rfl)), h2.turn t⟩

/-- The blocks that a write of a table turns. -/
def Tq (p : Nat) (mo : Option Nat) (sh : Bool) (g : Nat) : Prop := g = p ∨ (mo = some g ∧ sh = false)
theorem tq_nos {w : World} {p : Nat} {mo : Option Nat} {sh : Bool} {N : Nat} {K : ByteArray → Option Xm} (h : w.heap[p]? = some (tabObj mo sh)) (hm : MapIs w mo N K) : ∀ g, Tq p mo sh g → g < w.heap.size → NoStr w g := by
  rintro g (rfl | ⟨rfl, -⟩) -
  · exact tab_nostr h
  · obtain ⟨D, h1, -⟩ := hm
    exact own_nostr h1

theorem own_not {H : Type} {R : Value → Option (DataW H × List MemPlace)} {w : World} {k : TypeId} {b n : Nat} {D : DataW H} (h : w.ownsMap Try.prog k R b n D) {m : Xm} {pv bv : Value} (hq : w.heap[b]? = some (mObj m pv bv)) : False := by
  obtain ⟨es, c, h1, -⟩ := h
  rw [h1] at hq
  cases hq

/-- One more. -/
def upd (K : ByteArray → Option Xm) (m : Xm) : ByteArray → Option Xm := fun x => if x = m.n then some m else K x
theorem reads_put {D : DataW Value} {K : ByteArray → Option Xm} {w : World} {m : Xm} {pv bv : Value} (hD : IsMap D) (h : Reads D K w) (hm : MacAt m pv bv w) : Reads (D.put (.string m.n.data.toList) (.held (macV m pv bv))) (upd K m) w := by
  intro x
  unfold upd
  by_cases e : x = m.n
  · subst e
    rw [if_pos rfl, has_put_same hD (by simp [WideAt.IsKeyLit])]
    refine ⟨rfl, fun y hy => ?_⟩
    cases hy
    exact ⟨pv, bv, atKey_put_same hD (by simp [WideAt.IsKeyLit]) _ _, hm⟩
  · rw [if_neg e, has_put_other (lit_ne e)]
    refine ⟨(h x).1, fun y hy => ?_⟩
    obtain ⟨pv', bv', h1, h2⟩ := (h x).2 y hy
    exact ⟨pv', bv', by rw [atKey_put_other (lit_ne e)]; exact h1, h2⟩

def defB (K : ByteArray → Option Xm) (m : Xm) : Bool := match K m.n with
  | none => true
  | some y => sameM y m
def DefPost (w : World) (p : Nat) (mo : Option Nat) (sh : Bool) (N : Nat) (K : ByteArray → Option Xm) (m : Xm) (e : Ending) (w' : World) : Prop :=
  e = .returned (.bool (defB K m)) ∧ ∃ b, w'.heap[p]? = some (tabObj (some b) false) ∧ MapIs w' (some b) (N + 1) (upd K m) ∧ (w.heap.size ≤ b ∨ mo = some b ∧ sh = false) ∧ Turned (Tq p mo sh) w w'

theorem def_nil {m : Xm} {pv bv : Value} {w : World} (h : MacAt m pv bv w) : Calls Try.prog 12 #[.pointer none, macV m pv bv] w (BoolNew false w) := by
  obtain ⟨a1, n1, c1, rfl⟩ := h.1.form
  obtain ⟨a2, n2, c2, rfl⟩ := h.2.form
  unfold macV
  clear h
  go_enter Try.func12, Try.ntmps12
  go_wp2
  go_ret
  exact bool_new rfl ((Below.refl _ _).alloc (Nat.le_refl _) _)

set_option maxRecDepth 100000 in
set_option maxHeartbeats 6400000 in
theorem def_any {m : Xm} {pv bv : Value} {w : World} {p : Nat} {mo : Option Nat} {sh : Bool} {N : Nat} {K : ByteArray → Option Xm} (h : MacAt m pv bv w) (hp : w.heap[p]? = some (tabObj mo sh)) (hm : MapIs w mo N K) (hN : N ≤ 1000) (hn : m.n.size ≤ 1000) (hl : m.ps.length ≤ 500000) (hb : m.bd.length ≤ 500000) (hs : ∀ t ∈ m.bd, t.ss.length ≤ 500000) :
    Calls Try.prog 12 #[.pointer (some ⟨p, 0, none⟩), macV m pv bv] w (DefPost w p mo sh N K m) := by
  obtain ⟨a1, n1, c1, rfl⟩ := h.1.form
  obtain ⟨a2, n2, c2, rfl⟩ := h.2.form
  obtain ⟨el, ev, eb, hlook, hel, hel1, hel2⟩ := hm.look m.n hn
  obtain ⟨a3, n3, c3, rfl⟩ := hel.1.form
  obtain ⟨a4, n4, c4, rfl⟩ := hel.2.form
  have hpl := row_lt hp
  have HM := Lib.hid h
  have HP := Lib.hid hp
  have HMAP := Lib.hid hm
  have HLK := Lib.hid hlook
  have HEL := Lib.hid hel
  have HPL := Lib.hid hpl
  have HCL : Hid (∀ X : World, MacAt m (.slice a1 n1 c1) (.slice a2 n2 c2) X → Calls Try.prog 28 #[.agg #[.string m.n, .bool m.fn, .bool m.va, .slice a1 n1 c1, .slice a2 n2 c2, .string m.g, .int .i64 m.f, .int .i64 m.t]] X (MacNew X m)) := Lib.hid (fun X hX => mclone_any hX hl hb hs)
  unfold macV at hlook ⊢
  clear h hp hm hel hlook
  go_enter Try.func12, Try.ntmps12
  go_wp2
  have hB1 : Below w.heap.size w (w.alloc (Obj.cells #[.string m.n, .bool m.fn, .bool m.va, .slice a1 n1 c1, .slice a2 n2 c2, .string m.g, .int .i64 m.f, .int .i64 m.t] 38)) := (Below.refl _ _).alloc (Nat.le_refl _) _
  have hQ1 : (w.alloc (Obj.cells #[.string m.n, .bool m.fn, .bool m.va, .slice a1 n1 c1, .slice a2 n2 c2, .string m.g, .int .i64 m.f, .int .i64 m.t] 38)).heap[w.heap.size]? = some (mObj m (.slice a1 n1 c1) (.slice a2 n2 c2)) := heap_alloc_new w _
  obtain ⟨w1, hw1⟩ : ∃ w1, w.alloc (Obj.cells #[.string m.n, .bool m.fn, .bool m.va, .slice a1 n1 c1, .slice a2 n2 c2, .string m.g, .int .i64 m.f, .int .i64 m.t] 38) = w1 := ⟨_, rfl⟩
  obtain ⟨b0, hb0⟩ : ∃ b0, w.heap.size = b0 := ⟨_, rfl⟩
  rw [hw1] at hB1 hQ1 ⊢
  have HBL : Hid (w.heap.size ≤ b0) := Lib.hid (by omega)
  have hpb : p ≠ b0 := by omega
  rw [hb0] at hQ1 ⊢
  have hp1 : w1.heap[p]? = some (tabObj mo sh) := (hB1.block p HPL.out).trans HP.out
  obtain ⟨t0, t1, -⟩ := tab_cells hp1
  obtain ⟨⟨e0, e1, e2, e3, e4, e5, e6, e7⟩, -⟩ := mObj_cells hQ1
  have hb1s := row_lt hQ1
  have hp1s := row_lt hp1
  have hb1n : b0 ≠ w1.heap.size := by omega
  have hp1n : p ≠ w1.heap.size := by omega
  have hb1m : w1.heap.size ≠ b0 := by omega
  have hp1m : w1.heap.size ≠ p := by omega
  have hl1 := HLK.out w1.drew hB1.drew
  have hl2 := HLK.out (w1.alloc (Obj.cells #[.string ⟨#[]⟩, .bool false, .bool false, .slice none 0 0, .slice none 0 0, .string ⟨#[]⟩, .int .i64 0, .int .i64 0] 38)).drew (hB1.alloc hB1.size _).drew
  unfold macV at hl1 hl2
  have HB1 := Lib.hid hB1
  have HQ1 := Lib.hid hQ1
  have HP1 := Lib.hid hp1
  obtain ⟨bs, hbs⟩ : ∃ bs, (K m.n).isSome = bs := ⟨_, rfl⟩
  rw [hbs] at hl1 hl2
  have HDEF : Hid (defB K m = if bs then sameM el m else true) := Lib.hid (by
    unfold defB
    cases hK : K m.n with
    | none => rw [hK] at hbs; rw [← hbs]; rfl
    | some y => rw [hK] at hbs; rw [← hbs, hel1 y hK]; rfl)
  clear hw1 hb0 hB1 hQ1 hp1 HLK hbs hel1 hel2
  go_region
  all_goals
   cases bs
  all_goals
   have hB2 : Below w.heap.size w ((w1.alloc (Obj.cells #[.string el.n, .bool el.fn, .bool el.va, .slice a3 n3 c3, .slice a4 n4 c4, .string el.g, .int .i64 el.f, .int .i64 el.t] 38)).drew) := (HB1.out.alloc HB1.out.size _).drew
   have hQ2 : ((w1.alloc (Obj.cells #[.string el.n, .bool el.fn, .bool el.va, .slice a3 n3 c3, .slice a4 n4 c4, .string el.g, .int .i64 el.f, .int .i64 el.t] 38)).drew).heap[b0]? = some (mObj m (.slice a1 n1 c1) (.slice a2 n2 c2)) := (Below.heap_alloc w1 _ b0 hb1s).trans HQ1.out
   have hE2 : ((w1.alloc (Obj.cells #[.string el.n, .bool el.fn, .bool el.va, .slice a3 n3 c3, .slice a4 n4 c4, .string el.g, .int .i64 el.f, .int .i64 el.t] 38)).drew).heap[w1.heap.size]? = some (mObj el (.slice a3 n3 c3) (.slice a4 n4 c4)) := heap_alloc_new w1 _
   obtain ⟨w2, hw2⟩ : ∃ w2, (w1.alloc (Obj.cells #[.string el.n, .bool el.fn, .bool el.va, .slice a3 n3 c3, .slice a4 n4 c4, .string el.g, .int .i64 el.f, .int .i64 el.t] 38)).drew = w2 := ⟨_, rfl⟩
   obtain ⟨e0b, he0b⟩ : ∃ e0b, w1.heap.size = e0b := ⟨_, rfl⟩
   rw [hw2] at hB2 hQ2 hE2 ⊢
   have HEBL : Hid (w.heap.size ≤ e0b) := Lib.hid (by have := HB1.out.size; omega)
   rw [he0b] at hE2 hp1n hb1n ⊢
   have HP2 : Hid (w2.heap[p]? = some (tabObj mo sh)) := Lib.hid ((hB2.block p HPL.out).trans HP.out)
   have HM2 : Hid (MapIs w2 mo N K) := Lib.hid (HMAP.out.over hB2)
   have HB2 := Lib.hid hB2
   have HQ2 := Lib.hid hQ2
   have HE2 := Lib.hid hE2
   clear hw2 he0b hB2 hQ2 hE2 hl1 hl2 t0 t1 e0 e1 e2 e3 e4 e5 e6 e7 hb1s hp1s hb1m hp1m HB1 HQ1 HP1
   go_wp2_with (go_at_call 27; (with_reducible refine (own_any HP2.out HM2.out).mono ?_); rintro e w3 ⟨rfl, b, hp3, hm3, hbn, g3⟩; have hQ3 := (g3.block b0 (row_lt HQ2.out) (by simpa using hpb.symm)).trans HQ2.out; have hE3 := (g3.block e0b (row_lt HE2.out) (by simpa using hp1n.symm)).trans HE2.out; (obtain ⟨t0, -, -⟩ := tab_cells hp3); (obtain ⟨⟨e0, e1, e2, e3, e4, e5, e6, e7⟩, -⟩ := mObj_cells hQ3); have HP3 := Lib.hid hp3; have HM3 := Lib.hid hm3; have HBN := Lib.hid hbn; have HG3 := Lib.hid g3; have HQ3 := Lib.hid hQ3; have HE3 := Lib.hid hE3; have HT3 : Hid (Turned (Tq p mo sh) w w3) := Lib.hid (((Turned.refl (tq_nos HP.out HMAP.out)).below HB2.out).grown g3 (fun _ => .inl rfl)); clear hp3 hm3 hbn g3 hQ3 hE3)
   have HP4 : Hid (w3.drew.heap[p]? = some (tabObj (some b) false)) := Lib.hid HP3.out
   have HM4 : Hid (MapIs w3.drew (some b) N K) := Lib.hid (HM3.out.over (Below.refl _ _).drew)
   have HQ4 : Hid (w3.drew.heap[b0]? = some (mObj m (.slice a1 n1 c1) (.slice a2 n2 c2))) := Lib.hid HQ3.out
   have HE4 : Hid (w3.drew.heap[e0b]? = some (mObj el (.slice a3 n3 c3) (.slice a4 n4 c4))) := Lib.hid HE3.out
   have HT4 : Hid (Turned (Tq p mo sh) w w3.drew) := Lib.hid (HT3.out.below (Below.refl _ _).drew)
   have HZ4 : Hid (w2.heap.size ≤ w3.drew.heap.size) := Lib.hid HG3.out.size
   go_region_held3 (fun w' => w'.cell? ⟨p, 0, none⟩ = some (.map (some b)) ∧ w'.cell? ⟨b0, 0, none⟩ = some (.string m.n) ∧ w'.cell? ⟨b0, 1, none⟩ = some (.bool m.fn) ∧ w'.cell? ⟨b0, 2, none⟩ = some (.bool m.va) ∧ w'.cell? ⟨b0, 3, none⟩ = some (.slice a1 n1 c1) ∧ w'.cell? ⟨b0, 4, none⟩ = some (.slice a2 n2 c2) ∧ w'.cell? ⟨b0, 5, none⟩ = some (.string m.g) ∧ w'.cell? ⟨b0, 6, none⟩ = some (.int .i64 m.f) ∧ w'.cell? ⟨b0, 7, none⟩ = some (.int .i64 m.t))
     (first | go_keep)
     (first
       | (go_at_call 28; (refine (HCL.out _ (HM.out.turn HT4.out)).mono ?_)
          rintro e w5 ⟨pv5, bv5, rfl, hma5, hb5⟩
          obtain ⟨a5, n5, c5, rfl⟩ := hma5.1.form
          obtain ⟨a6, n6, c6, rfl⟩ := hma5.2.form
          obtain ⟨D5, hD5, hR5⟩ := HM4.out.over hb5
          have hn5 : NoStr w5 b := own_nostr hD5
          have hp5 := (hb5.block p (row_lt HP4.out)).trans HP4.out
          have hq5 := (hb5.block b0 (row_lt HQ4.out)).trans HQ4.out
          have k0 : w5.cell? ⟨p, 0, none⟩ = some (.map (some b)) := (tab_cells hp5).1
          obtain ⟨⟨k1, k2, k3, k4, k5, k6, k7, k8⟩, -⟩ := mObj_cells hq5
          obtain ⟨w6, hr6, hown6, hg6⟩ := hD5.update strKeyM Try.underlying62 (by unfold maxLen; omega) (keyM m.n (by unfold maxLen; omega)) (val := macV m (.slice a5 n5 c5) (.slice a6 n6 c6)) (d := .held (macV m (.slice a5 n5 c5) (.slice a6 n6 c6))) (ps := []) rfl
          have hf6 : ∀ g, g < w5.heap.size → g ≠ b → w6.heap[g]? = w5.heap[g]? := fun g hg hgb => hg6.block g hg (by simpa using hgb)
          have hQ6 : w6.heap[b0]? = some (mObj m (.slice a1 n1 c1) (.slice a2 n2 c2)) := (hf6 b0 (row_lt hq5) (fun e => own_not hD5 (e ▸ hq5))).trans hq5
          have he5 := (hb5.block e0b (row_lt HE4.out)).trans HE4.out
          have hE6 : w6.heap[e0b]? = some (mObj el (.slice a3 n3 c3) (.slice a4 n4 c4)) := (hf6 e0b (row_lt he5) (fun e => own_not hD5 (e ▸ he5))).trans he5
          have hP6 : w6.heap[p]? = some (tabObj (some b) false) := (hf6 p (row_lt hp5) (tab_ne_map hp5 ⟨D5, hD5, hR5⟩)).trans hp5
          have hM6 : MapIs w6 (some b) (N + 1) (upd K m) := ⟨_, hown6, (reads_put hD5.isMap hR5 hma5).bare hn5 hg6.size hf6⟩
          have hT6 : Turned (Tq p mo sh) w w6 := (HT4.out.below hb5).grown hg6 (fun hlt => by
            rcases HBN.out with h | ⟨h, h'⟩
            · have := HB2.out.size; omega
            · exact .inr ⟨h, h'⟩)
          have l0 : w6.cell? ⟨p, 0, none⟩ = some (.map (some b)) := (tab_cells hP6).1
          obtain ⟨⟨l1, l2, l3, l4, l5, l6, l7, l8⟩, -⟩ := mObj_cells hQ6
          have HQ6 := Lib.hid hQ6
          have HE6 := Lib.hid hE6
          have HP6 := Lib.hid hP6
          have HM6 := Lib.hid hM6
          have HT6 := Lib.hid hT6
          have HS6 := Lib.hid (mSame_any (HEL.out.turn hT6) (HM.out.turn hT6))
          unfold macV at HS6 hr6 ⊢
          clear hma5 hb5 hD5 hR5 hn5 hp5 hq5 hown6 hg6 hf6 hQ6 he5 hE6 hP6 hM6 hT6))
  all_goals
   obtain ⟨⟨y0, y1, y2, y3, y4, y5, y6, y7⟩, -⟩ := mObj_cells HE6.out
   go_wp2_with (go_at_call 23; (with_reducible refine HS6.out.mono ?_); rintro e w7 ⟨rfl, hb7⟩; have HB7 := Lib.hid hb7; clear hb7)
   go_ret
   first
     | exact ⟨ret_bool HDEF.out.symm, b, HP6.out, HM6.out, HBN.out.imp (fun h => Nat.le_trans HB2.out.size h) id, HT6.out⟩
     | exact ⟨ret_bool HDEF.out.symm, b, (HB7.out.block p (row_lt HP6.out)).trans HP6.out, HM6.out.over HB7.out, HBN.out.imp (fun h => Nat.le_trans HB2.out.size h) id, HT6.out.below HB7.out⟩

end Go.Proofs.Ytmghocfkekggaaa
