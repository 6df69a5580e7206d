/-
  Texts of the proof, put together: ReU, LxLift, ReW.
-/
import Derived.Test.YtpnboieppkjfnaaGreatG46
import Derived.Test.YtpnboieppkjfnaaGreatG47
import Derived.Test.YtpnboieppkjfnaaGreatG11
import Derived.ProofKit
import Derived.OpenShut
import Derived.ChangeMaps5
import Derived.Below
import Derived.Carry
import Derived.SliceStrings
import Derived.Deep.Slices
import Derived.Deep.Fields

/-
  Rows of documents and of texts beside a table of documents; edits that came in.
-/
namespace Go.Proofs.YtpnboieppkjfnaaGreat
open Go.RowKit

/-- A type of what a law makes beside documents. -/
def Side (e : TypeId) : Prop := e ≠ 144 ∧ e ≠ 67 ∧ e ≠ 113 ∧ e ≠ 84 ∧ e ≠ 110 ∧ e ≠ 104 ∧ e ≠ 93

theorem LineAt.side {e : TypeId} (he : Side e) {w w' : World} {p : Nat} {b : Int} {x : Ln × List Dg} (h : LineAt w p b x) (s : Oth e w w') : LineAt w' p b x := by
  obtain ⟨tv, dv, h1, h2, h3⟩ := h
  exact ⟨tv, dv, s _ _ _ _ h1 (Ne.symm he.2.2.1), own_oth h2 s (Ne.symm he.2.2.2.2.1), own_oth h3 s (Ne.symm he.2.2.2.2.2.1)⟩
theorem KRead.side {e : TypeId} (he : Side e) {K : List (Nat × Int)} {R : List (Ln × List Dg)} {w w' : World} (h : KRead K R w) (s : Oth e w w') : KRead K R w' :=
  ⟨h.1, fun i k x hk hx => ⟨(h.2 i k x hk hx).1, (h.2 i k x hk hx).2.side he s⟩⟩
theorem rp_side {e : TypeId} (he : Side e) {M : Mp} {w w' : World} {r : Option Addr} {o : Option T} (h : RP M w r o) (s : Oth e w w') : RP M w' r o := by
  rcases h with h | ⟨b, p, h1, h2, h3, h4⟩
  · exact .inl h
  · exact .inr ⟨b, p, h1, h2, s _ _ _ _ h3 (Ne.symm he.2.2.2.2.2.2), h4⟩
theorem DocAt.side {e : TypeId} (he : Side e) {M : Mp} {w w' : World} {p : Nat} {i : DI} (h : DocAt M w p i) (s : Oth e w w') : DocAt M w' p i := by
  obtain ⟨r, o, h1, h2, h3, h4⟩ := h
  refine ⟨r, o, rp_side he h1 s, h2, h3, ?_⟩
  rcases h4 with ⟨lv, wk, Ts, k1, ⟨K, k2, k3⟩, k4⟩ | ⟨ev, K, fr, te, Ts, mf, k1, k0, k2, k3, k4⟩
  · exact .inl ⟨lv, wk, Ts, s _ _ _ _ k1 (Ne.symm he.2.1), ⟨K, own_oth k2 s (Ne.symm he.2.2.2.1), k3.side he s⟩, k4⟩
  · exact .inr ⟨ev, K, fr, te, Ts, mf, s _ _ _ _ k1 (Ne.symm he.2.1), k0, own_oth k2 s (Ne.symm he.2.2.2.1), k3.side he s, k4⟩
theorem All.side {e : TypeId} (he : Side e) {B : Nat} {M : Mp} {D : DT} {w w' : World} (h : All B M D w) (hs : w.heap.size ≤ w'.heap.size) (s : Oth e w w') : All B M D w' :=
  ⟨h.inv.same hs fun b t hb => by
    obtain ⟨lp, rp, d, st, q, br, h1, -⟩ := h.inv.node b t hb
    exact (s _ _ _ _ h1 (Ne.symm he.1)).trans h1.symm, fun p i hp => ⟨(h.doc p i hp).1.side he s, (h.doc p i hp).2⟩⟩
/-- An append to a row that the law has made. -/
theorem Stp.side {e : TypeId} (he : Side e) {M : Mp} {D : DT} {W w w' : World} (h : Stp W.heap.size M0 D0 W M D w) {size n : Nat} {v : Value} {xs : List Value} (hr : w.ownsRow W.heap.size e size v n xs) (g : w.grownBy w' v.ownBlock) : Stp W.heap.size M0 D0 W M D w' := by
  have s := oth_grown hr g
  have hb := h.ended.grown g h.size fun k hk => (World.ownsRow.lt hr k hk).1
  exact ⟨hb.os, hb.tape, hb.output, hb.size, h.extM, h.extD, fun k hk _ _ => hb.block k hk, h.all.side he g.size s⟩

theorem Tryz.infoDocP : (Tryz.prog.info? 24).map (fun i => (i.zero, i.size, i.bytes)) = some (some (.pointer none), 1, 8) := by kernel_rfl
theorem Tryz.infoText : (Tryz.prog.info? 9).map (fun i => (i.zero, i.size, i.bytes)) = some (some (.string ⟨#[]⟩), 1, 16) := by kernel_rfl

theorem row_new {B : Nat} {w : World} (hB : B ≤ w.heap.size) (e : TypeId) (u : Value) : (w.alloc (.cells #[u] e)).ownsRow B e 1 (.slice (some ⟨w.heap.size, 0, none⟩) 1 1) 1 [u] :=
  ⟨rfl, .inr ⟨w.heap.size, 1, #[u], rfl, hB, heap_alloc_new _ _, Nat.le_refl _, by unfold maxLen; omega, rfl, rfl⟩⟩

/-- Documents, and texts, as lists. -/
def dvals (Q : List (Nat × ByteArray)) : List Value := Q.map fun q => .pointer (some ⟨q.1, 0, none⟩)
def svals (Q : List (Nat × ByteArray)) : List Value := Q.map fun q => .string q.2
def RAdd (W : World) (e : TypeId) (n : Nat) (xs : List Value) (w : World) (v : Value) (w' : World) : Prop :=
  ∃ b n' cap, v = .slice (some ⟨b, 0, none⟩) n' cap ∧ n' = n + 1 ∧ w'.ownsRow W.heap.size e 1 (.slice (some ⟨b, 0, none⟩) n' cap) n' xs ∧ Oth e w w' ∧ ∀ M D, Stp W.heap.size M0 D0 W M D w → Stp W.heap.size M0 D0 W M D w'
theorem dadd1_ex {W w : World} {ty : TypeId} {v sv : Value} {n : Nat} {xs : List Value} {q : Nat} (h : w.ownsRow W.heap.size 24 1 v n xs) (hs : Src w sv 1 1 [.pointer (some ⟨q, 0, none⟩)]) (hn : n ≤ 500000) (hB : W.heap.size ≤ w.heap.size) :
    ∃ v' w', (Builtin.append_ #[29, 29] ty #[v, sv]).run Tryz.prog w = .ok v' w' ∧ RAdd W 24 n (xs ++ [.pointer (some ⟨q, 0, none⟩)]) w v' w' := by
  obtain ⟨i0, hi, hz0, hz1, hz2⟩ := info_parts Tryz.infoDocP
  obtain ⟨v', w', hr, h2, h3⟩ := run_app (ty := ty) Tryz.underlying29 hi hz0 hz1 hz2 rfl (by decide) (by decide) h hs (by intro u hu; cases List.mem_singleton.1 hu; rfl) (by omega) hB
  obtain ⟨b, cap, hv⟩ := append_form h2 (by omega)
  subst hv
  exact ⟨_, w', hr, b, _, cap, rfl, rfl, h2, oth_grown h h3, fun M D hst => hst.side (by unfold Side; decide) h h3⟩
theorem sadd1_ex {W w : World} {ty : TypeId} {v sv : Value} {n : Nat} {xs : List Value} {s : ByteArray} (h : w.ownsRow W.heap.size 9 1 v n xs) (hs : Src w sv 1 1 [.string s]) (hn : n ≤ 500000) (hB : W.heap.size ≤ w.heap.size) :
    ∃ v' w', (Builtin.append_ #[30, 30] ty #[v, sv]).run Tryz.prog w = .ok v' w' ∧ RAdd W 9 n (xs ++ [.string s]) w v' w' := by
  obtain ⟨i0, hi, hz0, hz1, hz2⟩ := info_parts Tryz.infoText
  obtain ⟨v', w', hr, h2, h3⟩ := run_app (ty := ty) Tryz.underlying30 hi hz0 hz1 hz2 rfl (by decide) (by decide) h hs (by intro u hu; cases List.mem_singleton.1 hu; rfl) (by omega) hB
  obtain ⟨b, cap, hv⟩ := append_form h2 (by omega)
  subst hv
  exact ⟨_, w', hr, b, _, cap, rfl, rfl, h2, oth_grown h h3, fun M D hst => hst.side (by unfold Side; decide) h h3⟩

/-- An edit, as it came in. -/
structure Ed6 where
  k : Int
  f : Int
  t : Int
  x : ByteArray
def EdsAt (a : Option Addr) (es : List Ed6) (W : World) : Prop :=
  ∀ (i : Nat) (e : Ed6), es[i]? = some e → ∃ g o, a = some ⟨g, o, none⟩ ∧ g < W.heap.size ∧ W.cell? ⟨g, o + i * 4, none⟩ = some (.int .i64 e.k) ∧ W.cell? ⟨g, o + i * 4 + 1, none⟩ = some (.int .i64 e.f) ∧ W.cell? ⟨g, o + i * 4 + 2, none⟩ = some (.int .i64 e.t) ∧ W.cell? ⟨g, o + i * 4 + 3, none⟩ = some (.string e.x)

/-- What the law holds on its way: documents, their texts. -/
structure Way (W : World) (k : Nat) (Q : List (Nat × ByteArray)) (M : Mp) (D : DT) (v7 v8 : Value) (w : World) : Prop where
  stp : Stp W.heap.size M0 D0 W M D w
  docs : w.ownsRow W.heap.size 24 1 v7 Q.length (dvals Q)
  texts : w.ownsRow W.heap.size 9 1 v8 Q.length (svals Q)
  has : ∀ q ∈ Q, (∃ P, D q.1 = some ⟨⟨#[102]⟩, q.2.data.toList, P⟩) ∧ q.2.size ≤ 1500 + 300 * k
  ne : Q ≠ []
  few : Q.length ≤ k + 1

theorem Way.next {W w : World} {k : Nat} {Q : List (Nat × ByteArray)} {M : Mp} {D : DT} {v7 v8 : Value} (h : Way W k Q M D v7 v8 w) : Way W (k + 1) Q M D v7 v8 w :=
  ⟨h.stp, h.docs, h.texts, fun q hq => ⟨(h.has q hq).1, by have := (h.has q hq).2; omega⟩, h.ne, by have := h.few; omega⟩

theorem Way.step {W w w' : World} {k : Nat} {Q : List (Nat × ByteArray)} {M M' : Mp} {D D' : DT} {v7 v8 : Value} (h : Way W k Q M D v7 v8 w) (s : Stp W.heap.size M D w M' D' w') : Way W k Q M' D' v7 v8 w' :=
  ⟨h.stp.trans s, own_sm h.docs (Stp.sm h.stp.all s) (by decide), own_sm h.texts (Stp.sm h.stp.all s) (by decide), fun q hq => ⟨(h.has q hq).1.imp fun P hP => (s.extD _ (h.stp.all.lt hP)).trans hP, (h.has q hq).2⟩, h.ne, h.few⟩

def WRel (W : World) (n : Nat) (v7 v8 i : Value) (w : World) : Prop :=
  ∃ (k : Nat) (Q : List (Nat × ByteArray)) (M : Mp) (D : DT) (a7 a8 : Option Addr) (n7 c7 n8 c8 : Nat), i = .int .i64 (k : Int) ∧ k ≤ n ∧ v7 = .slice a7 n7 c7 ∧ v8 = .slice a8 n8 c8 ∧ n7 = Q.length ∧ n8 = Q.length ∧ Way W k Q M D (.slice a7 n7 c7) (.slice a8 n8 c8) w

/-- The texts, behind the first of both appends. -/
theorem Way.mid {W w w6 : World} {k : Nat} {Q : List (Nat × ByteArray)} {M : Mp} {D : DT} {v7 v8 v : Value} {n m : Nat} {xs : List Value} {o o' : Obj} (h : Way W k Q M D v7 v8 w) (hm : Q.length = m) (r : RAdd W 24 n xs (w.alloc o) v w6) : (w6.alloc o').ownsRow W.heap.size 9 1 v8 m (svals Q) ∧ W.heap.size ≤ (w6.alloc o').heap.size := by
  have hb : Below w.heap.size w (w.alloc o) := (Below.refl _ _).alloc (Nat.le_refl _) _
  have hb6 : Below w6.heap.size w6 (w6.alloc o') := (Below.refl _ _).alloc (Nat.le_refl _) _
  obtain ⟨b, n', cap, rfl, -, hr, ho, hst⟩ := r
  have st6 := hst M D (h.stp.trans (Stp.below h.stp.all hb))
  subst hm
  exact ⟨own_sm (own_oth (own_sm h.texts (Sm.below hb) (by decide)) ho (by decide)) (Sm.below hb6) (by decide), Nat.le_trans st6.size hb6.size⟩

theorem Way.first {W w : World} {k m : Nat} {Q : List (Nat × ByteArray)} {M : Mp} {D : DT} {v7 v8 : Value} {o : Obj} (h : Way W k Q M D v7 v8 w) (hm : Q.length = m) : (w.alloc o).ownsRow W.heap.size 24 1 v7 m (dvals Q) ∧ W.heap.size ≤ (w.alloc o).heap.size := by
  have hb : Below w.heap.size w (w.alloc o) := (Below.refl _ _).alloc (Nat.le_refl _) _
  subst hm
  exact ⟨own_sm h.docs (Sm.below hb) (by decide), Nat.le_trans h.stp.size hb.size⟩

/-- A document more. -/
theorem Way.add {W w w6 w8 : World} {n k m q : Nat} {X : ByteArray} {P : Nat → Prop} {Q : List (Nat × ByteArray)} {M : Mp} {D : DT} {v7 v8 u7 u8 : Value} {o o' : Obj} {i : Int} (h : Way W k Q M D v7 v8 w) (hm : Q.length = m) (hq : D q = some ⟨⟨#[102]⟩, X.data.toList, P⟩) (hX : X.size ≤ 1500 + 300 * (k + 1)) (hk : k < n)
    (r7 : RAdd W 24 m (dvals Q ++ [.pointer (some ⟨q, 0, none⟩)]) (w.alloc o) u7 w6) (r8 : RAdd W 9 m (svals Q ++ [.string X]) (w6.alloc o') u8 w8) (hi : i = ((k + 1 : Nat) : Int)) : WRel W n u7 u8 (.int .i64 i) w8 := by
  subst hi
  have hb : Below w.heap.size w (w.alloc o) := (Below.refl _ _).alloc (Nat.le_refl _) _
  have hb6 : Below w6.heap.size w6 (w6.alloc o') := (Below.refl _ _).alloc (Nat.le_refl _) _
  obtain ⟨b7, n7, c7, rfl, e7, hr7, ho7, hs7⟩ := r7
  obtain ⟨b8, n8, c8, rfl, e8, hr8, ho8, hs8⟩ := r8
  have st6 := hs7 M D (h.stp.trans (Stp.below h.stp.all hb))
  have st8 := hs8 M D (st6.trans (Stp.below st6.all hb6))
  have hl : (Q ++ [(q, X)]).length = m + 1 := by rw [List.length_append, hm]; rfl
  refine ⟨k + 1, Q ++ [(q, X)], M, D, _, _, n7, c7, n8, c8, rfl, hk, rfl, rfl, by rw [hl]; exact e7, by rw [hl]; exact e8, st8, ?_, ?_, fun x hx => ?_, by simp, by rw [hl]; have := h.few; omega⟩
  · rw [hl, ← e7, show dvals (Q ++ [(q, X)]) = dvals Q ++ [.pointer (some ⟨q, 0, none⟩)] from by simp [dvals]]
    exact own_oth (own_sm hr7 (Sm.below hb6) (by decide)) ho8 (by decide)
  · rw [hl, ← e8, show svals (Q ++ [(q, X)]) = svals Q ++ [.string X] from by simp [svals]]
    exact hr8
  · rcases List.mem_append.1 hx with hx | hx
    · exact ⟨(h.has x hx).1, by have := (h.has x hx).2; omega⟩
    · cases List.mem_singleton.1 hx
      exact ⟨⟨P, hq⟩, hX⟩

def LeL (l : List UInt8) (n : Nat) : Prop := n ≤ (FL l).lines.length
theorem le_of_edit {s t ins : List UInt8} {fr te : Nat} (hft : fr ≤ te) (hte : te ≤ s.length) (hs : s.length ≤ 65536) (ht : t.length ≤ 65536) (hi : t = s.take fr ++ (ins ++ s.drop te)) : ∀ Ts, Pcs Ts → Ts.flatten = s → ∀ n, WorkOk Ts fr te t n → LeL t n := by
  rintro Ts hp rfl n hw
  exact work_le ⟨hp, hft, hte, ⟨ins, hi⟩, hs, ht⟩ hw

end Go.Proofs.YtpnboieppkjfnaaGreat

/-
  From a law's walk to its statement: each argument reads behind the call as it did.
-/
namespace Go.Proofs.YtpnboieppkjfnaaGreat
open Go.ChangeShapes Go.WideShapes Go.ChangeAt Go.RowKit

theorem lift_own : ownKnob Tryz.prog.godebug = none := by kernel_rfl
theorem lift_laid : laidOutB Tryz.prog = true := by kernel_rfl

/-- The post of a law that writes nothing that it was given, and says nothing of reading again. -/
theorem post_keep {H : Type} {enc : TypeId × Value → H} {P : Program} {f : Func} {s : ChangeSpec} {apart fresh handsOn : Bool} {W W' : World} {args : Array Value} {v : Value} {ds gs : List (DataW H)} {before pa : List MemPlace}
    (hW : DataW.Whole enc P f.params.toList s.vars apart W args.toList ds gs before)
    (hres : ∀ (b : Nat) (sp : Nat → Bool) (hd : Bool), DataW.TrodAll enc P W' b sp hd f.resultTypes.toList (v.resultList f.resultTypes.size) (s.fn H (ds ++ gs)).results [])
    (hargs : DataW.TrodAll enc P W' 0 (fun b => decide (b < W.heap.size)) true f.params.toList args.toList (s.fn H (ds ++ gs)).args pa)
    (hvars : ∀ sp : Nat → Bool, DataW.TrodVars enc P W' sp s.vars (s.fn H (ds ++ gs)).vars []) (hb : Below W.heap.size W W') :
    s.post enc P f apart fresh handsOn false W args v W' :=
  ⟨ds, gs, before, [], pa, [], hW, hres _ _ _, hargs, hvars _, hb.frame _, fun h => by cases h⟩

end Go.Proofs.YtpnboieppkjfnaaGreat

/-
  Edits that came in, as the law reads them.
-/
namespace Go.Proofs.YtpnboieppkjfnaaGreat
open Go.ChangeShapes Go.WideShapes Go.ChangeAt Go.RowKit Go.ChangeMaps

theorem lift_cell4 : Tryz.prog.cellsOf 32 = 4 := by kernel_rfl
theorem lift_cellI : Tryz.prog.cellsOf 3 = 1 := by kernel_rfl
theorem lift_cellS : Tryz.prog.cellsOf 9 = 1 := by kernel_rfl

theorem choose_list {α : Type} (P : Nat → α → Prop) : ∀ n, (∀ i, i < n → ∃ a, P i a) → ∃ l : List α, l.length = n ∧ ∀ i a, l[i]? = some a → P i a
  | 0, _ => ⟨[], rfl, fun i a h => by simp at h⟩
  | n + 1, h => by
    obtain ⟨l, hl, hp⟩ := choose_list P n fun i hi => h i (by omega)
    obtain ⟨a, ha⟩ := h n (by omega)
    refine ⟨l ++ [a], by simp [hl], fun i b hb => ?_⟩
    rcases Nat.lt_or_ge i n with hi | hi
    · rw [List.getElem?_append_left (by omega)] at hb
      exact hp i b hb
    · rw [List.getElem?_append_right (by omega)] at hb
      have hlt := (List.getElem?_eq_some_iff.1 hb).1
      simp at hlt
      obtain rfl : i = n := by omega
      rw [hl, Nat.sub_self] at hb
      cases hb
      exact ha

set_option maxRecDepth 100000 in
theorem read_edits {H : Type} {enc : TypeId × Value → H} {W : World} {base : Nat} {sp : Nat → Bool} {held : Bool} {fuel : Nat} {a : Option Addr} {len cap : Nat} {x : DataW H × List MemPlace}
    (h : DataW.trod enc Tryz.prog W base sp held fuel 22 (Value.cells (.slice a len cap)).toList = some x) :
    ∃ es : List Ed6, es.length = len ∧ EdsAt a es W ∧ (len ≤ 9223372036854775807 ∧ len ≤ cap) ∧ ∀ e ∈ es, e.x.size ≤ 9223372036854775807 := by
  rcases Go.Deep.open_slice Tryz.underlying22 h with ⟨hcs, -⟩ | ⟨a0, len', cap', m, fu, D, Pl, hcs, -, hl, hm, hmm, -, hi⟩
  · simp [Value.cells] at hcs
    obtain ⟨rfl, rfl, rfl⟩ := hcs
    exact ⟨[], rfl, fun i e he => by simp at he, ⟨by decide, Nat.le_refl _⟩, fun e he => by cases he⟩
  · simp [Value.cells] at hcs
    obtain ⟨rfl, rfl, rfl⟩ := hcs
    have hlm : len ≤ m := by
      rw [hmm]
      split <;> omega
    unfold maxLen at hm
    obtain ⟨es, hel, hep⟩ := choose_list (fun i (e : Ed6) => e.x.size ≤ maxLen ∧ W.cell? (a0.add (i * 4)) = some (.int .i64 e.k) ∧ W.cell? (a0.add (i * 4 + 1)) = some (.int .i64 e.f) ∧ W.cell? (a0.add (i * 4 + 2)) = some (.int .i64 e.t) ∧ W.cell? (a0.add (i * 4 + 3)) = some (.string e.x)) len (fun i hil => by
      obtain ⟨cs', hc, ht'⟩ := hi i (by omega)
      rw [lift_cell4] at hc
      obtain ⟨-, hcl, hat⟩ := World.cells?_some hc
      obtain ⟨ys, n', -, -, hcl2, hyl, hf⟩ := DataW.trod_struct Tryz.underlying32 ht'
      match cs', hcl with
      | [c0, c1, c2, c3], _ =>
        match ys, hyl with
        | [y0, y1, y2, y3], _ =>
          have f0 := hf 0 _ rfl
          have f1 := hf 1 _ rfl
          have f2 := hf 2 _ rfl
          have f3 := hf 3 _ rfl
          simp [lift_cellI, lift_cellS] at f0 f1 f2 f3
          obtain ⟨n0, e0, -, -⟩ := DataW.trod_int Tryz.underlying3 f0
          obtain ⟨n1, e1, -, -⟩ := DataW.trod_int Tryz.underlying3 f1
          obtain ⟨n2, e2, -, -⟩ := DataW.trod_int Tryz.underlying3 f2
          obtain ⟨s3, e3, -, hs3⟩ := DataW.trod_string Tryz.underlying9 f3
          simp only [List.cons.injEq, and_true] at e0 e1 e2 e3
          subst e0 e1 e2 e3
          have g0 := hat 0 (by omega)
          have g1 := hat 1 (by omega)
          have g2 := hat 2 (by omega)
          have g3 := hat 3 (by omega)
          rw [Go.Deep.add_add] at g0 g1 g2 g3
          exact ⟨⟨n0, n1, n2, s3⟩, hs3, g0, g1, g2, g3⟩)
    refine ⟨es, hel, fun i e he => ?_, ⟨by omega, hl⟩, fun e he => ?_⟩
    · obtain ⟨-, c0, c1, c2, c3⟩ := hep i e he
      have hlt := World.block_lt_of_cell? W _ c1
      obtain ⟨g, o, sp0⟩ := a0
      have hsp : sp0 = none := by
        obtain ⟨-, d0, -⟩ := hep 0 _ (List.getElem?_eq_getElem (show 0 < es.length by have := (List.getElem?_eq_some_iff.1 he).1; omega))
        simpa [Addr.add] using World.cell?_spot d0
      subst hsp
      have ha : ∀ j, (⟨g, o, none⟩ : Addr).add j = ⟨g, o + j, none⟩ := fun j => by
        unfold Addr.add
        split
        · rename_i h0
          rw [h0, Nat.add_zero]
        · rfl
      rw [ha] at c0 c1 c2 c3 hlt
      exact ⟨g, o, rfl, hlt, c0, c1, c2, c3⟩
    · obtain ⟨i, hi2, rfl⟩ := List.getElem_of_mem he
      exact (hep i _ (List.getElem?_eq_getElem hi2)).1

end Go.Proofs.YtpnboieppkjfnaaGreat
