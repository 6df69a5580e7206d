/-
  How all files lie in memory: a table, a map, and a block for each path that ever was.
-/
import Derived.Test.YtfjdfdpelilelaaDoorTab
import Derived.Test.YtfjdfdpelilelaaDoorSmall
import Derived.Test.YtfjdfdpelilelaaDoorRefParts
import Derived.Maps.Ext
import Derived.Maps.RangeWalk
namespace Go.Proofs.YtfjdfdpelilelaaDoor
open Go.RowKit

/-- How a map's element reads: a pointer to a block, by its number. -/
def fileElem (v : Value) : Option (DataW Unit × List MemPlace) :=
  match v with
  | .pointer none => some (.nil, [])
  | .pointer (some a) => if a = ⟨a.block, 0, none⟩ then some (.lit (.int .i64 (a.block : Int)), []) else none
  | _ => none

def entPtr (o : Option Ent) : Option Addr := o.map fun e => ⟨e.blk, 0, none⟩
def entData (o : Option Ent) : DataW Unit := match o with | none => .nil | some e => .lit (.int .i64 (e.blk : Int))

theorem fileElem_nil : fileElem (.pointer none) = some (.nil, []) := rfl
theorem fileElem_mk (b : Nat) : fileElem (.pointer (some ⟨b, 0, none⟩)) = some (.lit (.int .i64 (b : Int)), []) := by
  simp [fileElem]

theorem fileElem_inv {v : Value} {y : DataW Unit × List MemPlace} (h : fileElem v = some y) : ∃ o : Option Nat, v = .pointer (o.map fun b => ⟨b, 0, none⟩) ∧ y.1 = (match o with | none => .nil | some b => .lit (.int .i64 (b : Int))) := by
  unfold fileElem at h
  split at h
  · cases h; exact ⟨none, rfl, rfl⟩
  · rename_i a
    split at h
    · rename_i ha
      cases h
      exact ⟨some a.block, by rw [ha]; rfl, rfl⟩
    · cases h
  · cases h

theorem fileElem_ent {v : Value} {o : Option Ent} {ps : List MemPlace} (h : fileElem v = some (entData o, ps)) : v = .pointer (entPtr o) := by
  obtain ⟨p, rfl, hy⟩ := fileElem_inv h
  cases o with
  | none => cases p with
    | none => rfl
    | some b => cases hy
  | some e => cases p with
    | none => cases hy
    | some b =>
      simp only [entData, DataW.lit.injEq, Lit.int.injEq, true_and] at hy
      have : e.blk = b := by omega
      subst this
      rfl

theorem strKeyed : Maps.Keyed Tryd.prog 9 := Maps.string_keyed Tryd.underlying9

def tblObj (ds : Value) (mb : Option Nat) (c : Nat) : Obj := .cells #[ds, .map mb, .int .i64 (c : Int)] 59 (0, 0)
def txtPtr (x : Option (Nat × Option T)) : Option Addr := x.map fun y => ⟨y.1, 0, none⟩
def fileObj (e : Ent) : Obj := .cells #[.pointer (txtPtr e.txt), .int .i64 (e.n : Int)] 78 (0, 0)

/-- The blocks that are the table's own. -/
def mine (p : Nat) (t : Tab) : List Nat := p :: (t.mb.toList ++ t.ents.map (·.blk))

/-- The map, as it reads. -/
def MapAt (w : World) (t : Tab) : Prop :=
  match t.mb with
  | none => t.ents = []
  | some mb => ∃ D, w.ownsMap Tryd.prog 9 fileElem mb t.ents.length D ∧ (∀ l, D.atKey (.string l) .nil = entData (t.ent l)) ∧ ∀ l, Maps.has D (.string l) = (t.ent l).isSome

structure FT (B : Nat) (M : Mp) (w : World) (p : Nat) (t : Tab) (c : Nat) : Prop where
  inv : Inv B [] M w
  low : ∀ k ∈ mine p t, B ≤ k
  tbl : ∃ ds, w.heap[p]? = some (tblObj ds t.mb c) ∧ OwnStrs B ds t.dirs w
  map : MapAt w t
  file : ∀ e ∈ t.ents, w.heap[e.blk]? = some (fileObj e)
  rope : ∀ e ∈ t.ents, ∀ x, e.txt = some x → RP M w (some ⟨x.1, 0, none⟩) x.2
  paths : (t.ents.map (·.path)).Nodup
  blks : (t.ents.map (·.blk)).Nodup
  short : ∀ e ∈ t.ents, e.path.length ≤ 1000000
  few : t.ents.length ≤ 1000000 ∧ (∀ e ∈ t.ents, e.n ≤ 1000000)

/-- The objects that a table of files is made of. -/
def KMap (o : Obj) : Prop := ∃ es c, o = .map es c
def KOf (ty : TypeId) (o : Obj) : Prop := ∃ cs, o = .cells cs ty (0, 0)
def Kind (o : Obj) : Prop := KMap o ∨ KOf 9 o ∨ KOf 92 o ∨ KOf 59 o ∨ KOf 78 o

/-- Such objects are as they were. -/
def SameOn (Z : Obj → Prop) (w w' : World) : Prop := ∀ (k : Nat) (o : Obj), w.heap[k]? = some o → Z o → w'.heap[k]? = some o
abbrev Same := SameOn Kind

theorem SameOn.mono {Z Y : Obj → Prop} {w w' : World} (h : SameOn Z w w') (hy : ∀ o, Y o → Z o) : SameOn Y w w' := fun k o ho hk => h k o ho (hy o hk)
theorem Same.str {w w' : World} (h : Same w w') : SameOn (KOf 9) w w' := h.mono fun _ ho => .inr (.inl ho)
theorem Same.map {w w' : World} (h : Same w w') : SameOn KMap w w' := h.mono fun _ ho => .inl ho
theorem Same.rope {w w' : World} (h : Same w w') : SameOn (KOf 92) w w' := h.mono fun _ ho => .inr (.inr (.inl ho))

theorem kof_no_node {B : Nat} {L : List Nat} {M : Mp} {w : World} (h : Inv B L M w) {k : Nat} {ty : TypeId} {o : Obj} (ho : w.heap[k]? = some o) (hk : KOf ty o) (ht : ty ≠ 150) : M k = none := by
  cases e : M k with
  | none => rfl
  | some u =>
    obtain ⟨lp, rp, d, st, q, br, h1, _⟩ := h.node k u e
    rw [ho] at h1
    obtain ⟨cs, rfl⟩ := hk
    simp only [nodeObj, Option.some.injEq, Obj.cells.injEq] at h1
    exact absurd h1.2.1 ht

theorem map_no_node {B : Nat} {L : List Nat} {M : Mp} {w : World} (h : Inv B L M w) {k : Nat} {o : Obj} (ho : w.heap[k]? = some o) (hk : KMap o) : M k = none := by
  cases e : M k with
  | none => rfl
  | some u =>
    obtain ⟨lp, rp, d, st, q, br, h1, _⟩ := h.node k u e
    rw [ho] at h1
    obtain ⟨es, c, rfl⟩ := hk
    simp [nodeObj] at h1

theorem kind_no_node {B : Nat} {L : List Nat} {M : Mp} {w : World} (h : Inv B L M w) {k : Nat} {o : Obj} (ho : w.heap[k]? = some o) (hk : Kind o) : M k = none := by
  rcases hk with hk | hk | hk | hk | hk
  · exact map_no_node h ho hk
  all_goals exact kof_no_node h ho hk (by decide)

theorem kof_tbl (ds : Value) (mb : Option Nat) (c : Nat) : KOf 59 (tblObj ds mb c) := ⟨_, rfl⟩
theorem kof_file (e : Ent) : KOf 78 (fileObj e) := ⟨_, rfl⟩
theorem kind_tbl (ds : Value) (mb : Option Nat) (c : Nat) : Kind (tblObj ds mb c) := .inr (.inr (.inr (.inl (kof_tbl ds mb c))))
theorem kind_file (e : Ent) : Kind (fileObj e) := .inr (.inr (.inr (.inr (kof_file e))))
theorem kof_ne {s t : TypeId} {o u : Obj} (ho : KOf s o) (hu : KOf t u) (h : s ≠ t) : o ≠ u := by
  obtain ⟨a, rfl⟩ := ho
  obtain ⟨b, rfl⟩ := hu
  simp only [ne_eq, Obj.cells.injEq]
  exact fun x => h x.2.1
theorem kmap_ne {t : TypeId} {o u : Obj} (ho : KMap o) (hu : KOf t u) : o ≠ u := by
  obtain ⟨a, c, rfl⟩ := ho
  obtain ⟨b, rfl⟩ := hu
  simp

theorem OwnStrs.same {B : Nat} {v : Value} {xs : List (List UInt8)} {w w' : World} (h : OwnStrs B v xs w) (hb : SameOn (KOf 9) w w') : OwnStrs B v xs w' := by
  obtain ⟨h1, h2 | ⟨g, cap, cur, e, hg, hh, hr⟩⟩ := h
  · exact ⟨h1, .inl h2⟩
  · exact ⟨h1, .inr ⟨g, cap, cur, e, hg, hb g _ hh ⟨_, rfl⟩, hr⟩⟩

theorem MapAt.same {w w' : World} {t : Tab} (h : MapAt w t) (hb : SameOn KMap w w') : MapAt w' t := by
  unfold MapAt at *
  split
  · rename_i e; rw [e] at h; exact h
  · rename_i mb e
    rw [e] at h
    obtain ⟨D, ⟨es, clock, h1, h2⟩, h3⟩ := h
    exact ⟨D, ⟨es, clock, hb _ _ h1 ⟨_, _, rfl⟩, h2⟩, h3⟩

theorem PT.ext {M M' : Mp} (hm : ∀ b u, M b = some u → M' b = some u) {p : Option Addr} {o : Option T} (h : PT M p o) : PT M' p o := by
  rcases h with h | ⟨b, t, h1, h2, h3⟩
  · exact .inl h
  · exact .inr ⟨b, t, h1, h2, hm _ _ h3⟩

theorem RP.same {B : Nat} {M M' : Mp} {w w' : World} (h0 : Inv B [] M w) (hext : ∀ k, k < w.heap.size → M' k = M k) (hb : SameOn (KOf 92) w w') {r : Option Addr} {o : Option T} (h : RP M w r o) : RP M' w' r o := by
  rcases h with h | ⟨b, p, rfl, hn, hh, hp⟩
  · exact .inl h
  · exact .inr ⟨b, p, rfl, (hext b (lt_of_heap hh)).trans hn, hb _ _ hh ⟨_, rfl⟩, hp.ext fun b u hu => (hext b (h0.lt hu)).trans hu⟩

/-- All that a table is made of is as it was: so is the table. -/
theorem FT.keep {B : Nat} {M M' : Mp} {w w' : World} {p : Nat} {t : Tab} {c : Nat} (h : FT B M w p t c) (i : Inv B [] M' w') (hext : ∀ k, k < w.heap.size → M' k = M k) (hb : Same w w') : FT B M' w' p t c := by
  obtain ⟨ds, h1, h2⟩ := h.tbl
  exact ⟨i, h.low, ⟨ds, hb _ _ h1 (kind_tbl _ _ _), h2.same hb.str⟩, h.map.same hb.map, fun e he => hb _ _ (h.file e he) (kind_file e), fun e he x hx => (h.rope e he x hx).same h.inv hext hb.rope, h.paths, h.blks, h.short, h.few⟩

theorem St.kind {B : Nat} {M M' : Mp} {w w' : World} (h0 : Inv B [] M w) (s : St B M w M' w') : Same w w' :=
  fun k _ ho hk => (s.fr.block k (lt_of_heap ho) (kind_no_node h0 ho hk)).trans ho

theorem FT.step {B : Nat} {M M' : Mp} {w w' : World} {p : Nat} {t : Tab} {c : Nat} (h : FT B M w p t c) (s : St B M w M' w') : FT B M' w' p t c :=
  h.keep s.inv s.ext (s.kind h.inv)

theorem FT.below {B : Nat} {M : Mp} {w w' : World} {p : Nat} {t : Tab} {c : Nat} (h : FT B M w p t c) (b : Below w.heap.size w w') : FT B M w' p t c := h.step (St.below h.inv b)
theorem FT.drew {B : Nat} {M : Mp} {w : World} {p : Nat} {t : Tab} {c : Nat} (h : FT B M w p t c) : FT B M w.drew p t c := h.below (Below.refl _ _).drew
theorem FT.alloc {B : Nat} {M : Mp} {w : World} {p : Nat} {t : Tab} {c : Nat} (h : FT B M w p t c) (o : Obj) : FT B M (w.alloc o) p t c := h.below ((Below.refl _ _).alloc (Nat.le_refl _) _)

/-- What a step that may write blocks of S has left as it was. -/
structure Ks (S : List Nat) (M : Mp) (w : World) (M' : Mp) (w' : World) : Prop where
  os : w'.os = w.os
  tape : w'.tape = w.tape
  output : w'.output = w.output
  size : w.heap.size ≤ w'.heap.size
  ext : ∀ k, k < w.heap.size → M' k = M k
  block : ∀ k, k < w.heap.size → M k = none → k ∉ S → w'.heap[k]? = w.heap[k]?

theorem Ks.refl (S : List Nat) (M : Mp) (w : World) : Ks S M w M w := ⟨rfl, rfl, rfl, Nat.le_refl _, fun _ _ => rfl, fun _ _ _ _ => rfl⟩

theorem Ks.of_st {B : Nat} {S : List Nat} {M M' : Mp} {w w' : World} (s : St B M w M' w') : Ks S M w M' w' :=
  ⟨s.fr.os, s.fr.tape, s.fr.output, s.fr.size, s.ext, fun k hk hn _ => s.fr.block k hk hn⟩

theorem Ks.of_below {S : List Nat} {M : Mp} {w w' : World} (b : Below w.heap.size w w') : Ks S M w M w' :=
  ⟨b.os, b.tape, b.output, b.size, fun _ _ => rfl, fun k hk _ _ => b.block k hk⟩

theorem Ks.trans {S S' : List Nat} {M M' M'' : Mp} {a b c : World} (h : Ks S M a M' b) (k : Ks S' M' b M'' c) (hS : ∀ j ∈ S', j < a.heap.size → j ∈ S) : Ks S M a M'' c :=
  ⟨k.os.trans h.os, k.tape.trans h.tape, k.output.trans h.output, Nat.le_trans h.size k.size, fun j hj => (k.ext j (Nat.lt_of_lt_of_le hj h.size)).trans (h.ext j hj),
    fun j hj hn hs => (k.block j (Nat.lt_of_lt_of_le hj h.size) ((h.ext j hj).trans hn) (fun x => hs (hS j x hj))).trans (h.block j hj hn hs)⟩

theorem Ks.st {B : Nat} {S : List Nat} {M M' M'' : Mp} {a b c : World} (h : Ks S M a M' b) (s : St B M' b M'' c) : Ks S M a M'' c := h.trans (Ks.of_st (S := []) s) (fun _ hj => by cases hj)
theorem Ks.below {S : List Nat} {M M' : Mp} {a b c : World} (h : Ks S M a M' b) (s : Below b.heap.size b c) : Ks S M a M' c := h.trans (Ks.of_below (S := []) s) (fun _ hj => by cases hj)
theorem Ks.drew {S : List Nat} {M M' : Mp} {a b : World} (h : Ks S M a M' b) : Ks S M a M' b.drew := h.below (Below.refl _ _).drew

/-- Blocks from B on alone are written: what lay below is as it was. -/
theorem Ks.ended {B : Nat} {S : List Nat} {M' : Mp} {W W' : World} (k : Ks S (fun _ => none) W M' W') (hS : ∀ j ∈ S, W.heap.size ≤ j) (hB : B ≤ W.heap.size) : Below B W W' :=
  ⟨k.os, k.tape, k.output, k.size, fun j hj => k.block j (Nat.lt_of_lt_of_le hj hB) rfl (fun h => by have := hS j h; omega)⟩

/-- One block has been written. -/
structure One (b : Nat) (w w' : World) : Prop where
  os : w'.os = w.os
  tape : w'.tape = w.tape
  output : w'.output = w.output
  size : w'.heap.size = w.heap.size
  block : ∀ k, k ≠ b → w'.heap[k]? = w.heap[k]?

theorem One.setCell (w : World) (b j : Nat) (v : Value) : One b w (w.setCell ⟨b, j, none⟩ v) :=
  ⟨rfl, rfl, rfl, by simp [World.setCell], fun k hk => Below.heap_setCell w ⟨b, j, none⟩ v k hk⟩
theorem One.refl (b : Nat) (w : World) : One b w w := ⟨rfl, rfl, rfl, rfl, fun _ _ => rfl⟩
theorem One.trans {b : Nat} {u v w : World} (h : One b u v) (k : One b v w) : One b u w :=
  ⟨k.os.trans h.os, k.tape.trans h.tape, k.output.trans h.output, k.size.trans h.size, fun j hj => (k.block j hj).trans (h.block j hj)⟩
theorem One.drew {b : Nat} {u v : World} (h : One b u v) : One b u v.drew := ⟨h.os, h.tape, h.output, h.size, h.block⟩

theorem One.inv {B : Nat} {M : Mp} {b : Nat} {w w' : World} (h : One b w w') (i : Inv B [] M w) (hb : M b = none) : Inv B [] M w' :=
  i.same (Nat.le_of_eq h.size.symm) fun k t hk => h.block k (fun e => by rw [e, hb] at hk; cases hk)

theorem One.ks {S : List Nat} {M : Mp} {b : Nat} {w w' : World} (h : One b w w') (hb : b ∈ S) : Ks S M w M w' :=
  ⟨h.os, h.tape, h.output, Nat.le_of_eq h.size.symm, fun _ _ => rfl, fun k _ _ hk => h.block k (fun e => hk (e ▸ hb))⟩

theorem FT.ent_mem {B : Nat} {M : Mp} {w : World} {p : Nat} {t : Tab} {c : Nat} (_ : FT B M w p t c) {l : List UInt8} {e : Ent} (he : t.ent l = some e) : e ∈ t.ents := (Tab.ent_path he).2

theorem FT.tblCells {B : Nat} {M : Mp} {w : World} {p : Nat} {t : Tab} {c : Nat} (h : FT B M w p t c) :
    w.cell? ⟨p, 1, none⟩ = some (.map t.mb) ∧ w.cell? ⟨p, 2, none⟩ = some (.int .i64 (c : Int)) ∧ w.frozen? ⟨p, 1, none⟩ = false ∧ w.frozen? ⟨p, 2, none⟩ = false := by
  obtain ⟨ds, h1, _⟩ := h.tbl
  unfold tblObj at h1
  refine ⟨?_, ?_, Lib.frozen_of_heap h1 _, Lib.frozen_of_heap h1 _⟩ <;> (rw [Lib.cell_of_heap h1]; rfl)

theorem FT.fileCells {B : Nat} {M : Mp} {w : World} {p : Nat} {t : Tab} {c : Nat} (h : FT B M w p t c) {l : List UInt8} {e : Ent} (he : t.ent l = some e) :
    w.cell? ⟨e.blk, 0, none⟩ = some (.pointer (txtPtr e.txt)) ∧ w.cell? ⟨e.blk, 1, none⟩ = some (.int .i64 (e.n : Int)) := by
  have h1 := h.file e (h.ent_mem he)
  unfold fileObj at h1
  refine ⟨?_, ?_⟩ <;> (rw [Lib.cell_of_heap h1]; rfl)

/-- A look at the map. -/
theorem FT.look {B : Nat} {M : Mp} {w : World} {p : Nat} {t : Tab} {c : Nat} (h : FT B M w p t c) (s : ByteArray) (hs : s.size ≤ 1000000) :
    (Instr.lookup 57 (.map t.mb) (.string s) false).run Tryd.prog w = .ok (.pointer (entPtr (t.ent s.data.toList))) w := by
  have hz : (zeroValue 61).run Tryd.prog w = .ok (.pointer none) w := by kernel_rfl
  have hkey : keyOf Tryd.prog 9 (.string s) = some (.string s.data.toList) := WideMaps.keyOf_string_mk Tryd.underlying9 (by unfold maxLen; omega)
  have hm := h.map
  unfold MapAt at hm
  split at hm
  · rename_i e
    rw [e]
    have he : t.ent s.data.toList = none := by unfold Tab.ent; rw [hm]; rfl
    rw [he]
    exact Maps.look_nil false strKeyed Tryd.underlying57 hz hkey
  · rename_i mb e
    rw [e]
    obtain ⟨D, hown, hat, _⟩ := hm
    obtain ⟨v, ps, hrun, hv⟩ := hown.lookup strKeyed Tryd.underlying57 hz fileElem_nil hkey
    rw [hat] at hv
    rw [hrun, fileElem_ent hv]

end Go.Proofs.YtfjdfdpelilelaaDoor
