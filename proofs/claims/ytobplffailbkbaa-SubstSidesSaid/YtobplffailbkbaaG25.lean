/-
  Texts of the proof, put together: SuB, LibB, AgBd.
-/
import Derived.Test.YtobplffailbkbaaG24
import Derived.Maps.OwnSet
import Derived.StillTailTactics
import Derived.Shelf.Strings.Builder1
import Derived.Shelf.Small.Strs
import Derived.Shelf.Strings.BuilderF
import Derived.Shelf.Strings.BuilderK
import Derived.Shelf.Strings.Search1
import Derived.Shelf.Strings.Prefix
import Derived.Test.YtobplffailbkbaaProg
import Derived.Test.YtobplffailbkbaaG23
import Derived.Test.YtobplffailbkbaaG09
import Derived.Test.YtobplffailbkbaaG15

/-
  What stands at a place of a body: the project's body in memory, its param, hash, paste, standsRaw.
-/
namespace Go.Proofs.Ytobplffailbkbaa
open Go.RowKit Go.Maps

/-- How a map's element reads: a number, whichever. -/
def nbElem (v : Value) : Option (DataW Unit × List MemPlace) := match v with
  | .int .i64 c => some (.lit (.int .i64 c), [])
  | _ => none
theorem nbElem_inv {v : Value} {d : DataW Unit} {ps : List MemPlace} (h : nbElem v = some (d, ps)) : ∃ c, v = .int .i64 c ∧ d = .lit (.int .i64 c) := by
  unfold nbElem at h
  split at h
  · simp only [Option.some.injEq, Prod.mk.injEq] at h
    exact ⟨_, rfl, h.1.symm⟩
  · cases h
theorem keyStr : Maps.Keyed Try.prog 9 := Maps.string_keyed Try.underlying9
theorem keyOfS (s : ByteArray) (h : s.size ≤ maxLen) : keyOf Try.prog 9 (.string s) = some (.string s.data.toList) := WideMaps.keyOf_string_mk Try.underlying9 h
theorem zeroI (w : World) : (zeroValue 3).run Try.prog w = .ok (.int .i64 0) w := by kernel_rfl
theorem lit_diff {x s : ByteArray} (h : x ≠ s) : Lit.string x.data.toList ≠ Lit.string s.data.toList := by
  intro e
  simp only [Lit.string.injEq] at e
  apply h
  apply ByteArray.ext
  exact Array.toList_inj.1 e
theorem map_over {H : Type} {R : Value → Option (DataW H × List MemPlace)} {w w' : World} {k : TypeId} {b n : Nat} {D : DataW H} (h : w.ownsMap Try.prog k R b n D) (hb : w'.heap[b]? = w.heap[b]?) : w'.ownsMap Try.prog k R b n D := by
  obtain ⟨es, c, h1, h2⟩ := h
  exact ⟨es, c, hb.trans h1, h2⟩

/-- What the map says of names. -/
def Says (D : DataW Unit) (ps : List ByteArray) : Prop := ∀ x : ByteArray, Maps.has D (.string x.data.toList) = decide (0 ≤ idxI x ps 0) ∧ (0 ≤ idxI x ps 0 → D.atKey (.string x.data.toList) (.lit (.int .i64 0)) = .lit (.int .i64 (idxI x ps 0)))
/-- The places of the parameters. -/
def PlacesIs (m : Xm) (mo : Option Nat) (w : World) : Prop := match mo with
  | none => m.fn = false
  | some b => m.fn = true ∧ ∃ D N, w.ownsMap Try.prog 9 nbElem b N D ∧ Says D m.ps
theorem PlacesIs.over {m : Xm} {mo : Option Nat} {w w' : World} (h : PlacesIs m mo w) (b : Below w.heap.size w w') : PlacesIs m mo w' := by
  match mo, h with
  | none, h => exact h
  | some k, h =>
    obtain ⟨hf, D, N, h1, h2⟩ := h
    exact ⟨hf, D, N, map_over h1 (b.block _ h1.lt), h2⟩
/-- A look at the map, in whatever world above. -/
theorem PlacesIs.look {m : Xm} {mo : Option Nat} {w : World} (h : PlacesIs m mo w) (x : ByteArray) (hx : x.size ≤ maxLen) :
    ∃ c, (∀ X : World, Below w.heap.size w X → (Instr.lookup 74 (.map mo) (.string x) true).run Try.prog X = .ok (.tuple #[.int .i64 c, .bool (decide (m.fn = true ∧ 0 ≤ idxI x m.ps 0))]) X) ∧ (m.fn = true → 0 ≤ idxI x m.ps 0 → c = idxI x m.ps 0) := by
  match mo, h with
  | none, h =>
    have h : m.fn = false := h
    refine ⟨0, fun X _ => ?_, fun e => by rw [h] at e; cases e⟩
    have e : decide (m.fn = true ∧ 0 ≤ idxI x m.ps 0) = false := by simp [h]
    rw [e]
    exact Maps.look_nil true keyStr Try.underlying74 (zeroI _) (keyOfS x hx)
  | some b, h =>
    obtain ⟨hf, D, N, h1, h2⟩ := h
    obtain ⟨hh, hv⟩ := h2 x
    have e : decide (m.fn = true ∧ 0 ≤ idxI x m.ps 0) = decide (0 ≤ idxI x m.ps 0) := by simp [hf]
    obtain ⟨v, ps, hr, hval⟩ := h1.look_ok keyStr Try.underlying74 (zeroI w) (zd := .lit (.int .i64 0)) (zp := []) rfl (keyOfS x hx)
    obtain ⟨c, rfl, hc⟩ := nbElem_inv hval
    refine ⟨c, fun X hX => ?_, fun _ h0 => ?_⟩
    · have h1' : X.ownsMap Try.prog 9 nbElem b N D := map_over h1 (hX.block _ h1.lt)
      obtain ⟨v2, ps2, hr2, hv2⟩ := h1'.look_ok keyStr Try.underlying74 (zeroI _) (zd := .lit (.int .i64 0)) (zp := []) rfl (keyOfS x hx)
      obtain ⟨c2, rfl, hc2⟩ := nbElem_inv hv2
      rw [hc] at hc2
      simp only [DataW.lit.injEq, Lit.int.injEq, true_and] at hc2
      rw [hh, ← hc2] at hr2
      rw [e]
      exact hr2
    · rw [hv h0] at hc
      simp only [DataW.lit.injEq, Lit.int.injEq, true_and] at hc
      exact hc.symm

def bodyObj (bv : Value) (mo : Option Nat) (rv fv sv : Value) : Obj := .cells #[bv, .map mo, rv, fv, sv] 76 (0, 0)
/-- The project's body. -/
structure SB (m : Xm) (A B : List (List Xt)) (S : List Xs) (bv : Value) (mo : Option Nat) (rv fv sv : Value) (g : Nat) (w : World) : Prop where
  obj : w.heap[g]? = some (bodyObj bv mo rv fv sv)
  toks : ToksX m.bd bv w
  plc : PlacesIs m mo w
  raw : RowsX A rv w
  full : RowsX B fv w
  sits : SitsA S sv w
theorem SB.lt {m : Xm} {A B : List (List Xt)} {S : List Xs} {bv : Value} {mo : Option Nat} {rv fv sv : Value} {g : Nat} {w : World} (h : SB m A B S bv mo rv fv sv g w) : g < w.heap.size := row_lt h.obj
theorem SB.over {m : Xm} {A B : List (List Xt)} {S : List Xs} {bv : Value} {mo : Option Nat} {rv fv sv : Value} {g : Nat} {w w' : World} (h : SB m A B S bv mo rv fv sv g w) (b : Below w.heap.size w w') : SB m A B S bv mo rv fv sv g w' :=
  ⟨(b.block g h.lt).trans h.obj, h.toks.over b, h.plc.over b, h.raw.over b, h.full.over b, h.sits.over b⟩
theorem SB.cells {m : Xm} {A B : List (List Xt)} {S : List Xs} {bv : Value} {mo : Option Nat} {rv fv sv : Value} {g : Nat} {w : World} (h : SB m A B S bv mo rv fv sv g w) :
    w.cell? ⟨g, 0, none⟩ = some bv ∧ w.cell? ⟨g, 1, none⟩ = some (.map mo) ∧ w.cell? ⟨g, 2, none⟩ = some rv ∧ w.cell? ⟨g, 3, none⟩ = some fv ∧ w.cell? ⟨g, 4, none⟩ = some sv := by
  have ho := h.obj
  unfold bodyObj at ho
  refine ⟨?_, ?_, ?_, ?_, ?_⟩ <;> (rw [Lib.cell_of_heap ho]; rfl)
def Szd (m : Xm) : Prop := m.bd.length ≤ 100000 ∧ ∀ t ∈ m.bd, t.x.size ≤ maxLen

theorem parI_no {m : Xm} {i : Nat} (h : m.bd.length ≤ i) : parI m i = -1 := by
  unfold parI
  rw [List.getElem?_eq_none h]
theorem parI_at {m : Xm} {i : Nat} {t : Xt} (h : m.bd[i]? = some t) : parI m i = if t.k = 1 ∧ m.fn = true then idxI t.x m.ps 0 else -1 := by
  unfold parI
  rw [h]
theorem idxI_ge (x : ByteArray) : ∀ (ps : List ByteArray) (k : Int), 0 ≤ k → idxI x ps k = -1 ∨ k ≤ idxI x ps k
  | [], k, _ => .inl rfl
  | y :: r, k, h => by
    unfold idxI
    split
    · exact .inr (by omega)
    · rcases idxI_ge x r (k + 1) (by omega) with e | e
      · exact .inl e
      · exact .inr (by omega)
theorem idxI_neg {x : ByteArray} {ps : List ByteArray} (h : ¬ 0 ≤ idxI x ps 0) : idxI x ps 0 = -1 := by
  rcases idxI_ge x ps 0 (by omega) with e | e
  · exact e
  · exact absurd e h

set_option maxRecDepth 100000 in
set_option maxHeartbeats 3200000 in
theorem param_any {m : Xm} {A B : List (List Xt)} {S : List Xs} {bv : Value} {mo : Option Nat} {rv fv sv : Value} {g : Nat} {w : World} (h : SB m A B S bv mo rv fv sv g w) (hz : Szd m) (i : Nat) :
    Calls Try.prog 36 #[.pointer (some ⟨g, 0, none⟩), .int .i64 (i : Int)] w (IntNew (parI m i) w) := by
  obtain ⟨a, n, cap, rfl⟩ := h.toks.form
  obtain ⟨hn, hc1, hc2⟩ := h.toks.len
  obtain ⟨k0, k1, k2, k3, k4⟩ := h.cells
  unfold maxLen at hc2
  have hi0 : ¬ (i : Int) < 0 := by omega
  by_cases hlt : i < n
  · obtain ⟨t, ht⟩ : ∃ t, m.bd[i]? = some t := ⟨_, List.getElem?_eq_getElem (by omega)⟩
    obtain ⟨b, o, sa, sn, sc, rfl, hg, -, ⟨c0, c1, -⟩, -⟩ := h.toks.get ht
    have hZ := parI_at ht
    obtain ⟨Z, hZe⟩ : ∃ Z, parI m i = Z := ⟨_, rfl⟩
    rw [hZe] at hZ ⊢
    clear hZe
    have hts := hz.2 t (List.mem_of_getElem? ht)
    have hl : ¬ (n : Int) ≤ (i : Int) := by omega
    by_cases hk : t.k = 1
    · have hk' : (t.k != 1) = false := by simp [hk]
      obtain ⟨c, hlook0, hval⟩ := h.plc.look t.x hts
      have hlook : ∀ q : Nat, (Instr.lookup 74 (.map mo) (.string t.x) true).run Try.prog (w.drewN q) = .ok (.tuple #[.int .i64 c, .bool (decide (m.fn = true ∧ 0 ≤ idxI t.x m.ps 0))]) (w.drewN q) := fun q => hlook0 _ (Below.of_drews _ _)
      have hlook0 := hlook 0
      obtain ⟨bm, hbm⟩ : ∃ b, decide (m.fn = true ∧ 0 ≤ idxI t.x m.ps 0) = b := ⟨_, rfl⟩
      rw [hbm] at hlook hlook0
      have HE : Hid ((if bm = true then c else -1) = Z) := Lib.hid (by
        rw [hZ, ← hbm]
        by_cases hf : m.fn = true
        · rw [if_pos (show t.k = 1 ∧ m.fn = true from ⟨hk, hf⟩)]
          by_cases h0 : 0 ≤ idxI t.x m.ps 0
          · rw [if_pos (by simp [hf, h0])]
            exact hval hf h0
          · rw [if_neg (by simp [h0]), idxI_neg h0]
        · rw [if_neg (show ¬ (t.k = 1 ∧ m.fn = true) from fun e => hf e.2), if_neg (by simp [hf])])
      clear hk ht h hbm hts hn hval hz hZ
      cases bm with
      | true =>
        go_enter Try.func36, Try.ntmps36
        go_wp2
        go_quiet (fail)
        go_wp2
        go_ret
        exact int_new HE.out (Below.of_drews _ _)
      | false =>
        go_enter Try.func36, Try.ntmps36
        go_wp2
        go_quiet (fail)
        go_wp2
        go_ret
        exact int_new HE.out (Below.of_drews _ _)
    · have hk' : (t.k != 1) = true := by simp [hk]
      have HE : Hid ((-1 : Int) = Z) := Lib.hid (by rw [hZ, if_neg fun e => hk e.1])
      clear hk ht hn h hz hZ
      go_enter Try.func36, Try.ntmps36
      go_wp2
      go_ret
      exact int_new HE.out (Below.refl _ _)
  · have HE : Hid ((-1 : Int) = parI m i) := Lib.hid (parI_no (by omega)).symm
    have hl : (n : Int) ≤ (i : Int) := by omega
    clear hn h hz
    go_enter Try.func36, Try.ntmps36
    go_wp2
    go_ret
    exact int_new HE.out (Below.refl _ _)

theorem pasI_no {m : Xm} {i : Nat} (h : m.bd.length ≤ i) : pasI m i = false := by
  unfold pasI
  rw [List.getElem?_eq_none h]
theorem pasI_at {m : Xm} {i : Nat} {t : Xt} (h : m.bd[i]? = some t) : pasI m i = pasteX t := by
  unfold pasI
  rw [h]
theorem hashI_at {m : Xm} {i : Nat} {t : Xt} (h : m.bd[i]? = some t) : hashI m i = (hashX t && decide (0 ≤ parI m (i + 1))) := by
  unfold hashI
  rw [h]
/-- .. at a place that may be ahead of all. -/
def pasZ (m : Xm) (i : Int) : Bool := decide (0 ≤ i) && pasI m i.toNat

set_option maxRecDepth 100000 in
set_option maxHeartbeats 3200000 in
theorem spaste_any {m : Xm} {A B : List (List Xt)} {S : List Xs} {bv : Value} {mo : Option Nat} {rv fv sv : Value} {g : Nat} {w : World} (h : SB m A B S bv mo rv fv sv g w) (i : Int) :
    Calls Try.prog 48 #[.pointer (some ⟨g, 0, none⟩), .int .i64 i] w (BoolNew (pasZ m i) w) := by
  obtain ⟨a, n, cap, rfl⟩ := h.toks.form
  obtain ⟨hn, hc1, hc2⟩ := h.toks.len
  obtain ⟨k0, k1, k2, k3, k4⟩ := h.cells
  unfold maxLen at hc2
  by_cases h0 : 0 ≤ i
  · obtain ⟨j, rfl⟩ := Int.eq_ofNat_of_zero_le h0
    have hE : pasZ m (j : Int) = pasI m j := by
      unfold pasZ
      simp
    rw [hE]
    clear hE
    by_cases hlt : j < n
    · obtain ⟨t, ht⟩ : ∃ t, m.bd[j]? = some t := ⟨_, List.getElem?_eq_getElem (by omega)⟩
      obtain ⟨b, o, sa, sn, sc, rfl, hg, -, ⟨c0, c1, c2, c3, c4, c5, c6, c7⟩, -⟩ := h.toks.get ht
      rw [pasI_at ht]
      have hl : (j : Int) < (n : Int) := by omega
      have HP : Hid (∀ X : World, Calls Try.prog 69 #[.agg #[.int .i64 t.k, .string t.x, .bool t.sp, .string t.g, .int .i64 t.f, .int .i64 t.t, .bool t.d, .slice sa sn sc]] X (BoolNew (pasteX t) X)) := Lib.hid (fun X => paste_any t sa sn sc X)
      clear h ht hn
      go_enter Try.func48, Try.ntmps48
      go_wp2_with (go_at_call 69; (with_reducible refine (HP.out _).mono ?_); rintro e w1 ⟨rfl, hb⟩; have HB := Lib.hid hb; clear hb)
      go_ret
      exact ⟨rfl, HB.out⟩
    · have HE : Hid (false = pasI m j) := Lib.hid (pasI_no (by omega)).symm
      have hl : ¬ (j : Int) < (n : Int) := by omega
      clear hn h
      go_enter Try.func48, Try.ntmps48
      go_wp2
      go_ret
      exact bool_new HE.out (Below.refl _ _)
  · have HE : Hid (false = pasZ m i) := Lib.hid (by unfold pasZ; simp [h0])
    clear h hn
    go_enter Try.func48, Try.ntmps48
    go_wp2
    go_ret
    exact bool_new HE.out (Below.refl _ _)

set_option maxRecDepth 100000 in
set_option maxHeartbeats 3200000 in
theorem shash_any {m : Xm} {A B : List (List Xt)} {S : List Xs} {bv : Value} {mo : Option Nat} {rv fv sv : Value} {g : Nat} {w : World} (h : SB m A B S bv mo rv fv sv g w) (hz : Szd m) {i : Nat} (hi : i < m.bd.length) :
    Calls Try.prog 49 #[.pointer (some ⟨g, 0, none⟩), .int .i64 (i : Int)] w (BoolNew (hashI m i) w) := by
  obtain ⟨a, n, cap, rfl⟩ := h.toks.form
  obtain ⟨hn, hc1, hc2⟩ := h.toks.len
  obtain ⟨k0, k1, k2, k3, k4⟩ := h.cells
  unfold maxLen at hc2
  obtain ⟨t, ht⟩ : ∃ t, m.bd[i]? = some t := ⟨_, List.getElem?_eq_getElem hi⟩
  obtain ⟨b, o, sa, sn, sc, rfl, hg, -, ⟨c0, c1, c2, c3, c4, c5, c6, c7⟩, -⟩ := h.toks.get ht
  have hE := hashI_at ht
  have hi2 := hz.1
  have HI := Lib.hid hi
  have hI : (i : Int) < (n : Int) := by omega
  have hI0 : (0 : Int) ≤ (i : Int) := by omega
  have HPA : Hid (∀ X : World, Below w.heap.size w X → Calls Try.prog 36 #[.pointer (some ⟨g, 0, none⟩), .int .i64 ((i : Int) + 1)] X (IntNew (parI m (i + 1)) X)) := Lib.hid (fun X hX => param_any (h.over hX) hz (i + 1))
  have HH : Hid (∀ X : World, Calls Try.prog 70 #[.agg #[.int .i64 t.k, .string t.x, .bool t.sp, .string t.g, .int .i64 t.f, .int .i64 t.t, .bool t.d, .slice sa sn sc]] X (BoolNew (hashX t) X)) := Lib.hid (fun X => hash_any t sa sn sc X)
  obtain ⟨bh, hbh⟩ : ∃ b, hashX t = b := ⟨_, rfl⟩
  obtain ⟨pi, hpi⟩ : ∃ b, parI m (i + 1) = b := ⟨_, rfl⟩
  rw [hbh] at HH hE
  rw [hpi] at HPA hE
  have HE := Lib.hid hE
  clear h ht hn hi hbh hpi hE hz
  cases bh with
  | false =>
    go_enter Try.func49, Try.ntmps49
    go_wp2_with (go_at_call 70; (with_reducible refine (HH.out _).mono ?_); rintro e w1 ⟨rfl, hb⟩; have HB := Lib.hid hb; clear hb)
    go_ret
    exact bool_new (by rw [HE.out]; rfl) HB.out
  | true =>
    by_cases hp : 0 ≤ pi
    · go_enter Try.func49, Try.ntmps49
      go_wp2_with (first
        | (go_at_call 70; (with_reducible refine (HH.out _).mono ?_); rintro e w1 ⟨rfl, hb⟩; have HB := Lib.hid hb; clear hb)
        | (go_at_call 36; (with_reducible refine (HPA.out _ HB.out).mono ?_); rintro e w2 ⟨rfl, hb⟩; have HB2 := Lib.hid (below_up HB.out hb); clear hb))
      go_ret
      exact bool_new (by rw [HE.out]; simp [hp]) HB2.out
    · go_enter Try.func49, Try.ntmps49
      go_wp2_with (first
        | (go_at_call 70; (with_reducible refine (HH.out _).mono ?_); rintro e w1 ⟨rfl, hb⟩; have HB := Lib.hid hb; clear hb)
        | (go_at_call 36; (with_reducible refine (HPA.out _ HB.out).mono ?_); rintro e w2 ⟨rfl, hb⟩; have HB2 := Lib.hid (below_up HB.out hb); clear hb))
      go_ret
      exact bool_new (by rw [HE.out]; simp) HB2.out

set_option maxRecDepth 100000 in
set_option maxHeartbeats 6400000 in
theorem sraw_any {m : Xm} {A B : List (List Xt)} {S : List Xs} {bv : Value} {mo : Option Nat} {rv fv sv : Value} {g : Nat} {w : World} (h : SB m A B S bv mo rv fv sv g w) (hz : Szd m) {i : Nat} (hi : i < m.bd.length) :
    Calls Try.prog 37 #[.pointer (some ⟨g, 0, none⟩), .int .i64 (i : Int)] w (BoolNew (rawI m i) w) := by
  have hi2 := hz.1
  have hi6 : (i : Int) ≤ 100000 := by omega
  have hi7 : (0 : Int) ≤ (i : Int) := by omega
  obtain ⟨bh, hbh⟩ : ∃ b, (decide (0 < i) && hashI m (i - 1)) = b := ⟨_, rfl⟩
  obtain ⟨b1, hb1⟩ : ∃ b, (decide (0 < i) && pasI m (i - 1)) = b := ⟨_, rfl⟩
  obtain ⟨b2, hb2⟩ : ∃ b, pasI m (i + 1) = b := ⟨_, rfl⟩
  have HP1 : Hid (∀ X : World, Below w.heap.size w X → Calls Try.prog 48 #[.pointer (some ⟨g, 0, none⟩), .int .i64 ((i : Int) - 1)] X (BoolNew b1 X)) := Lib.hid (fun X hX => by
    have := spaste_any (h.over hX) ((i : Int) - 1)
    have e : pasZ m ((i : Int) - 1) = b1 := by
      rw [← hb1]
      unfold pasZ
      by_cases h0 : 0 < i
      · rw [show ((i : Int) - 1).toNat = i - 1 from by omega]
        congr 1
        simp only [decide_eq_decide]
        omega
      · rw [decide_eq_false (by omega), decide_eq_false h0]
        rfl
    rw [e] at this
    exact this)
  have HP2 : Hid (∀ X : World, Below w.heap.size w X → Calls Try.prog 48 #[.pointer (some ⟨g, 0, none⟩), .int .i64 ((i : Int) + 1)] X (BoolNew b2 X)) := Lib.hid (fun X hX => by
    have := spaste_any (h.over hX) ((i : Int) + 1)
    have e : pasZ m ((i : Int) + 1) = b2 := by
      rw [← hb2]
      unfold pasZ
      rw [show ((i : Int) + 1).toNat = i + 1 from by omega, decide_eq_true (by omega)]
      rfl
    rw [e] at this
    exact this)
  have HE : Hid (rawI m i = (bh || b1 || b2)) := Lib.hid (by unfold rawI; rw [hbh, hb1, hb2])
  by_cases h0 : 0 < i
  · have h0I : (0 : Int) < (i : Int) := by omega
    have HH : Hid (∀ X : World, Below w.heap.size w X → Calls Try.prog 49 #[.pointer (some ⟨g, 0, none⟩), .int .i64 ((i : Int) - 1)] X (BoolNew bh X)) := Lib.hid (fun X hX => by
      have := shash_any (h.over hX) hz (i := i - 1) (by omega)
      rw [show (((i - 1 : Nat)) : Int) = (i : Int) - 1 from by omega] at this
      have e : hashI m (i - 1) = bh := by rw [← hbh, decide_eq_true h0]; rfl
      rw [e] at this
      exact this)
    have hB0 : Hid (Below w.heap.size w w) := Lib.hid (Below.refl _ _)
    clear h hz hi hbh hb1 hb2 h0
    cases bh with
    | true =>
      go_enter Try.func37, Try.ntmps37
      go_wp2_with (go_at_call 49; (with_reducible refine (HH.out _ hB0.out).mono ?_); rintro e w1 ⟨rfl, hb⟩; have HB := Lib.hid hb; clear hb)
      go_ret
      exact bool_new (by rw [HE.out]; rfl) HB.out
    | false =>
      cases b1 with
      | true =>
        go_enter Try.func37, Try.ntmps37
        go_wp2_with (first
          | (go_at_call 49; (with_reducible refine (HH.out _ hB0.out).mono ?_); rintro e w1 ⟨rfl, hb⟩; have HB := Lib.hid hb; clear hb)
          | (go_at_call 48; (with_reducible refine (HP1.out _ HB.out).mono ?_); rintro e w2 ⟨rfl, hb⟩; have HB2 := Lib.hid (below_up HB.out hb); clear hb))
        go_ret
        exact bool_new (by rw [HE.out]; rfl) HB2.out
      | false =>
        go_enter Try.func37, Try.ntmps37
        go_wp2_with (first
          | (go_at_call 49; (with_reducible refine (HH.out _ hB0.out).mono ?_); rintro e w1 ⟨rfl, hb⟩; have HB := Lib.hid hb; clear hb)
          | (go_at_call 48; first
              | ((with_reducible refine (HP1.out _ HB.out).mono ?_); rintro e w2 ⟨rfl, hb⟩; have HB2 := Lib.hid (below_up HB.out hb); clear hb HP1)
              | ((with_reducible refine (HP2.out _ HB2.out).mono ?_); rintro e w3 ⟨rfl, hb⟩; have HB3 := Lib.hid (below_up HB2.out hb); clear hb)))
        go_ret
        exact bool_new (by rw [HE.out]; simp) HB3.out
  · have h0I : ¬ (0 : Int) < (i : Int) := by omega
    have hbh0 : bh = false := by rw [← hbh, decide_eq_false h0]; rfl
    have hb10 : b1 = false := by rw [← hb1, decide_eq_false h0]; rfl
    subst hbh0 hb10
    have hB0 : Hid (Below w.heap.size w w) := Lib.hid (Below.refl _ _)
    clear h hz hi hbh hb1 hb2 h0
    go_enter Try.func37, Try.ntmps37
    go_wp2_with (go_at_call 48; first
      | ((with_reducible refine (HP1.out _ hB0.out).mono ?_); rintro e w2 ⟨rfl, hb⟩; have HB2 := Lib.hid hb; clear hb HP1)
      | ((with_reducible refine (HP2.out _ HB2.out).mono ?_); rintro e w3 ⟨rfl, hb⟩; have HB3 := Lib.hid (below_up HB2.out hb); clear hb))
    go_ret
    exact bool_new (by rw [HE.out]; rfl) HB3.out

end Go.Proofs.Ytobplffailbkbaa

/-
  What is used here of the contracts of the library, laid at this program.
-/
namespace Go.Proofs
open Go.Shelf Go.RowKit

def Try.lays169_ren : Go.Shelf.Ren := ⟨fun | 169 => 94 | n => n, fun | 70 => 129 | 9 => 9 | 0 => 0 | 72 => 131 | 37 => 35 | 127 => 139 | 3 => 3 | 5 => 5 | n => n, fun | n => n⟩

theorem Try.lays169 : Go.Proofs.Lays.n169 Try.prog Try.lays169_ren := {
  mixed := by kernel_rfl
  f169 := Try.func94.trans (congrArg some (by kernel_rfl))
  t0 := Try.underlying0
  a0 := Try.isAgg0
  z0 := Try.sizeOf0
  v0 := Try.zeroValue0
  t3 := Try.underlying3
  a3 := Try.isAgg3
  z3 := Try.sizeOf3
  v3 := Try.zeroValue3
  t9 := Try.underlying9
  a9 := Try.isAgg9
  z9 := Try.sizeOf9
  v9 := Try.zeroValue9
  t37 := Try.underlying35
  a37 := Try.isAgg35
  z37 := Try.sizeOf35
  v37 := Try.zeroValue35
  t70 := Try.underlying129
  a70 := Try.isAgg129
  z70 := Try.sizeOf129
  v70 := Try.zeroValue129
  t72 := Try.underlying131
  a72 := Try.isAgg131
  z72 := Try.sizeOf131
  v72 := Try.zeroValue131
  t127 := Try.underlying139
  a127 := Try.isAgg139
  z127 := Try.sizeOf139
  v127 := Try.zeroValue139 }

theorem Try.Builder_Extra_169 : Builder.Extra Try.prog Try.lays169_ren := {
  sizeBuilder := by kernel_rfl
  liesBuilder := by kernel_rfl
  t5 := Try.underlying5
  a5 := Try.isAgg5
  z5 := Try.sizeOf5
  v5 := Try.zeroValue5
  infoByte := by kernel_rfl
  cellsByte := by kernel_rfl
  sizeByte := by kernel_rfl
  neB5 := by decide }
open Go.RowKit in

theorem Try.Builder_String_any (B b : Nat) (l : List UInt8) (w : World) (h : Lib.IsBuilder 131 5 B b (Lib.byteCells l) w) (hBw : B ≤ w.heap.size) :
    Calls Try.prog 94 #[.pointer (some ⟨b, 0, none⟩)] w fun e w' => e = .returned (.string ⟨l.toArray⟩) ∧ Below B w w' := Any.Builder_String_any Try.lays169 Try.Builder_Extra_169 B b l w h hBw


def Try.w166_ren : Go.Shelf.Ren := ⟨fun | 166 => 95 | 167 => 93 | 240 => 97 | 276 => 99 | n => n,
  fun | 0 => 0 | 3 => 3 | 4 => 4 | 5 => 5 | 9 => 9 | 20 => 20 | 37 => 35 | 70 => 129 | 72 => 131 | 75 => 133 | 80 => 135 | 164 => 140 | n => n, fun n => n⟩

theorem Try.lays166x : Lays.n166 Try.prog Try.w166_ren := {
  mixed := by kernel_rfl
  f166 := Try.func95.trans (congrArg some (by kernel_rfl))
  f240 := Try.func97.trans (congrArg some (by kernel_rfl))
  f276 := Try.func99.trans (congrArg some (by kernel_rfl))
  t0 := Try.underlying0
  a0 := Try.isAgg0
  z0 := Try.sizeOf0
  v0 := Try.zeroValue0
  t3 := Try.underlying3
  a3 := Try.isAgg3
  z3 := Try.sizeOf3
  v3 := Try.zeroValue3
  t4 := Try.underlying4
  a4 := Try.isAgg4
  z4 := Try.sizeOf4
  v4 := Try.zeroValue4
  t9 := Try.underlying9
  a9 := Try.isAgg9
  z9 := Try.sizeOf9
  v9 := Try.zeroValue9
  t20 := Try.underlying20
  a20 := Try.isAgg20
  z20 := Try.sizeOf20
  v20 := Try.zeroValue20
  t37 := Try.underlying35
  a37 := Try.isAgg35
  z37 := Try.sizeOf35
  v37 := Try.zeroValue35
  t70 := Try.underlying129
  a70 := Try.isAgg129
  z70 := Try.sizeOf129
  v70 := Try.zeroValue129
  t72 := Try.underlying131
  a72 := Try.isAgg131
  z72 := Try.sizeOf131
  v72 := Try.zeroValue131
  t75 := Try.underlying133
  a75 := Try.isAgg133
  z75 := Try.sizeOf133
  v75 := Try.zeroValue133
  t164 := Try.underlying140
  a164 := Try.isAgg140
  z164 := Try.sizeOf140
  v164 := Try.zeroValue140 }

theorem Try.extra166x : Builder.Extra Try.prog Try.w166_ren := {
  sizeBuilder := by kernel_rfl
  liesBuilder := by kernel_rfl
  t5 := Try.underlying5
  a5 := Try.isAgg5
  z5 := Try.sizeOf5
  v5 := Try.zeroValue5
  infoByte := by kernel_rfl
  cellsByte := by kernel_rfl
  sizeByte := by kernel_rfl
  neB5 := by decide }

open Go.RowKit in
theorem Try.Builder_WriteString (B b : Nat) (bs : List Value) (s : ByteArray) (w : World) (h : Lib.IsBuilder 131 5 B b bs w) (hlen : bs.length + s.size ≤ 140737488355328) (hBw : B ≤ w.heap.size) :
    Calls Try.prog 95 #[.pointer (some ⟨b, 0, none⟩), .string s] w fun e w' => e = .returned (.tuple #[.int .i64 s.size, .nilIface]) ∧ (Lib.BuilderAt 131 5 B b (.pointer (some ⟨b, 0, none⟩)) (bs ++ Lib.strCells s) w' ∧ Below B w w') := Any.Builder_WriteString Try.lays166x Try.extra166x B b bs s w h hlen hBw

theorem Try.lays167x : Lays.n167 Try.prog Try.w166_ren := {
  mixed := by kernel_rfl
  f167 := Try.func93.trans (congrArg some (by kernel_rfl))
  f240 := Try.func97.trans (congrArg some (by kernel_rfl))
  f276 := Try.func99.trans (congrArg some (by kernel_rfl))
  t0 := Try.underlying0
  a0 := Try.isAgg0
  z0 := Try.sizeOf0
  v0 := Try.zeroValue0
  t4 := Try.underlying4
  a4 := Try.isAgg4
  z4 := Try.sizeOf4
  v4 := Try.zeroValue4
  t5 := Try.underlying5
  a5 := Try.isAgg5
  z5 := Try.sizeOf5
  v5 := Try.zeroValue5
  t9 := Try.underlying9
  a9 := Try.isAgg9
  z9 := Try.sizeOf9
  v9 := Try.zeroValue9
  t20 := Try.underlying20
  a20 := Try.isAgg20
  z20 := Try.sizeOf20
  v20 := Try.zeroValue20
  t37 := Try.underlying35
  a37 := Try.isAgg35
  z37 := Try.sizeOf35
  v37 := Try.zeroValue35
  t70 := Try.underlying129
  a70 := Try.isAgg129
  z70 := Try.sizeOf129
  v70 := Try.zeroValue129
  t72 := Try.underlying131
  a72 := Try.isAgg131
  z72 := Try.sizeOf131
  v72 := Try.zeroValue131
  t75 := Try.underlying133
  a75 := Try.isAgg133
  z75 := Try.sizeOf133
  v75 := Try.zeroValue133
  t164 := Try.underlying140
  a164 := Try.isAgg140
  z164 := Try.sizeOf140
  v164 := Try.zeroValue140 }

open Go.RowKit in
theorem Try.Builder_WriteByte (B b : Nat) (bs : List Value) (c : Int) (w : World) (h : Lib.IsBuilder 131 5 B b bs w) (hlen : bs.length + 1 ≤ 140737488355328) (hBw : B ≤ w.heap.size) :
    Calls Try.prog 93 #[.pointer (some ⟨b, 0, none⟩), .int .u8 c] w fun e w' => e = .returned .nilIface ∧ (Lib.BuilderAt 131 5 B b (.pointer (some ⟨b, 0, none⟩)) (bs ++ [.int .u8 c]) w' ∧ Below B w w') := Any.Builder_WriteByte Try.lays167x Try.extra166x B b bs c w h hlen hBw

end Go.Proofs

/-
  Texts put together by a Builder; escaped, plain, Quoted, walked.
-/
namespace Go.Proofs.Ytobplffailbkbaa
open Go.RowKit

/-- The Builder in block c holds these bytes. -/
def Bld (c : Nat) (l : List UInt8) (w : World) : Prop := Lib.IsBuilder 131 5 c c (Lib.byteCells l) w
theorem bld_new (w : World) : Bld w.heap.size [] (w.alloc (.cells #[.pointer none, .slice none 0 0] 131)) := Lib.fresh_isBuilder _ _ w
def BldPost (v : Value) (c : Nat) (l : List UInt8) (w : World) (e : Ending) (w' : World) : Prop := e = .returned v ∧ Bld c l w' ∧ Below c w w'
theorem bld_byte {c : Nat} {l : List UInt8} {w : World} (h : Bld c l w) (b : UInt8) {n : Int} (hn : n = (b.toNat : Int)) (hl : l.length ≤ 10000000) (hc : c ≤ w.heap.size) : Calls Try.prog 93 #[.pointer (some ⟨c, 0, none⟩), .int .u8 n] w (BldPost .nilIface c (l ++ [b]) w) := by
  subst hn
  refine (Try.Builder_WriteByte c c _ (b.toNat : Int) w h (by rw [Lib.byteCells_length]; omega) hc).mono ?_
  rintro e w' ⟨rfl, hb, hbel⟩
  refine ⟨rfl, .inr ?_, hbel⟩
  rw [show [Value.int .u8 (b.toNat : Int)] = Lib.byteCells [b] from rfl, ← Lib.byteCells_append] at hb
  exact hb
theorem bld_text {c : Nat} {l : List UInt8} {w : World} (h : Bld c l w) (s : ByteArray) (hl : l.length + s.size ≤ 10000000) (hc : c ≤ w.heap.size) : Calls Try.prog 95 #[.pointer (some ⟨c, 0, none⟩), .string s] w (BldPost (.tuple #[.int .i64 s.size, .nilIface]) c (l ++ s.data.toList) w) := by
  refine (Try.Builder_WriteString c c _ s w h (by rw [Lib.byteCells_length]; omega) hc).mono ?_
  rintro e w' ⟨rfl, hb, hbel⟩
  refine ⟨rfl, .inr ?_, hbel⟩
  rw [Lib.strCells_eq, ← Lib.byteCells_append] at hb
  exact hb
theorem bld_str {c : Nat} {l : List UInt8} {w : World} (h : Bld c l w) (hc : c ≤ w.heap.size) : Calls Try.prog 94 #[.pointer (some ⟨c, 0, none⟩)] w fun e w' => e = .returned (.string ⟨l.toArray⟩) ∧ Below c w w' := Try.Builder_String_any c c l w h hc

def specB (c : UInt8) : Bool := decide (c = 34) || decide (c = 92)
theorem byte_isB (c : UInt8) (n : Nat) (hn : n < 256) : (((c.toNat : Nat) : Int) == (n : Int)) = decide (c = UInt8.ofNat n) := by
  by_cases h : c = UInt8.ofNat n
  · rw [byte_eqB hn h, decide_eq_true h]
  · rw [byte_neB hn h, decide_eq_false h]
theorem special_any (c : UInt8) (w : World) : Calls Try.prog 92 #[.int .u8 (c.toNat : Int)] w (BoolPost (specB c) w) := by
  have h1 := byte_isB c 34 (by decide)
  have h2 := byte_isB c 92 (by decide)
  obtain ⟨b1, e1⟩ : ∃ b, decide (c = 34) = b := ⟨_, rfl⟩
  obtain ⟨b2, e2⟩ : ∃ b, decide (c = 92) = b := ⟨_, rfl⟩
  have h1 : (((c.toNat : Nat) : Int) == 34) = b1 := h1.trans e1
  have h2 : (((c.toNat : Nat) : Int) == 92) = b2 := h2.trans e2
  unfold specB
  rw [e1, e2]
  clear e1 e2
  cases b1 <;> cases b2
  all_goals
    go_enter Try.func92, Try.ntmps92
    go_wp2
    go_ret
    exact ⟨rfl, rfl⟩

theorem quoL_snoc : ∀ (l : List UInt8) (c : UInt8), quoL (l ++ [c]) = quoL l ++ (if specB c then [92, c] else [c])
  | [], c => by
    show (if c = 34 ∨ c = 92 then 92 :: c :: quoL [] else c :: quoL []) = _
    unfold specB
    by_cases h : c = 34 ∨ c = 92
    · rw [if_pos h]
      have : (decide (c = 34) || decide (c = 92)) = true := by simpa using h
      rw [this]
      rfl
    · rw [if_neg h]
      have : (decide (c = 34) || decide (c = 92)) = false := by simpa using h
      rw [this]
      rfl
  | a :: l, c => by
    have ih := quoL_snoc l c
    show (if a = 34 ∨ a = 92 then 92 :: a :: quoL (l ++ [c]) else a :: quoL (l ++ [c])) = (if a = 34 ∨ a = 92 then 92 :: a :: quoL l else a :: quoL l) ++ _
    rw [ih]
    split <;> simp
theorem quoL_le : ∀ l : List UInt8, (quoL l).length ≤ 2 * l.length
  | [] => Nat.le_refl _
  | a :: l => by
    have ih := quoL_le l
    show (if a = 34 ∨ a = 92 then 92 :: a :: quoL l else a :: quoL l).length ≤ _
    split <;> (simp only [List.length_cons]; omega)
theorem quoL_ge : ∀ l : List UInt8, l.length ≤ (quoL l).length
  | [] => Nat.le_refl _
  | a :: l => by
    have ih := quoL_ge l
    show _ ≤ (if a = 34 ∨ a = 92 then 92 :: a :: quoL l else a :: quoL l).length
    split <;> (simp only [List.length_cons]; omega)

/-- A text as a list. -/
theorem bytes_at {s : ByteArray} {k : Nat} (h : k < s.size) : s.data.toList[k]? = some s[k] := by
  rw [List.getElem?_eq_getElem (by simpa using h)]
  rfl
theorem bytes_take {s : ByteArray} {k : Nat} (h : k < s.size) : s.data.toList.take (k + 1) = s.data.toList.take k ++ [s[k]] := by
  rw [List.take_add_one, bytes_at h]
  rfl
theorem bytes_len (s : ByteArray) : s.data.toList.length = s.size := Array.length_toList

def EsRel (w : World) (s : ByteArray) (t7 : Value) (wr : World) : Prop :=
  ∃ k : Nat, t7 = .int .i64 (k : Int) ∧ k ≤ s.size ∧ Bld w.heap.size (quoL (s.data.toList.take k)) wr ∧ Below w.heap.size w wr

set_option maxRecDepth 100000 in
set_option maxHeartbeats 3200000 in
theorem escaped_any (s : ByteArray) (w : World) (hs : s.size ≤ 1000000) : Calls Try.prog 85 #[.string s] w (StrNew ⟨(quoL s.data.toList).toArray⟩ w) := by
  go_enter Try.func85, Try.ntmps85
  go_wp2
  go_loopw [7] (EsRel w s) (fun i _ => s.size - (intOf i).toNat)
  case atStart => exact ⟨0, rfl, Nat.zero_le _, bld_new w, (Below.refl _ _).alloc (Nat.le_refl _) _⟩
  case round =>
    obtain ⟨k, rfl, hk, hB, hW⟩ := hrel
    have HB := Lib.hid hB
    have HW := Lib.hid hW
    clear hB hW
    by_cases hlt : k < s.size
    · obtain ⟨c, hc⟩ : ∃ c, s[k] = c := ⟨_, rfl⟩
      have HTK : Hid (s.data.toList.take (k + 1) = s.data.toList.take k ++ [c]) := Lib.hid (by rw [bytes_take hlt, hc])
      have HSP : Hid (∀ X : World, Calls Try.prog 92 #[.int .u8 (c.toNat : Int)] X (BoolPost (specB c) X)) := Lib.hid (fun X => special_any c X)
      have HLE : Hid ((quoL (s.data.toList.take k)).length ≤ 2000000) := Lib.hid (by
        have := quoL_le (s.data.toList.take k)
        rw [List.length_take] at this
        omega)
      have hci : ((s[k]'hlt).toNat : Int) = (c.toNat : Int) := by rw [hc]
      have hkI : (k : Int) < (s.size : Int) := by omega
      have HQ := Lib.hid (quoL_snoc (s.data.toList.take k) c)
      clear hc
      cases hb : specB c with
      | true =>
        rw [hb] at HSP HQ
        clear hb
        go_wp2_with (first
          | (go_at_call 92; (with_reducible refine (HSP.out _).mono ?_); rintro e w' ⟨rfl, rfl⟩)
          | (go_at_call 93; first
              | ((with_reducible refine (bld_byte (n := 92) HB.out 92 (by decide) (by have := HLE.out; omega) HW.out.size).mono ?_); rintro e w2 ⟨rfl, h2, b2⟩; have HB2 := Lib.hid h2; have HW2 := Lib.hid (HW.out.trans b2); clear h2 b2)
              | ((with_reducible refine (bld_byte HB2.out c rfl (by rw [List.length_append]; have := HLE.out; simp; omega) HW2.out.size).mono ?_); rintro e w3 ⟨rfl, h3, b3⟩; have HB3 := Lib.hid h3; have HW3 := Lib.hid (HW2.out.trans b3); clear h3 b3)))
        go_roundw
        case rel => exact ⟨k + 1, by go_num, hlt, by rw [HTK.out, HQ.out]; have h := HB3.out; rw [List.append_assoc] at h; exact h, HW3.out⟩
        case measure => simp [intOf]; omega
      | false =>
        rw [hb] at HSP HQ
        clear hb
        go_wp2_with (first
          | (go_at_call 92; (with_reducible refine (HSP.out _).mono ?_); rintro e w' ⟨rfl, rfl⟩)
          | (go_at_call 93; ((with_reducible refine (bld_byte HB.out c rfl (by have := HLE.out; omega) HW.out.size).mono ?_); rintro e w3 ⟨rfl, h3, b3⟩; have HB3 := Lib.hid h3; have HW3 := Lib.hid (HW.out.trans b3); clear h3 b3)))
        go_roundw
        case rel => exact ⟨k + 1, by go_num, hlt, by rw [HTK.out, HQ.out]; exact HB3.out, HW3.out⟩
        case measure => simp [intOf]; omega
    · have hkI : ¬ (k : Int) < (s.size : Int) := by omega
      have HE : Hid (s.data.toList.take k = s.data.toList) := Lib.hid (List.take_of_length_le (by rw [bytes_len]; omega))
      go_wp2_with (go_at_call 94; (with_reducible refine (bld_str HB.out HW.out.size).mono ?_); rintro e w4 ⟨rfl, b4⟩; have HW4 := Lib.hid (HW.out.trans b4); clear b4)
      go_ret
      rw [HE.out]
      exact ⟨rfl, HW4.out⟩

theorem quoted_fits (s : ByteArray) (hs : s.size ≤ 1000000) : (ByteArray.size ⟨#[34]⟩ + ByteArray.size ⟨(quoL s.data.toList).toArray⟩ > 9223372036854775807) = False := by
  have h := quoL_le s.data.toList
  rw [bytes_len] at h
  simp only [eq_iff_iff, iff_false]
  show ¬ (1 + (quoL s.data.toList).toArray.size > _)
  rw [List.size_toArray]
  omega

end Go.Proofs.Ytobplffailbkbaa
