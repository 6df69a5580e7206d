/-
  Texts of the proof, put together: RBack, Back, LxOver.
-/
import Derived.Test.YtpnboieppkjfnaaGreatG17
import Derived.Laws.BytesArg
import Derived.Test.YtpnboieppkjfnaaGreatG22

/-
  The document's own Back, in memory; a row of bytes as a text.
-/
namespace Go.Proofs.YtpnboieppkjfnaaGreat
open Go.RowKit

def bcells (bs : List UInt8) : List Value := bs.map fun c => Value.int .u8 (c.toNat : Int)
theorem bcells_len (bs : List UInt8) : (bcells bs).length = bs.length := by simp [bcells]

theorem Tryz.infoByte : (Tryz.prog.info? 5).map (fun i => (i.zero, i.size, i.bytes)) = some (some (.int .u8 0), 1, 1) := by kernel_rfl

def BRow (W : World) (v : Value) (bs : List UInt8) (w : World) : Prop := Up W 5 1 v bs.length (bcells bs) w

theorem byte_one {x : Int} : ∀ u ∈ [Value.int .u8 x], u.oneCell' = true := by
  intro u hu
  simp only [List.mem_cons, List.not_mem_nil, or_false] at hu
  subst hu
  rfl

theorem BRow.push {W : World} {v : Value} {bs : List UInt8} {w : World} {x : Int} (c : UInt8) (h : Up W 5 1 v (bs.length + 1) (bcells bs ++ [.int .u8 x]) w) (hx : x = (c.toNat : Int)) : BRow W v (bs ++ [c]) w := by
  unfold BRow
  rw [List.length_append]
  have e : bcells (bs ++ [c]) = bcells bs ++ [.int .u8 x] := by rw [hx]; simp [bcells]
  rw [e]
  exact h

set_option maxRecDepth 100000 in
theorem brow_text {W : World} {a : Option Addr} {cap : Nat} {bs : List UInt8} {w : World} (h : BRow W (.slice a bs.length cap) bs w) : (convert 123 9 (.slice a bs.length cap)).run Tryz.prog w = .ok (.string ⟨bs.toArray⟩) w := by
  obtain ⟨a', cap', hv, -, -, hcell⟩ := row_form h.1
  simp only [Value.slice.injEq] at hv
  obtain ⟨rfl, -, rfl⟩ := hv
  cases hb : bs with
  | nil =>
    subst hb
    obtain ⟨-, ⟨hv, -⟩ | ⟨g, c', cur, hv, -⟩⟩ := h.1
    · simp only [Value.slice.injEq] at hv
      obtain ⟨rfl, -, rfl⟩ := hv
      exact run_convert_bytes_nil (P := Tryz.prog) w 123 5 Tryz.underlying123 Tryz.underlying5 0 0 9 Tryz.underlying9
    · simp only [Value.slice.injEq] at hv
      obtain ⟨rfl, -, rfl⟩ := hv
      exact run_convert_bytes_arg (P := Tryz.prog) w 123 5 Tryz.underlying123 Tryz.underlying5 g 0 0 cap [] rfl (fun i hi => by omega) 9 Tryz.underlying9
  | cons b0 bt =>
    have h0 : (bcells bs)[0]? = some (.int .u8 (b0.toNat : Int)) := by rw [hb]; rfl
    obtain ⟨g, rfl, -, -⟩ := hcell 0 _ h0
    have e := run_convert_bytes_arg (P := Tryz.prog) w 123 5 Tryz.underlying123 Tryz.underlying5 g 0 bs.length cap (bs.map fun c => (c.toNat : Int)) (by simp) (fun i hi => by
      have hi' : (bcells bs)[i]? = some (.int .u8 ((bs[i]).toNat : Int)) := by simp [bcells, hi]
      obtain ⟨g', hg', -, hc⟩ := hcell i _ hi'
      simp only [Option.some.injEq, Addr.mk.injEq, and_true] at hg'
      subst hg'
      rw [Nat.zero_add, hc]
      simp [List.getD, hi]) 9 Tryz.underlying9
    rw [← hb, e]
    have : strOfNums (bs.map fun c => (c.toNat : Int)) = ⟨bs.toArray⟩ := by
      unfold strOfNums
      rw [List.map_map]
      congr 2
      have : ((fun n : Int => UInt8.ofNat n.toNat) ∘ fun c : UInt8 => (c.toNat : Int)) = id := by
        funext c
        simp
      rw [this, List.map_id]
    rw [this]

/-- What stays of characters from a place on. -/
def kept (a b : Int) (C : List Rn) (k : Nat) : List UInt8 := ((C.drop k).filter (within a b)).map Rn.c
theorem kept_end {a b : Int} {C : List Rn} {k : Nat} (h : C.length ≤ k) : kept a b C k = [] := by
  unfold kept
  rw [List.drop_eq_nil_of_le h]
  rfl
theorem kept_in {a b : Int} {C : List Rn} {k : Nat} {r : Rn} (h : C[k]? = some r) (hw : within a b r = true) : kept a b C k = r.c :: kept a b C (k + 1) := by
  unfold kept
  rw [drop_get h, List.filter_cons, hw]
  rfl
theorem kept_out {a b : Int} {C : List Rn} {k : Nat} {r : Rn} (h : C[k]? = some r) (hw : within a b r = false) : kept a b C k = kept a b C (k + 1) := by
  unfold kept
  rw [drop_get h, List.filter_cons, hw]
  rfl

def RBackRel (W : World) (C : List Rn) (a b : Int) (o i : Value) (w : World) : Prop :=
  ∃ (k : Nat) (bs : List UInt8) (ad : Option Addr) (n cap : Nat), i = .int .i64 (k : Int) ∧ k ≤ C.length ∧ bs.length ≤ k ∧ o = .slice ad n cap ∧ n = bs.length ∧ bs ++ kept a b C k = kept a b C 0 ∧ BRow W o bs w

def TextPost (W : World) (l : List UInt8) (e : Ending) (w' : World) : Prop := e = .returned (.string ⟨l.toArray⟩) ∧ Below W.heap.size W w'

theorem rback_in {W : World} {C : List Rn} {a b : Int} {k : Nat} {bs : List UInt8} {w : World} {ad : Option Addr} {cap : Nat} {r : Rn} {i : Int} (hi : i = ((k + 1 : Nat) : Int)) (hr : C[k]? = some r) (hk : k < C.length) (hLk : bs.length ≤ k) (hw : within a b r = true) (hL : bs ++ kept a b C k = kept a b C 0) (hU : BRow W (.slice ad (bs.length + 1) cap) (bs ++ [r.c]) w) :
    RBackRel W C a b (.slice ad (bs.length + 1) cap) (.int .i64 i) w := by
  refine ⟨k + 1, bs ++ [r.c], ad, bs.length + 1, cap, by rw [hi], hk, by simp; omega, rfl, by simp, ?_, hU⟩
  rw [← hL, kept_in hr hw, List.append_assoc]
  rfl
theorem rback_out {W : World} {C : List Rn} {a b : Int} {k : Nat} {bs : List UInt8} {w : World} {ad : Option Addr} {cap : Nat} {r : Rn} {i : Int} (hi : i = ((k + 1 : Nat) : Int)) (hr : C[k]? = some r) (hk : k < C.length) (hLk : bs.length ≤ k) (hw : within a b r = false) (hL : bs ++ kept a b C k = kept a b C 0) (hU : BRow W (.slice ad bs.length cap) bs w) :
    RBackRel W C a b (.slice ad bs.length cap) (.int .i64 i) w :=
  ⟨k + 1, bs, ad, bs.length, cap, by rw [hi], hk, by omega, rfl, rfl, by rw [← kept_out hr hw]; exact hL, hU⟩

theorem within_in {a b : Int} {r : Rn} (h1 : a ≤ (r.f : Int)) (h2 : (r.t : Int) ≤ b) : within a b r = true := by simp [within, h1, h2]
theorem within_a {a b : Int} {r : Rn} (h1 : ¬ a ≤ (r.f : Int)) : within a b r = false := by simp [within, h1]
theorem within_b {a b : Int} {r : Rn} (h1 : ¬ (r.t : Int) ≤ b) : within a b r = false := by simp [within, h1]

end Go.Proofs.YtpnboieppkjfnaaGreat

/-
  Back of the project, walked: it begins a little ahead of what is asked for, and ends at what is behind it.
-/
namespace Go.Proofs.YtpnboieppkjfnaaGreat
open Go.RowKit

theorem src_one2 (w : World) (o : Obj) (u : Value) (e : TypeId) : Src ((w.alloc o).alloc (.cells #[u] e)) (.slice (some ⟨w.heap.size + 1, 0, none⟩) 1 1) 1 1 [u] := by
  have h := src_one (w.alloc o) u e
  rw [show (w.alloc o).heap.size = w.heap.size + 1 from by simp] at h
  exact h

def BRel (W : World) (l : List UInt8) (a b : Int) (o i : Value) (w : World) : Prop :=
  ∃ (k : Nat) (bs : List UInt8) (ad : Option Addr) (n cap : Nat), i = .int .i64 (k : Int) ∧ bs.length ≤ k ∧ bs.length ≤ l.length ∧ (k : Int) ≤ 9223372036854775807 ∧ o = .slice ad n cap ∧ n = bs.length ∧ bs ++ bk l a b k = backL l a b ∧ BRow W o bs w

theorem brel_in {W : World} {l : List UInt8} {a b : Int} {k : Nat} {bs : List UInt8} {w : World} {ad : Option Addr} {cap : Nat} {r : Rn} (hl : l.length ≤ 100000) (hk : k < l.length) (hLk : bs.length ≤ k) (ho : tk l k = (r, true)) (hw : within a b r = true) (hL : bs ++ bk l a b k = backL l a b) (hU : BRow W (.slice ad (bs.length + 1) cap) (bs ++ [r.c]) w) :
    BRel W l a b (.slice ad (bs.length + 1) cap) (.int .i64 (r.t : Int)) w := by
  have h1 : k < r.t ∧ r.t ≤ k + 4 ∧ (k < l.length → r.t ≤ l.length) := by
    have := tk_t l k
    rw [ho] at this
    exact this
  have h2 := bk_take (a := a) (b := b) hk (by rw [ho]) (by rw [ho]; exact hw)
  rw [ho] at h2
  refine ⟨r.t, bs ++ [r.c], ad, bs.length + 1, cap, rfl, by simp; omega, by simp; omega, by omega, rfl, by simp, ?_, hU⟩
  rw [← hL, h2, List.append_assoc]
  rfl
theorem brel_next {W : World} {l : List UInt8} {a b : Int} {k : Nat} {bs : List UInt8} {w : World} {ad : Option Addr} {cap : Nat} {r : Rn} {st : Bool} (hl : l.length ≤ 100000) (hk : k < l.length) (hLk : bs.length ≤ k) (ho : tk l k = (r, st)) (hw : st = false ∨ within a b r = false) (hL : bs ++ bk l a b k = backL l a b) (hU : BRow W (.slice ad bs.length cap) bs w) :
    BRel W l a b (.slice ad bs.length cap) (.int .i64 (r.t : Int)) w := by
  have h1 : k < r.t ∧ r.t ≤ k + 4 ∧ (k < l.length → r.t ≤ l.length) := by
    have := tk_t l k
    rw [ho] at this
    exact this
  have h2 : bk l a b k = bk l a b r.t := by
    have e : (tk l k).1.t = r.t := by rw [ho]
    rw [← e]
    rcases hw with h | h
    · exact bk_skip hk (by rw [ho]; exact h)
    · exact bk_out hk (by rw [ho]; exact h)
  exact ⟨r.t, bs, ad, bs.length, cap, rfl, by omega, by omega, by omega, rfl, rfl, by rw [← h2]; exact hL, hU⟩

theorem back_past {l : List UInt8} {a b : Int} {k : Nat} {bs : List UInt8} {r : Rn} {st : Bool} (hk : k < l.length) (ho : tk l k = (r, st)) (hb : b < (r.t : Int)) (hL : bs ++ bk l a b k = backL l a b) : bs = backL l a b := by
  rw [bk_past hk (by rw [ho]; exact hb), List.append_nil] at hL
  exact hL

theorem BRow.over {W w w' : World} {v : Value} {bs : List UInt8} (h : BRow W v bs w) (b : Below w.heap.size w w') : BRow W v bs w' := Up.over h b
theorem BRow.alloc {W w : World} {v : Value} {bs : List UInt8} (h : BRow W v bs w) (o : Obj) : BRow W v bs (w.alloc o) := Up.alloc h o

end Go.Proofs.YtpnboieppkjfnaaGreat

/-
  over of the project, walked: the beginning of a walk.
-/
namespace Go.Proofs.YtpnboieppkjfnaaGreat
open Go.RowKit

def ovals (l : List UInt8) (k : Nat) : List Value := (List.range l.length).map fun j => Value.int .u8 (if j < k then ((l.getD j 0).toNat : Int) else 0)
theorem ovals_len (l : List UInt8) (k : Nat) : (ovals l k).length = l.length := by simp [ovals]
theorem ovals_get {l : List UInt8} {k j : Nat} (hj : j < l.length) : (ovals l k)[j]? = some (.int .u8 (if j < k then ((l.getD j 0).toNat : Int) else 0)) := by
  simp [ovals, hj]
theorem ovals_set {l : List UInt8} {k : Nat} (hk : k < l.length) : (ovals l k).set k (.int .u8 ((l.getD k 0).toNat : Int)) = ovals l (k + 1) := by
  apply List.ext_getElem?
  intro j
  by_cases hj : j < l.length
  · rw [List.getElem?_set, ovals_len, ovals_get hj, ovals_get hj]
    by_cases e : k = j
    · subst e
      rw [if_pos rfl, if_pos hk, if_pos (Nat.lt_succ_self k)]
    · rw [if_neg e]
      by_cases h2 : j < k
      · rw [if_pos h2, if_pos (by omega)]
      · rw [if_neg h2, if_neg (by omega)]
  · rw [List.getElem?_eq_none (by rw [List.length_set, ovals_len]; omega), List.getElem?_eq_none (by rw [ovals_len]; omega)]
theorem ovals_all (l : List UInt8) : ovals l l.length = bcells l := by
  apply List.ext_getElem?
  intro j
  by_cases hj : j < l.length
  · rw [ovals_get hj, if_pos hj]
    simp [bcells, hj, List.getD]
  · rw [List.getElem?_eq_none (by rw [ovals_len]; omega), List.getElem?_eq_none (by rw [bcells_len]; omega)]
theorem ovals_zero (l : List UInt8) : ovals l 0 = (madeCells (Value.int .u8 0).cells (l.length * 1)).toList := by
  show _ = (madeCells #[Value.int .u8 0] (l.length * 1)).toList
  rw [toList_madeCells_one, Nat.mul_one]
  apply List.ext_getElem?
  intro j
  by_cases hj : j < l.length
  · rw [ovals_get hj, if_neg (Nat.not_lt_zero j)]
    simp [hj]
  · rw [List.getElem?_eq_none (by rw [ovals_len]; omega), List.getElem?_eq_none (by simp; omega)]

/-- The bytes of a walk on their way. -/
structure OvSt (W : World) (rv : Value) (L : List Rn) (gb k : Nat) (w : World) : Prop where
  runes : CRow W rv L w
  bytes : Up W 5 1 (.slice (some ⟨gb, 0, none⟩) L.length L.length) L.length (ovals (bytesOf L) k) w

theorem OvSt.heap {W : World} {rv : Value} {L : List Rn} {gb k : Nat} {w : World} (h : OvSt W rv L gb k w) : ∃ cur, w.heap[gb]? = some (.cells cur 5 (0, 0)) ∧ W.heap.size ≤ gb := by
  obtain ⟨-, h2 | ⟨g, cap, cur, hv, hb, hh, -⟩⟩ := h.bytes.1
  · cases h2.1
  · simp only [Value.slice.injEq, Option.some.injEq, Addr.mk.injEq, and_true] at hv
    obtain ⟨rfl, -⟩ := hv
    exact ⟨cur, hh, hb⟩

theorem OvSt.next {W : World} {rv : Value} {L : List Rn} {gb k : Nat} {w w' : World} (h : OvSt W rv L gb k w) (b : Below w.heap.size w w') : OvSt W rv L gb k w' := ⟨Up.over h.runes b, Up.over h.bytes b⟩

theorem OvSt.facts {W : World} {rv : Value} {L : List Rn} {gb k : Nat} {w : World} (h : OvSt W rv L gb k w) (hk : k < L.length) : gb < w.heap.size ∧ w.frozen? ⟨gb, k, none⟩ = false ∧ w.cell? ⟨gb, k, none⟩ = some (.int .u8 0) := by
  obtain ⟨cur, hh, -⟩ := h.heap
  refine ⟨row_lt hh, frozen_of_row w gb k cur _ hh, ?_⟩
  obtain ⟨a, cap, hv, -, -, hc⟩ := row_form h.bytes.1
  obtain ⟨g, hg, -, e⟩ := hc k _ (ovals_get (l := bytesOf L) (k := k) (by rw [bytesOf_len]; exact hk))
  simp only [Value.slice.injEq] at hv
  rw [← hv.1] at hg
  simp only [Option.some.injEq, Addr.mk.injEq, and_true] at hg
  subst hg
  rw [if_neg (Nat.lt_irrefl k)] at e
  exact e

theorem OvSt.put {W : World} {rv : Value} {L : List Rn} {gb k : Nat} {w : World} (h : OvSt W rv L gb k w) (hk : k < L.length) {r : Rn} (hr : L[k]? = some r) {x : Int} (hx : x = (r.c.toNat : Int)) : OvSt W rv L gb (k + 1) (w.setCell ⟨gb, k, none⟩ (.int .u8 x)) := by
  subst hx
  obtain ⟨cur, hh, hge⟩ := h.heap
  obtain ⟨h1, h2⟩ := World.ownsRow.stored h.bytes.1 k (.int .u8 (r.c.toNat : Int))
  have hs := ovals_set (l := bytesOf L) (k := k) (by rw [bytesOf_len]; exact hk)
  have hg : (bytesOf L).getD k 0 = r.c := by simp [bytesOf, List.getD, hr]
  rw [hg] at hs
  rw [hs] at h1
  refine ⟨⟨World.ownsRow.kept h.runes.1 h2 (own_off h.runes.1 hh (by decide)), h.runes.2.setCell (by exact hge) _⟩, ⟨h1, h.bytes.2.setCell (by exact hge) _⟩⟩

theorem OvSt.conv {W : World} {rv : Value} {L : List Rn} {gb : Nat} {w : World} (h : OvSt W rv L gb L.length w) : (convert 123 9 (.slice (some ⟨gb, 0, none⟩) L.length L.length)).run Tryz.prog w = .ok (.string ⟨(bytesOf L).toArray⟩) w := by
  have hb : BRow W (.slice (some ⟨gb, 0, none⟩) (bytesOf L).length L.length) (bytesOf L) w := by
    have h1 := h.bytes
    rw [← bytesOf_len L, ovals_all] at h1
    unfold BRow
    rw [bytesOf_len] at h1 ⊢
    exact h1
  have e := brow_text hb
  rw [bytesOf_len] at e
  exact e

theorem charsL_few (l : List UInt8) : ∃ n, n = (charsL l).length ∧ n ≤ l.length + 1 := by
  refine ⟨_, rfl, ?_⟩
  have h := chs_len l _ 0 (Nat.le_refl _)
  unfold charsL withNl
  split
  · simp
  · split
    · omega
    · simp
      omega

theorem below_of {w w' : World} (h : w.grownBy w' none) : Below w.heap.size w w' := ⟨h.os, h.tape, h.output, h.size, fun k hk => h.block k hk (by simp)⟩

def overPost (W : World) (F : ByteArray) (s : ByteArray) (L : List Rn) (e : Ending) (w' : World) : Prop :=
  ∃ g, e = .returned (.pointer (some ⟨g, 0, none⟩)) ∧ Was ⟨W, g, L, F, ⟨(bytesOf L).toArray⟩, s.size⟩ 0 0 0 acc0 w'

/-- The walk's block is laid. -/
theorem over_fin {W : World} {F s : ByteArray} {ra : Option Addr} {rcap : Nat} {L : List Rn} {gb k n : Nat} {w : World} (h : OvSt W (.slice ra n rcap) L gb k w) (hn : n = L.length) :
    overPost W F s L (.returned (.pointer (some ⟨w.heap.size, 0, none⟩))) (w.alloc (.cells #[.string F, .int .i64 (s.size : Int), .slice ra n rcap, .string ⟨(bytesOf L).toArray⟩, .int .i64 0, .int .i64 0, .int .i64 0, .int .i64 0, .bool false, .slice none 0 0, .slice none 0 0, .slice none 0 0, .int .i64 0, .int .i64 0] 182)) := by
  subst hn
  refine ⟨_, rfl, ⟨F, s.size, .slice ra L.length rcap, ⟨(bytesOf L).toArray⟩, 0, 0, 0, 0, false, .slice none 0 0, .slice none 0 0, .slice none 0 0, 0, 0⟩, W.heap.size, [], rfl, rfl, rfl, rfl, rfl, rfl, ?_⟩
  have hr := Up.over h.runes ((Below.refl _ _).alloc (Nat.le_refl _) (.cells #[.string F, .int .i64 (s.size : Int), .slice ra L.length rcap, .string ⟨(bytesOf L).toArray⟩, .int .i64 0, .int .i64 0, .int .i64 0, .int .i64 0, .bool false, .slice none 0 0, .slice none 0 0, .slice none 0 0, .int .i64 0, .int .i64 0] 182))
  refine ⟨heap_alloc_new _ _, h.runes.2.size, hr.2, hr.1, rfl, World.ownsRow_nil _ _ _ _, Nat.le_refl _, hr.2.size, World.ownsRow_nil _ _ _ _, rfl, fun p hp => (by cases hp), World.ownsRow_nil _ _ _ _, rfl, rfl, Un.zero _ _ _, Un.zero _ _ _⟩

theorem clone_is (s : ByteArray) (W : World) (hs : s.size ≤ 1000000) : Calls Tryz.prog 17 #[.string s] W fun e w' => e = .returned (.string s) ∧ Below W.heap.size W w' := by
  go_enter Tryz.func17, Tryz.ntmps17
  go_wp2_with (go_at_call 31; (with_reducible refine (Tryz.stringslite_Clone s _ (by omega)).mono ?_); rintro e w' ⟨rfl, hb⟩)
  go_ret
  exact ⟨rfl, hb⟩

set_option maxRecDepth 100000 in
set_option maxHeartbeats 3200000 in
theorem over_any (F s : ByteArray) (W : World) (hs : s.size ≤ 100000) (hF : F.size ≤ 1000000) : Calls Tryz.prog 106 #[.string F, .string s] W (overPost W F s (charsL s.data.toList)) := by
  obtain ⟨i0, hi, hz0, hz1, hz2⟩ := info_parts Tryz.infoByte
  obtain ⟨n, hn, hn2⟩ := charsL_few s.data.toList
  rw [len_byte] at hn2
  obtain ⟨L, hL⟩ : ∃ L, charsL s.data.toList = L := ⟨_, rfl⟩
  have HCH := Lib.hid (chars_any s W hs)
  rw [hL] at HCH hn ⊢
  have HN := Lib.hid hn
  clear hL hn
  go_enter Tryz.func106, Tryz.ntmps106
  go_wp2_with (first
    | (go_at_call 125; (with_reducible refine HCH.out.mono ?_); rintro e w1 ⟨ra, n1, rcap, hn1, rfl, u1⟩; obtain rfl : n1 = n := hn1.trans HN.out.symm; have U1 := Lib.hid u1; clear u1 hn1)
    | (at_make; refine wpList_make_full _ rfl _ _ 123 rfl W.heap.size 5 i0 (.int .u8 0) 1 Tryz.underlying123 hi hz0 hz1 .i64 .i64 _ _ n1 rfl rfl rfl rfl (by rw [hz2]; omega) (by unfold maxLen; omega) U1.out.2.size ?_; intro w2 hown2 hgrow2; have HO2 := Lib.hid hown2; have HG2 := Lib.hid hgrow2; clear hown2 hgrow2))
  have S0 : OvSt W (.slice ra n1 rcap) L w1.heap.size 0 w2 := by
    have b2 := below_of HG2.out
    refine ⟨Up.over U1.out b2, ?_, U1.out.2.trans (b2.mono U1.out.2.size)⟩
    have h := HO2.out
    rw [ovals_zero, bytesOf_len, ← HN.out]
    exact h
  have HS0 := Lib.hid S0
  clear S0
  go_loopw [16] (fun i w' => ∃ k : Nat, i = .int .i64 (k : Int) ∧ k ≤ n1 ∧ OvSt W (.slice ra n1 rcap) L w1.heap.size k w') (fun i _ => n1 - (intOf i).toNat)
  case atStart => exact ⟨0, rfl, Nat.zero_le _, HS0.out⟩
  case round =>
    obtain ⟨k, rfl, hk, hst⟩ := hrel
    by_cases hlt : k < n1
    · have hkL : k < L.length := by rw [← HN.out]; exact hlt
      obtain ⟨hgl, hfz, hcl⟩ := hst.facts hkL
      obtain ⟨a', c', hv, hc1, hc2, hcell⟩ := crow_cells hst.runes
      simp only [Value.slice.injEq] at hv
      obtain ⟨rfl, -, rfl⟩ := hv
      obtain ⟨r, hr⟩ : ∃ r, L[k]? = some r := ⟨_, List.getElem?_eq_getElem hkL⟩
      obtain ⟨g, rfl, hg, e0, e1, e2⟩ := hcell k r hr
      have HSN := Lib.hid (fun o => (hst.put hkL hr rfl).next ((Below.refl _ _).alloc (Nat.le_refl _) o))
      have hki : (k : Int) < (n1 : Int) := by omega
      have hne : w1.heap.size ≠ wr.heap.size := by omega
      clear hst hcell hr hc1 hc2
      go_wp2
      go_roundw
      case rel => exact ⟨k + 1, by go_num, hlt, HSN.out _⟩
      case measure => simp [intOf]; omega
    · have hki : ¬ (k : Int) < (n1 : Int) := by omega
      obtain rfl : k = n1 := by omega
      have HST := Lib.hid hst
      clear hst
      have hcv : Hid (∀ X : World, OvSt W (.slice ra k rcap) L w1.heap.size k X → (convert 123 9 (.slice (some ⟨w1.heap.size, 0, none⟩) k k)).run Tryz.prog X = .ok (.string ⟨(bytesOf L).toArray⟩) X) := Lib.hid (by
        intro X hX
        have h := hX
        rw [HN.out] at h ⊢
        exact h.conv)
      have HD : Hid (OvSt W (.slice ra k rcap) L w1.heap.size k wr.drew) := Lib.hid (HST.out.next (Below.refl _ _).drew)
      go_wp2
      go_region_held3 (fun w' => (convert 123 9 (.slice (some ⟨w1.heap.size, 0, none⟩) k k)).run Tryz.prog w' = .ok (.string ⟨(bytesOf L).toArray⟩) w')
        (first
          | exact hcv.out _ HD.out
          | exact hcv.out _ HS3.out
          | exact hcv.out _ (HS3.out.next ((Below.refl _ _).alloc (Nat.le_refl _) _)))
        (first | (go_at_call 17; (with_reducible refine (clone_is F _ hF).mono ?_); rintro e w3 ⟨rfl, hb3⟩; have HS3 := Lib.hid (HD.out.next hb3); clear hb3))
      all_goals go_wp2
      all_goals go_ret
      all_goals exact over_fin HS3.out HN.out

end Go.Proofs.YtpnboieppkjfnaaGreat
