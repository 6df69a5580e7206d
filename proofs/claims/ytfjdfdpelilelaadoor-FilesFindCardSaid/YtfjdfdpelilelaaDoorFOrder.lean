/-
  FilesOrder: plain facts, and what its walk leans on.
-/
import Derived.Test.YtfjdfdpelilelaaDoorFAwake
import Derived.Test.YtfjdfdpelilelaaDoorZeros
import Derived.Test.YtfjdfdpelilelaaDoorPLift
import Derived.Deep.Grids
namespace Go.Proofs.YtfjdfdpelilelaaDoor
open Go.RowKit

def dL (i : Nat) : List UInt8 := [100, UInt8.ofNat (48 + i)]
def dS (i : Nat) : ByteArray := ⟨(dL i).toArray⟩
def xyL : List UInt8 := [47, 120, 47, 121, 46, 104]
def fL (i : Nat) : List UInt8 := dL i ++ xyL
def fS (i : Nat) : ByteArray := ⟨(fL i).toArray⟩
def gL (i : Nat) : List UInt8 := dL i ++ [47, 121, 46, 104]
def srcA : List UInt8 := [115, 114, 99, 47, 97, 46, 99]
def srcXY : List UInt8 := [115, 114, 99, 47, 120, 47, 121, 46, 104]
def srcY : List UInt8 := [115, 114, 99, 47, 121, 46, 104]
def n1 : List UInt8 := [120, 47, 121, 46, 104]
def n2 : List UInt8 := [122, 47, 46, 46, 47, 120, 47, 46, 47, 121, 46, 104]
def n3 : List UInt8 := [121, 46, 104]

theorem d_valid : ∀ i, i < 8 → validB (dL i) = true := by decide
theorem f_valid : ∀ i, i < 8 → validB (fL i) = true := by decide
theorem j1 : ∀ i, i < 8 → joinPath (dL i) n1 = some (fL i) := by decide
theorem j2 : ∀ i, i < 8 → joinPath (dL i) n2 = some (fL i) := by decide
theorem j3 : ∀ i, i < 8 → joinPath (dL i) n3 = some (gL i) := by decide
theorem k1 : joinPath (dirL srcA) n1 = some srcXY := by decide
theorem k2 : joinPath (dirL srcA) n2 = some srcXY := by decide
theorem k3 : joinPath (dirL srcA) n3 = some srcY := by decide
theorem f_inj {i j : Nat} (hi : i < 8) (hj : j < 8) (h : fL i = fL j) : i = j := by
  have : ∀ i, i < 8 → ∀ j, j < 8 → fL i = fL j → i = j := by decide
  exact this i hi j hj h
theorem f_ne : ∀ i, i < 8 → fL i ≠ srcA ∧ fL i ≠ srcXY ∧ srcXY ≠ fL i ∧ srcY ≠ fL i ∧ ∀ j, j < 8 → gL j ≠ fL i := by decide
theorem s_ne : srcXY ≠ srcA ∧ srcY ≠ srcA ∧ srcY ≠ srcXY ∧ (∀ j, j < 8 → gL j ≠ srcA ∧ gL j ≠ srcXY) := by decide

/-- The first directory from k on that has it. -/
def firstH (bs : List Bool) (k : Nat) : Option Nat := (List.range' k (bs.length - k)).find? fun j => bs.getD j false

theorem first_step {bs : List Bool} {k : Nat} (hk : k < bs.length) : firstH bs k = if bs.getD k false = true then some k else firstH bs (k + 1) := by
  unfold firstH
  rw [show bs.length - k = (bs.length - (k + 1)) + 1 from by omega, List.range'_succ, List.find?_cons]
  cases bs.getD k false <;> rfl

theorem first_end {bs : List Bool} {k : Nat} (hk : bs.length ≤ k) : firstH bs k = none := by
  unfold firstH
  rw [show bs.length - k = 0 from by omega]
  rfl

theorem find_some_if {α β : Type} (p : α → Bool) (g : α → β) (f : α → Option β) : ∀ l : List α, (∀ j ∈ l, f j = if p j = true then some (g j) else none) → l.findSome? f = (l.find? p).map g
  | [], _ => rfl
  | a :: r, h => by
    rw [List.findSome?_cons, List.find?_cons, h a (by simp)]
    cases p a with
    | true => rfl
    | false => exact find_some_if p g f r fun j hj => h j (by simp [hj])

/-- The directories. -/
def dirsN (n : Nat) : List (List UInt8) := (List.range n).map dL

theorem dirsN_succ (n : Nat) : dirsN (n + 1) = dirsN n ++ [dL n] := by simp [dirsN, List.range_succ]

theorem dirsN_ok (n : Nat) (hn : n ≤ 8) : dirsB (dirsN n) = true := by
  unfold dirsB dirsN
  rw [List.all_eq_true]
  intro x hx
  obtain ⟨j, hj, rfl⟩ := List.mem_map.1 hx
  rw [d_valid j (by have := List.mem_range.1 hj; omega)]
  simp

/-- Which files are there, with the directories from k on looked at. -/
structure OrdSt (bs : List Bool) (k m : Nat) (t : Tab) : Prop where
  hasF : ∀ j, k ≤ j → j < bs.length → (t.file (fL j)).isSome = bs.getD j false
  notF : ∀ j, j < k → j < 8 → t.file (fL j) = none
  xy : t.file srcXY = none
  y : t.file srcY = none
  g : ∀ j, j < 8 → t.file (gL j) = none
  dirs : t.dirs = dirsN bs.length
  len : t.ents.length ≤ m
  ver : ∀ l, t.ver l ≤ m

theorem ord_start {bs : List Bool} {t : Tab} {b : Nat} {o : Option T} (d : Did (tab0 (dirsN bs.length)) t srcA (some (b, o))) : OrdSt bs bs.length 1 t := by
  refine ⟨fun j h1 h2 => by omega, fun j hj hj8 => ?_, ?_, ?_, fun j hj => ?_, d.dirs, ?_, fun l => ?_⟩
  · rw [(d.other (f_ne j hj8).1).1]; rfl
  · rw [(d.other s_ne.1).1]; rfl
  · rw [(d.other s_ne.2.1).1]; rfl
  · rw [(d.other (s_ne.2.2.2 j hj).1).1]; rfl
  · have := d.len
    simpa [tab0] using this
  · rw [d.ver]
    split
    · show 0 + 1 ≤ 1
      omega
    · show 0 ≤ 1
      omega

theorem ord_skip {bs : List Bool} {k m : Nat} {t : Tab} (h : OrdSt bs (k + 1) m t) (hk : k < 8) (hb : bs.getD k false = false) : OrdSt bs k m t :=
  ⟨fun j h1 h2 => by
    by_cases e : j = k
    · subst e
      rw [h.notF j (by omega) hk, hb]
      rfl
    · exact h.hasF j (by omega) h2, fun j h1 h2 => h.notF j (by omega) h2, h.xy, h.y, h.g, h.dirs, h.len, h.ver⟩

theorem ord_put {bs : List Bool} {k m : Nat} {t t' : Tab} (h : OrdSt bs (k + 1) m t) (hn : bs.length ≤ 8) (hk : k < bs.length) (hb : bs.getD k false = true) {b : Nat} {o : Option T} (d : Did t t' (fL k) (some (b, o))) : OrdSt bs k (m + 1) t' := by
  have hk8 : k < 8 := by omega
  refine ⟨fun j h1 h2 => ?_, fun j h1 h2 => ?_, ?_, ?_, fun j hj => ?_, d.dirs.trans h.dirs, ?_, fun l => ?_⟩
  · by_cases e : j = k
    · subst e
      rw [d.self.1, hb]
      rfl
    · rw [(d.other fun x => e (f_inj (by omega) hk8 x)).1]
      exact h.hasF j (by omega) h2
  · rw [(d.other fun x => by have := f_inj h2 hk8 x; omega).1]
    exact h.notF j (by omega) h2
  · rw [(d.other (f_ne k hk8).2.2.1).1]; exact h.xy
  · rw [(d.other (f_ne k hk8).2.2.2.1).1]; exact h.y
  · rw [(d.other ((f_ne k hk8).2.2.2.2 j hj)).1]; exact h.g j hj
  · have := d.len
    have := h.len
    omega
  · rw [d.ver]
    have := h.ver l
    split <;> omega

/-- What Find is to give, at the end. -/
structure OrdEnd (bs : List Bool) (s : Bool) (t : Tab) : Prop where
  hasF : ∀ j, j < bs.length → (t.file (fL j)).isSome = bs.getD j false
  xy : (t.file srcXY).isSome = s
  y : t.file srcY = none
  g : ∀ j, j < 8 → t.file (gL j) = none
  dirs : t.dirs = dirsN bs.length

theorem ord_end {bs : List Bool} {m : Nat} {t : Tab} (h : OrdSt bs 0 m t) : OrdEnd bs false t := ⟨fun j hj => h.hasF j (Nat.zero_le _) hj, by rw [h.xy]; rfl, h.y, h.g, h.dirs⟩

theorem ord_beside {bs : List Bool} {m : Nat} {t t' : Tab} (h : OrdSt bs 0 m t) (hn : bs.length ≤ 8) {b : Nat} {o : Option T} (d : Did t t' srcXY (some (b, o))) : OrdEnd bs true t' := by
  refine ⟨fun j hj => ?_, by rw [d.self.1]; rfl, ?_, fun j hj => ?_, d.dirs.trans h.dirs⟩
  · rw [(d.other (f_ne j (by omega)).2.1).1]; exact h.hasF j (Nat.zero_le _) hj
  · rw [(d.other s_ne.2.2.1).1]; exact h.y
  · rw [(d.other (s_ne.2.2.2 j hj).2).1]; exact h.g j hj

theorem within_of {t : Tab} {n d x : List UInt8} (h : joinPath d n = some x) : withinT t n d = if (t.file x).isSome = true then some x else none := by
  unfold withinT
  rw [h]

def ordR (bs : List Bool) (s q : Bool) : Option (List UInt8) := if s && q then some srcXY else (firstH bs 0).map fL

theorem find_dirs {bs : List Bool} {s : Bool} {t : Tab} (h : OrdEnd bs s t) (hn : bs.length ≤ 8) (n : List UInt8) (hj : ∀ i, i < 8 → joinPath (dL i) n = some (fL i)) : t.dirs.findSome? (withinT t n) = (firstH bs 0).map fL := by
  rw [h.dirs]
  unfold dirsN firstH
  rw [List.findSome?_map, Nat.sub_zero, ← List.range_eq_range']
  refine find_some_if _ _ _ _ fun j hj' => ?_
  have hjl := List.mem_range.1 hj'
  simp only [Function.comp_apply]
  rw [within_of (hj j (by omega)), h.hasF j hjl]

theorem find_ord {bs : List Bool} {s : Bool} {t : Tab} (h : OrdEnd bs s t) (hn : bs.length ≤ 8) (q : Bool) (n : List UInt8) (hj : ∀ i, i < 8 → joinPath (dL i) n = some (fL i)) (hk : joinPath (dirL srcA) n = some srcXY) : findT t srcA n q = ordR bs s q := by
  unfold ordR
  have hw := within_of (t := t) hk
  rw [h.xy] at hw
  cases q with
  | false => rw [findT_false, find_dirs h hn n hj]; cases s <;> rfl
  | true =>
    cases s with
    | true => rw [findT_hit (by rw [hw]; rfl)]; rfl
    | false => rw [findT_true (by rw [hw]; rfl), find_dirs h hn n hj]; rfl

theorem find_not {bs : List Bool} {s : Bool} {t : Tab} (h : OrdEnd bs s t) (hn : bs.length ≤ 8) (q : Bool) : findT t srcA n3 q = none := by
  have hd : t.dirs.findSome? (withinT t n3) = none := by
    rw [h.dirs]
    unfold dirsN
    rw [List.findSome?_eq_none_iff]
    intro x hx
    obtain ⟨j, hj, rfl⟩ := List.mem_map.1 hx
    have hjl := List.mem_range.1 hj
    rw [within_of (j3 j (by omega)), h.g j (by omega)]
    rfl
  cases q with
  | false => rw [findT_false, hd]
  | true => rw [findT_true (by rw [within_of k3, h.y]; rfl), hd]

theorem ordR_ne {bs : List Bool} {s q : Bool} {l : List UInt8} (h : ordR bs s q = some l) : l ≠ [] := by
  unfold ordR at h
  split at h
  · cases h; decide
  · obtain ⟨j, -, rfl⟩ := Option.map_eq_some_iff.1 h
    unfold fL dL
    simp

/-- A list of bools that came in. -/
def BoolsAt (a : Option Addr) (bs : List Bool) (w : World) : Prop := ∀ i x, bs[i]? = some x → ∃ ad, a = some ad ∧ ad.block < w.heap.size ∧ w.cell? (ad.add i) = some (.bool x)

/-- A law's table, and a list of texts of its own. -/
structure LO (W : World) (p : Nat) (t : Tab) (c : Nat) (M : Mp) (w : World) (v : Value) (xs : List (List UInt8)) : Prop where
  ls : LS W p t c M w
  own : OwnStrs W.heap.size v xs w

theorem FT.strs_kept {B : Nat} {M M' : Mp} {w w' : World} {p : Nat} {t : Tab} {c : Nat} (h : FT B M w p t c) (k : Ks (mine p t) M w M' w') : SameOn (KOf 9) w w' := fun b o ho hz => by
  refine (k.block b (lt_of_heap ho) (kof_no_node h.inv ho hz (by decide)) fun hb => ?_).trans ho
  simp only [mine, List.mem_cons, List.mem_append, Option.mem_toList, List.mem_map] at hb
  rcases hb with hb | hb | ⟨e, he', hb⟩
  · subst hb
    obtain ⟨ds, ht, _⟩ := h.tbl
    rw [ho] at ht
    cases ht
    exact kof_ne hz (kof_tbl ds t.mb c) (by decide) rfl
  · have hm := h.map
    unfold MapAt at hm
    rw [hb] at hm
    simp only at hm
    obtain ⟨D, ⟨es, clock, hh, _⟩, _⟩ := hm
    rw [ho] at hh
    cases hh
    exact kmap_ne ⟨es, clock, rfl⟩ hz rfl
  · have := h.file e he'
    rw [hb, ho] at this
    cases this
    exact kof_ne hz (kof_file e) (by decide) rfl

section
variable {W : World} {p : Nat} {t : Tab} {c : Nat} {M : Mp} {w w' : World} {v : Value} {xs : List (List UInt8)}

theorem LO.below (h : LO W p t c M w v xs) (b : Below w.heap.size w w') : LO W p t c M w' v xs :=
  ⟨h.ls.below b, h.own.same fun k _ ho _ => (b.block k (lt_of_heap ho)).trans ho⟩

def LOPost (W : World) (p : Nat) (t : Tab) (c : Nat) (l : List UInt8) (v : Value) (xs : List (List UInt8)) (e : Ending) (w' : World) : Prop :=
  e = .returned (.int .i64 0) ∧ ∃ M' t' b' o', Did t t' l (some (b', o')) ∧ LO W p t' c M' w' v xs

theorem LO.create (h : LO W p t c M w v xs) (s m : ByteArray) (hs : s.size ≤ 1000) (hv : validB s.data.toList = true) (hf : t.file s.data.toList = none) (hn : t.ver s.data.toList < 1000000) (hc : c < 50) (hm : m.size ≤ 65536) (hfew : t.ents.length < 1000000) :
    Calls Tryd.prog 11 #[.pointer (some ⟨p, 0, none⟩), .string s, .string m] w (LOPost W p t (c + 1) s.data.toList v xs) :=
  (create_ok h.ls.ft s m hs hv hf hn hc hm hfew).mono fun _ _ ⟨he, M', t', x, ⟨b', o', hx, _⟩, hd, hft, hk⟩ => by
    subst hx
    exact ⟨he, M', t', b', o', hd, h.ls.next hft hk, h.own.same (h.ls.ft.strs_kept hk)⟩
end

theorem conv1 (i : Nat) (w : World) : (convert 54 9 (.slice (some ⟨w.heap.size, 0, none⟩) 1 1)).run Tryd.prog (w.alloc (.cells #[.int .u8 (48 + (i : Int))] 5)) =
    .ok (.string (strOfNums [48 + (i : Int)])) (w.alloc (.cells #[.int .u8 (48 + (i : Int))] 5)) := by
  refine run_convert_bytes_arg (P := Tryd.prog) _ 54 5 Tryd.underlying54 Tryd.underlying5 w.heap.size 0 1 1 [48 + (i : Int)] (by simp) (fun j hj => ?_) 9 Tryd.underlying9
  rw [Lib.cell_of_heap (heap_alloc_new w _)]
  match j, hj with
  | 0, _ => simp

theorem d_cat (i : Nat) : (⟨#[100]⟩ : ByteArray) ++ strOfNums [48 + (i : Int)] = dS i := by
  apply ByteArray.ext
  have e1 : ((48 : Int) + (i : Int)).toNat = 48 + i := by omega
  simp only [strOfNums, dS, dL, List.map_cons, List.map_nil, e1, ByteArray.data_append]
  rfl

theorem f_cat (i : Nat) : dS i ++ (⟨#[47, 120, 47, 121, 46, 104]⟩ : ByteArray) = fS i := by
  apply ByteArray.ext
  simp [dS, fS, fL, xyL]

end Go.Proofs.YtfjdfdpelilelaaDoor
