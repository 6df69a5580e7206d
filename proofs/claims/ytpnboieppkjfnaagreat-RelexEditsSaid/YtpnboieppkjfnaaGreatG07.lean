/-
  Texts of the proof, put together: Grow, Read, Write, Piece.
-/
import Derived.Test.YtpnboieppkjfnaaGreatG06
import Derived.Deep.RegionWith
import Derived.BigQuiet
import Derived.Deep.QuietTactic

/-
  leaf, grow: the tree of a text.
-/
namespace Go.Proofs.YtpnboieppkjfnaaGreat
open Go.RowKit

theorem clone_any (s : ByteArray) (w : World) (hs : s.size ≤ lim) :
    Calls Tryz.prog 17 #[.string s] w fun e w' => e = .returned (.string s) ∧ Below w.heap.size w w' := by
  unfold lim at hs
  go_enter Tryz.func17, Tryz.ntmps17
  go_wp2_with (go_at_call 31; refine (Tryz.stringslite_Clone s _ (by omega)).mono ?_; rintro e w' ⟨rfl, hb⟩)
  go_ret
  exact ⟨rfl, hb⟩

theorem leaf_fin {B : Nat} {M : Mp} {w w1 : World} (h : Inv B [] M w) (hb : Below w.heap.size w w1) (s : ByteArray) (hs : s.size ≤ lim) (h1 : 1 ≤ s.size) :
    Made B M w (some (.leaf s)) (.returned (.pointer (some ⟨w1.heap.size, 0, none⟩)))
      (w1.alloc (.cells #[.pointer none, .pointer none, .string s, .int .i64 (s.size : Int), .int .i64 1, .int .u32 0, .int .i32 0, .int .u32 0, .int .i64 0] 144)) := by
  have hb2 : Below w.heap.size w (w1.alloc (.cells #[.pointer none, .pointer none, .string s, .int .i64 (s.size : Int), .int .i64 1, .int .u32 0, .int .i32 0, .int .u32 0, .int .i64 0] 144)) := hb.alloc hb.size _
  refine ⟨_, _, rfl, ?_, h.newNode hb2 (.leaf s) none none 0 0 w1.heap.size hb.size (heap_alloc_new w1 _) ⟨rfl, rfl⟩ h1 hs⟩
  exact .inr ⟨w1.heap.size, .leaf s, rfl, rfl, by simp⟩

theorem leaf_any {B : Nat} {M : Mp} {w : World} (h : Inv B [] M w) (s : ByteArray) (hs : s.size ≤ lim) (h1 : 1 ≤ s.size) :
    Calls Tryz.prog 49 #[.string s] w (Made B M w (some (.leaf s))) := by
  have H := Lib.hid h
  clear h
  go_enter Tryz.func49, Tryz.ntmps49
  go_wp2_with (go_at_call 17; refine (clone_any s _ hs).mono ?_; rintro e w' ⟨rfl, hb⟩)
  go_ret
  exact leaf_fin H.out hb s hs h1

/-- What the tree of a text is. -/
def GrownT (s : ByteArray) (o : Option T) : Prop := otext o = s.data.toList ∧ (1 ≤ s.size → ∃ t, o = some t) ∧ (s.size ≤ 256 → odepth o ≤ 1)

def GrowPost (B : Nat) (M : Mp) (w : World) (s : ByteArray) (e : Ending) (w' : World) : Prop := ∃ o, GrownT s o ∧ Made B M w o e w'

theorem grow_zero {B : Nat} {M : Mp} {w : World} (h : Inv B [] M w) (s : ByteArray) (h0 : s.size = 0) : GrowPost B M w s (.returned (.pointer none)) w :=
  ⟨none, ⟨by
    have : s.data.toList.length = 0 := by simpa using h0
    exact (List.eq_nil_of_length_eq_zero this).symm, fun h1 => by omega, fun _ => by simp [odepth]⟩, M, none, rfl, .inl ⟨rfl, rfl⟩, St.refl h⟩

theorem grow_leaf {B : Nat} {M : Mp} {w w' : World} {e : Ending} {s : ByteArray} (h : Made B M w (some (.leaf s)) e w') : GrowPost B M w s e w' :=
  ⟨some (.leaf s), ⟨rfl, fun _ => ⟨_, rfl⟩, fun _ => by simp [odepth, T.depth]⟩, h⟩

theorem grow_node {B : Nat} {M M1 M2 : Mp} {w w1 w2 w' : World} {e : Ending} {s : ByteArray} {k : Nat} {l r : T} (hb : 256 < s.size)
    (s1 : St B M w M1 w1) (s2 : St B M1 w1 M2 w2) (tl : l.text = (s.extract 0 k).data.toList) (tr : r.text = (s.extract k s.size).data.toList)
    (h : Made B M2 w2 (some (.node l r)) e w') : GrowPost B M w s e w' := by
  obtain ⟨M', p, he, hp, s3⟩ := h
  refine ⟨_, ⟨?_, fun _ => ⟨_, rfl⟩, fun h => by omega⟩, M', p, he, hp, (s1.trans s2).trans s3⟩
  show l.text ++ r.text = _
  rw [tl, tr]
  simp only [ByteArray.data_extract, Array.toList_extract, List.extract_eq_take_drop, List.drop_zero, Nat.sub_zero]
  have hl : s.data.toList.length = s.size := by simp
  rw [List.take_of_length_le (l := List.drop k s.data.toList) (by rw [List.length_drop, hl]; omega), List.take_append_drop]

theorem toList_ne (s : ByteArray) (h : ¬ s.size = 0) : s.toList.isEmpty = false := by
  rw [List.isEmpty_eq_false_iff]
  intro e
  apply h
  rw [Lib.size_eq, ← ByteArray.toList_eq, e]
  rfl

theorem GrowPost.one {B : Nat} {M : Mp} {w w' : World} {e : Ending} {s : ByteArray} (h : GrowPost B M w s e w') (h1 : 1 ≤ s.size) :
    ∃ t b M', e = .returned (.pointer (some ⟨b, 0, none⟩)) ∧ t.text = s.data.toList ∧ M' b = some t ∧ St B M w M' w' := by
  obtain ⟨o, ⟨g1, g2, _⟩, M', p, he, hp, hs⟩ := h
  obtain ⟨t, rfl⟩ := g2 h1
  rcases hp with ⟨_, h⟩ | ⟨b, u, rfl, hu, hb⟩
  · cases h
  · cases hu
    exact ⟨t, b, M', he, g1, hb, hs⟩

theorem text_size {t : T} {s : ByteArray} (h : t.text = s.data.toList) : t.size = s.size := by
  rw [T.size_eq, h]; simp

set_option maxHeartbeats 400000 in
theorem grow_any {B : Nat} : ∀ (n : Nat) (s : ByteArray), s.size = n → n ≤ lim → ∀ (M : Mp) (w : World), Inv B [] M w →
    Calls Tryz.prog 30 #[.string s] w (GrowPost B M w s) := by
  intro n
  induction n using Nat.strongRecOn with
  | ind n ih =>
  intro s hn hlim M w h
  by_cases h0 : s.size = 0
  · have hs : s = ⟨#[]⟩ := by
      apply ByteArray.ext
      exact Array.eq_empty_of_size_eq_zero h0
    subst hs
    have H := Lib.hid h
    clear h ih hn
    go_enter Tryz.func30, Tryz.ntmps30
    go_wp2
    go_ret
    exact grow_zero H.out _ rfl
  · by_cases h1 : s.size ≤ 256
    · have H := Lib.hid h
      have hne : s.toList.isEmpty = false := toList_ne s h0
      clear h ih
      subst hn
      go_enter Tryz.func30, Tryz.ntmps30
      go_wp2_with (go_at_call 49; refine (leaf_any H.out s hlim (by omega)).mono ?_; rintro e w' ⟨M', p, rfl, hp, hs⟩)
      go_ret
      exact grow_leaf ⟨M', p, rfl, hp, hs⟩
    · have H := Lib.hid h
      have hne : s.toList.isEmpty = false := toList_ne s h0
      obtain ⟨k, hk⟩ : ∃ k, k = s.size / 2 := ⟨_, rfl⟩
      have hq : (s.size : Int) / 2 = (k : Int) := by omega
      have hk1 : 1 ≤ k := by omega
      have hk2 : k < s.size := by omega
      have sz1 : (s.extract 0 k).size = k := by rw [ByteArray.size_extract]; omega
      have sz2 : (s.extract k s.size).size = s.size - k := by rw [ByteArray.size_extract]; omega
      have IH := Lib.hid ih
      have Z1 := Lib.hid sz1
      have Z2 := Lib.hid sz2
      have hs2 : s.size ≤ 1000000 := by unfold lim at hlim; omega
      subst hn
      clear h ih hk sz1 sz2 hlim
      go_enter Tryz.func30, Tryz.ntmps30
      go_wp2
      go_region_with (first
        | (go_at_call_of 30 (Value.string (s.extract 0 k)); refine (IH.out k hk2 _ Z1.out (by unfold lim; omega) M _ ?_).mono ?_; exact H.out.drew; rintro e w1 q; obtain ⟨t1, b1, M1, rfl, g1, m1, s1⟩ := q.one (by rw [Z1.out]; exact hk1); have G1 := Lib.hid g1; have P1 := Lib.hid m1; have S1 := Lib.hid s1; clear g1 m1 s1 q)
        | (go_at_call_of 30 (Value.string (s.extract k s.size)); refine (IH.out (s.size - k) (by omega) _ Z2.out (by unfold lim; omega) M1 _ ?_).mono ?_; exact S1.out.inv; rintro e w2 q; obtain ⟨t2, b2, M2, rfl, g2, m2, s2⟩ := q.one (by rw [Z2.out]; omega); have G2 := Lib.hid g2; have P2 := Lib.hid m2; have S2 := Lib.hid s2; clear g2 m2 s2 q)
        | (go_at_call 50; refine (branch_any S2.out.inv (S2.out.keep S1.out.inv P1.out) P2.out (by rw [text_size G1.out, text_size G2.out, Z1.out, Z2.out]; unfold lim; omega)).mono ?_; rintro e w3 ⟨M3, p3, rfl, hp3, s3⟩)
        | fail)
      all_goals go_wp2
      all_goals go_ret
      all_goals exact grow_node (by omega) S1.out.of_drew S2.out G1.out G2.out ⟨M3, p3, rfl, hp3, s3⟩

end Go.Proofs.YtpnboieppkjfnaaGreat

/-
  What a rope tells of its lines: Lines, Line, Start; spans; New.
-/
namespace Go.Proofs.YtpnboieppkjfnaaGreat
open Go.RowKit

/-- How many line breaks a rope has. -/
def onl (o : Option T) : Nat := (otext o).count 10

theorem onl_le {B : Nat} {L : List Nat} {M : Mp} {w : World} (h : Inv B L M w) {p : Option Addr} {o : Option T} (hp : PT M p o) : onl o ≤ osize o ∧ osize o ≤ lim := by
  rcases hp with ⟨_, rfl⟩ | ⟨b, t, _, rfl, hb⟩
  · exact ⟨Nat.le_refl _, Nat.zero_le _⟩
  · exact ⟨T.nl_le t, (h.full b t hb).2⟩

theorem RP.le {B : Nat} {L : List Nat} {M : Mp} {w : World} (h : Inv B L M w) {r : Option Addr} {o : Option T} (hr : RP M w r o) : onl o ≤ osize o ∧ osize o ≤ lim := by
  rcases hr with ⟨_, rfl⟩ | ⟨b, p, _, _, _, hp⟩
  · exact ⟨Nat.le_refl _, Nat.zero_le _⟩
  · exact onl_le h hp

/-- Is it 0 <= from <= to <= Len? -/
def spansB (o : Option T) (i j : Int) : Bool := decide (0 ≤ i ∧ i ≤ j ∧ j ≤ osize o)

theorem spansB_yes {o : Option T} {i j : Int} (h : 0 ≤ i ∧ i ≤ j ∧ j ≤ osize o) : spansB o i j = true := decide_eq_true h
theorem spansB_no {o : Option T} {i j : Int} (h : ¬ (0 ≤ i ∧ i ≤ j ∧ j ≤ osize o)) : spansB o i j = false := decide_eq_false h

theorem spans_any {B : Nat} {L : List Nat} {M : Mp} {w : World} (h : Inv B L M w) {r : Option Addr} {o : Option T} (hr : RP M w r o) (i j : Int) (x : Bool) (hx : spansB o i j = x) :
    Calls Tryz.prog 40 #[.pointer r, .int .i64 i, .int .i64 j] w fun e w' => e = .returned (.bool x) ∧ w = w' := by
  have hle := hr.le h
  unfold lim at hle
  obtain ⟨_, h2⟩ := hle
  have H := Lib.hid h
  have HR := Lib.hid hr
  have HX := Lib.hid hx
  clear h hr hx
  by_cases c1 : 0 ≤ i
  · by_cases c2 : i ≤ j
    · have hz : decide (j ≤ (osize o : Int)) = x := by
        rw [← HX.out]
        unfold spansB
        exact decide_eq_decide.2 ⟨fun h => ⟨c1, c2, h⟩, fun h => h.2.2⟩
      have HZ := Lib.hid hz
      clear hz
      go_enter Tryz.func40, Tryz.ntmps40
      go_wp2_with (go_at_call 41; refine (len_any H.out HR.out).mono ?_; rintro e w' ⟨rfl, rfl⟩)
      go_ret
      exact ⟨by rw [← HZ.out]; rfl, rfl⟩
    · have hz : false = x := by rw [← HX.out]; exact (spansB_no (by omega)).symm
      subst hz
      go_enter Tryz.func40, Tryz.ntmps40
      go_wp2
      go_ret
      exact ⟨rfl, rfl⟩
  · have hz : false = x := by rw [← HX.out]; exact (spansB_no (by omega)).symm
    subst hz
    go_enter Tryz.func40, Tryz.ntmps40
    go_wp2
    go_ret
    exact ⟨rfl, rfl⟩

end Go.Proofs.YtpnboieppkjfnaaGreat

/-
  write: the bytes of a tree into a Builder; piece, Text, Slice.
-/
namespace Go.Proofs.YtpnboieppkjfnaaGreat
open Go.RowKit

/-- Some of a text. -/
def seg (x : List UInt8) (i j : Nat) : List UInt8 := (x.drop i).take (j - i)

theorem seg_left {a b : List UInt8} {i j : Nat} (h : j ≤ a.length) : seg (a ++ b) i j = seg a i j := by
  unfold seg
  rcases Nat.lt_or_ge i a.length with hi | hi
  · rw [List.drop_append_of_le_length (Nat.le_of_lt hi), List.take_append_of_le_length (by rw [List.length_drop]; omega)]
  · have e : j - i = 0 := by omega
    rw [e, List.take_zero, List.take_zero]

theorem seg_right {a b : List UInt8} {i j : Nat} (h : a.length ≤ i) : seg (a ++ b) i j = seg b (i - a.length) (j - a.length) := by
  unfold seg
  rw [List.drop_append, List.drop_of_length_le h, List.nil_append]
  have e : j - a.length - (i - a.length) = j - i := by omega
  rw [e]

theorem seg_both {a b : List UInt8} {i j : Nat} (h1 : i ≤ a.length) (h2 : a.length ≤ j) : seg (a ++ b) i j = seg a i a.length ++ seg b 0 (j - a.length) := by
  unfold seg
  rw [List.drop_append_of_le_length h1, List.take_append, List.drop_zero, List.length_drop, List.take_of_length_le (l := a.drop i) (by rw [List.length_drop]; omega), List.take_of_length_le (l := a.drop i) (by rw [List.length_drop]; omega)]
  have e : j - i - (a.length - i) = j - a.length - 0 := by omega
  rw [e]

theorem seg_none {x : List UInt8} {i j : Nat} (h : j ≤ i) : seg x i j = [] := by
  unfold seg
  have e : j - i = 0 := by omega
  rw [e, List.take_zero]

theorem seg_length (x : List UInt8) (i j : Nat) : (seg x i j).length ≤ j - i := by
  unfold seg
  rw [List.length_take]
  omega

/-- The Builder in block c holds these bytes. -/
def Holds (c : Nat) (l : List UInt8) (w : World) : Prop := Lib.IsBuilder 147 5 c c (Lib.byteCells l) w

/-- What write leaves. -/
def Wrote (w : World) (c : Nat) (l : List UInt8) (e : Ending) (w' : World) : Prop :=
  e = .returned (.tuple #[]) ∧ Holds c l w' ∧ Below c w w'

/-- Nodes ahead of block c stay what they were. -/
theorem Inv.belowC {B : Nat} {L : List Nat} {M : Mp} {w w' : World} {c : Nat} (h : Inv B L M w) (hc : ∀ b t, M b = some t → b < c) (hb : Below c w w') : Inv B L M w' :=
  h.same hb.size fun b t hbt => hb.block b (hc b t hbt)

theorem writeString_any (c : Nat) (l : List UInt8) (s : ByteArray) (w : World) (h : Holds c l w) (hlen : l.length + s.size ≤ 10000000) (hc : c ≤ w.heap.size) :
    Calls Tryz.prog 97 #[.pointer (some ⟨c, 0, none⟩), .string s] w fun e w' => e = .returned (.tuple #[.int .i64 s.size, .nilIface]) ∧ Holds c (l ++ s.data.toList) w' ∧ Below c w w' := by
  refine (Tryz.Builder_WriteString c c _ s w h (by rw [Lib.byteCells_length]; omega) hc).mono ?_
  rintro e w' ⟨rfl, hb, hbel⟩
  refine ⟨rfl, .inr ?_, hbel⟩
  rw [Lib.strCells_eq, ← Lib.byteCells_append] at hb
  exact hb

def WBelow (B : Nat) (M : Mp) (c : Nat) (n : Nat) : Prop :=
  ∀ (t : T) (b : Nat) (w : World) (l : List UInt8) (i j : Nat), t.nn < n → Inv B [] M w → M b = some t → Holds c l w → c ≤ w.heap.size → i ≤ j → j ≤ t.size → l.length + (j - i) ≤ 10000000 →
    Calls Tryz.prog 75 #[.pointer (some ⟨b, 0, none⟩), .pointer (some ⟨c, 0, none⟩), .int .i64 (i : Int), .int .i64 (j : Int)] w (Wrote w c (l ++ seg t.text i j))

set_option maxHeartbeats 800000 in
theorem write_leaf {B : Nat} {M : Mp} {c : Nat} {w : World} (h : Inv B [] M w) {b : Nat} {s : ByteArray} (hb : M b = some (.leaf s)) {l : List UInt8} (hl : Holds c l w) (hc : c ≤ w.heap.size) (i j : Nat) (hij : i ≤ j) (hj : j ≤ s.size) (hlen : l.length + (j - i) ≤ 10000000) :
    Calls Tryz.prog 75 #[.pointer (some ⟨b, 0, none⟩), .pointer (some ⟨c, 0, none⟩), .int .i64 (i : Int), .int .i64 (j : Int)] w (Wrote w c (l ++ seg s.data.toList i j)) := by
  obtain ⟨c0, c2, -, -⟩ := h.leafCells hb
  have hlim := (h.full b _ hb).2
  simp only [T.size] at hlim
  unfold lim at hlim
  have H := Lib.hid h
  have HB := Lib.hid hb
  have HL := Lib.hid hl
  have hx : (s.extract i j).data.toList = seg s.data.toList i j := by
    simp only [ByteArray.data_extract, Array.toList_extract, List.extract_eq_take_drop]
    rfl
  have hxs : (s.extract i j).size = j - i := by rw [ByteArray.size_extract]; omega
  have HX := Lib.hid hx
  have HXS := Lib.hid hxs
  clear h hb hl hx hxs
  go_enter Tryz.func75, Tryz.ntmps75
  go_wp2_with (go_at_call 79; refine (isLeaf_any H.out HB.out).mono ?_; simp only [isLeafB]; rintro e w' ⟨rfl, rfl⟩)
  refine (writeString_any c l _ _ HL.out (by rw [HXS.out]; exact hlen) hc).mono ?_
  rintro e w' ⟨rfl, hh, hbel⟩
  have HH := Lib.hid hh
  have HBEL := Lib.hid hbel
  clear hh hbel
  go_wp2_with fail
  first | go_end0 | refine bodyPost_ret (results_none rfl _ _ _) rfl ?_
  refine ⟨rfl, ?_, HBEL.out⟩
  rw [← HX.out]
  exact HH.out

theorem wrote_trans {w w1 w2 : World} {c : Nat} {l x y : List UInt8} {e : Ending} (b1 : Below c w w1) (h : Wrote w1 c (l ++ x ++ y) e w2) : Wrote w c (l ++ (x ++ y)) e w2 := by
  obtain ⟨h1, h2, h3⟩ := h
  rw [List.append_assoc] at h2
  exact ⟨h1, h2, b1.trans h3⟩

set_option maxHeartbeats 800000 in
theorem write_node {B : Nat} {M : Mp} {c : Nat} (hcm : ∀ b t, M b = some t → b < c) {w : World} (h : Inv B [] M w) {b : Nat} {l r : T} (hb : M b = some (.node l r)) (ih : WBelow B M c (T.node l r).nn) {x : List UInt8} (hl : Holds c x w) (hc : c ≤ w.heap.size) (i j : Nat) (hij : i ≤ j) (hj : j ≤ l.size + r.size) (hlen : x.length + (j - i) ≤ 10000000) :
    Calls Tryz.prog 75 #[.pointer (some ⟨b, 0, none⟩), .pointer (some ⟨c, 0, none⟩), .int .i64 (i : Int), .int .i64 (j : Int)] w (Wrote w c (x ++ seg (l.text ++ r.text) i j)) := by
  obtain ⟨bl, br, ml, mr, c0, c1, -, -⟩ := h.nodeCells hb
  obtain ⟨_, _, -, -, -, -, cl, -⟩ := h.cells ml
  have hlim := (h.full b _ hb).2
  simp only [T.size] at hlim
  unfold lim at hlim
  have hbc := hcm b _ hb
  have hsl := T.size_eq l
  have H := Lib.hid h
  have HB := Lib.hid hb
  have HL := Lib.hid hl
  have IH := Lib.hid ih
  have ML := Lib.hid ml
  have MR := Lib.hid mr
  have HCM := Lib.hid hcm
  have HSL := Lib.hid hsl
  clear h hb hl ih ml mr hcm hsl
  by_cases h1 : i < l.size
  · by_cases h2 : l.size < j
    · go_enter Tryz.func75, Tryz.ntmps75
      go_wp2_with (go_at_call 79; refine (isLeaf_any H.out HB.out).mono ?_; simp only [isLeafB]; rintro e w' ⟨rfl, rfl⟩)
      rw [show min (j : Int) (l.size : Int) = (l.size : Int) from by omega]
      refine (IH.out l bl _ x i l.size (by simp only [T.nn]; omega) H.out ML.out HL.out hc (by omega) (by omega) (by omega)).mono ?_
      rintro e w1 ⟨rfl, hh, hbel⟩
      have HH := Lib.hid hh
      have HBEL := Lib.hid hbel
      have d1 := (hbel.cell (p := ⟨b, 1, none⟩) hbc).trans c1
      clear hh hbel
      have hll : (x ++ seg l.text i l.size).length ≤ x.length + (l.size - i) := by
        rw [List.length_append]
        have := seg_length l.text i l.size
        omega
      have hfin : x ++ seg (l.text ++ r.text) i j = x ++ (seg l.text i l.size ++ seg r.text 0 (j - l.size)) := by
        rw [seg_both (by rw [← HSL.out]; omega) (by rw [← HSL.out]; omega), HSL.out]
      have HF := Lib.hid hfin
      clear hfin
      go_wp2_with fail
      rw [show max ((i : Int) - (l.size : Int)) 0 = ((0 : Nat) : Int) from by omega, show ((j : Int) - (l.size : Int)) = ((j - l.size : Nat) : Int) from by omega]
      refine (IH.out r br _ (x ++ seg l.text i l.size) 0 (j - l.size) (by simp only [T.nn]; omega) (H.out.belowC HCM.out HBEL.out) MR.out HH.out (Nat.le_trans hc HBEL.out.size) (by omega) (by omega) (by omega)).mono ?_
      intro e w2 hw
      have HW := Lib.hid (wrote_trans HBEL.out hw)
      obtain ⟨rfl, _, _⟩ := hw
      go_wp2_with fail
      go_end0
      rw [HF.out]
      exact HW.out
    · go_enter Tryz.func75, Tryz.ntmps75
      go_wp2_with (go_at_call 79; refine (isLeaf_any H.out HB.out).mono ?_; simp only [isLeafB]; rintro e w' ⟨rfl, rfl⟩)
      rw [show min (j : Int) (l.size : Int) = (j : Int) from by omega]
      refine (IH.out l bl _ x i j (by simp only [T.nn]; omega) H.out ML.out HL.out hc hij (by omega) (by omega)).mono ?_
      intro e w1 hw
      have HW := Lib.hid hw
      obtain ⟨rfl, _, _⟩ := hw
      go_wp2_with fail
      go_end0
      rw [seg_left (by rw [← HSL.out]; omega)]
      exact HW.out
  · by_cases h2 : l.size < j
    · have hfin : seg (l.text ++ r.text) i j = seg r.text (i - l.size) (j - l.size) := by
        rw [seg_right (by rw [← HSL.out]; omega), HSL.out]
      have HF := Lib.hid hfin
      clear hfin
      go_enter Tryz.func75, Tryz.ntmps75
      go_wp2_with (go_at_call 79; refine (isLeaf_any H.out HB.out).mono ?_; simp only [isLeafB]; rintro e w' ⟨rfl, rfl⟩)
      rw [show max ((i : Int) - (l.size : Int)) 0 = ((i - l.size : Nat) : Int) from by omega, show ((j : Int) - (l.size : Int)) = ((j - l.size : Nat) : Int) from by omega]
      refine (IH.out r br _ x (i - l.size) (j - l.size) (by simp only [T.nn]; omega) H.out MR.out HL.out hc (by omega) (by omega) (by omega)).mono ?_
      intro e w1 hw
      have HW := Lib.hid hw
      obtain ⟨rfl, _, _⟩ := hw
      go_wp2_with fail
      go_end0
      rw [HF.out]
      exact HW.out
    · go_enter Tryz.func75, Tryz.ntmps75
      go_wp2_with (go_at_call 79; refine (isLeaf_any H.out HB.out).mono ?_; simp only [isLeafB]; rintro e w' ⟨rfl, rfl⟩)
      go_end0
      rw [seg_none (by omega), List.append_nil]
      exact ⟨rfl, HL.out, Below.refl _ _⟩

end Go.Proofs.YtpnboieppkjfnaaGreat

/-
  piece, Text, Slice: the bytes of a rope as a text.
-/
namespace Go.Proofs.YtpnboieppkjfnaaGreat
open Go.RowKit

theorem write_all {B : Nat} {M : Mp} {c : Nat} (hcm : ∀ b t, M b = some t → b < c) : ∀ n, WBelow B M c n := by
  intro n
  induction n with
  | zero => intro t b w l i j hn; omega
  | succ n ih =>
  intro t b w l i j hn h hb hl hc hij hj hlen
  cases t with
  | leaf s => exact write_leaf h hb hl hc i j hij hj hlen
  | node x y => exact write_node hcm h hb (fun u b' w' l' i' j' hu => ih u b' w' l' i' j' (by omega)) hl hc i j hij hj hlen

theorem write_any {B : Nat} {M : Mp} {c : Nat} (hcm : ∀ b t, M b = some t → b < c) {w : World} (h : Inv B [] M w) {p : Option Addr} {o : Option T} (hp : PT M p o) (hl : Holds c [] w) (hc : c ≤ w.heap.size) (i j : Nat) (hij : i ≤ j) (hj : j ≤ osize o) :
    Calls Tryz.prog 75 #[.pointer p, .pointer (some ⟨c, 0, none⟩), .int .i64 (i : Int), .int .i64 (j : Int)] w (Wrote w c (seg (otext o) i j)) := by
  have hle := (onl_le h hp).2
  unfold lim at hle
  rcases hp with ⟨rfl, rfl⟩ | ⟨b, t, rfl, rfl, hb⟩
  · have e : seg (otext none) i j = [] := by simp [seg, otext]
    rw [e]
    have HL := Lib.hid hl
    clear h hl hcm
    go_enter Tryz.func75, Tryz.ntmps75
    go_wp2
    first | go_end0 | refine bodyPost_ret (results_none rfl _ _ _) rfl ?_
    exact ⟨rfl, HL.out, Below.refl _ _⟩
  · refine (write_all hcm (t.nn + 1) t b w [] i j (by omega) h hb hl hc hij hj (by simp only [List.length_nil]; omega)).mono ?_
    intro e w' hw
    rw [List.nil_append] at hw
    exact hw

set_option maxHeartbeats 800000 in
theorem piece_bel {B : Nat} {M : Mp} {w : World} (h : Inv B [] M w) {r : Option Addr} {o : Option T} (hr : RP M w r o) (i j : Nat) (hij : i ≤ j) (hj : j ≤ osize o) :
    Calls Tryz.prog 51 #[.pointer r, .int .i64 (i : Int), .int .i64 (j : Int)] w fun e w' => e = .returned (.string ⟨(seg (otext o) i j).toArray⟩) ∧ Below w.heap.size w w' := by
  have hle := (hr.le h).2
  unfold lim at hle
  have bel0 : Below w.heap.size w (w.alloc (.cells #[.pointer none, .slice none 0 0] 147)) := (Below.refl _ w).alloc (Nat.le_refl _) _
  have hbk := heap_alloc_new w (.cells #[.pointer none, .slice none 0 0] 147)
  have hsz : w.heap.size ≤ (w.alloc (.cells #[.pointer none, .slice none 0 0] 147)).heap.size := by simp
  have hcm : ∀ b t, M b = some t → b < w.heap.size := fun b t hb => h.lt hb
  have H := Lib.hid h
  have HR := Lib.hid hr
  have B0 := Lib.hid bel0
  have HBK := Lib.hid hbk
  have HSZ := Lib.hid hsz
  have HCM := Lib.hid hcm
  clear h hr bel0 hbk hsz hcm
  go_enter Tryz.func51, Tryz.ntmps51
  go_wp2_with fail
  rw [show (j : Int) - (i : Int) = ((j - i : Nat) : Int) from by omega]
  refine (Tryz.Builder_Grow_fresh w.heap.size w.heap.size (j - i) _ (Nat.le_refl _) HBK.out HSZ.out (by omega)).mono ?_
  rintro e w1 ⟨rfl, hb1, bel1⟩
  have HB1 : Hid (Holds w.heap.size [] w1) := Lib.hid (show Holds w.heap.size [] w1 from .inr hb1)
  have B1 := Lib.hid (B0.out.trans bel1)
  clear hb1 bel1
  have HR1 := Lib.hid (HR.out.step H.out (St.below H.out B1.out))
  go_wp2_with fail
  refine (top_any HR1.out).mono ?_
  rintro e w' ⟨⟨p, rfl, hp⟩, rfl⟩
  have HP := Lib.hid hp
  clear hp
  go_wp2_with fail
  refine (write_any HCM.out (H.out.below B1.out) HP.out HB1.out B1.out.size i j hij hj).mono ?_
  rintro e w2 ⟨rfl, hh, bel2⟩
  have HH := Lib.hid hh
  have B2 := Lib.hid (B1.out.trans bel2)
  clear hh bel2
  go_wp2_with fail
  refine (Tryz.Builder_String_any w.heap.size w.heap.size (seg (otext o) i j) _ HH.out B2.out.size).mono ?_
  rintro e w3 ⟨rfl, bel3⟩
  have B3 := Lib.hid (B2.out.trans bel3)
  clear bel3
  go_wp2_with fail
  go_ret
  exact ⟨rfl, B3.out⟩

theorem piece_any {B : Nat} {M : Mp} {w : World} (h : Inv B [] M w) {r : Option Addr} {o : Option T} (hr : RP M w r o) (i j : Nat) (hij : i ≤ j) (hj : j ≤ osize o) :
    Calls Tryz.prog 51 #[.pointer r, .int .i64 (i : Int), .int .i64 (j : Int)] w fun e w' => e = .returned (.string ⟨(seg (otext o) i j).toArray⟩) ∧ St B M w M w' := by
  refine (piece_bel h hr i j hij hj).mono ?_
  rintro e w1 ⟨rfl, b1⟩
  exact ⟨rfl, St.below h b1⟩

theorem seg_all (o : Option T) : seg (otext o) 0 (osize o) = otext o := by
  unfold seg
  rw [List.drop_zero, Nat.sub_zero, osize_eq, List.take_length]

theorem text_bel {B : Nat} {M : Mp} {w : World} (h : Inv B [] M w) {r : Option Addr} {o : Option T} (hr : RP M w r o) :
    Calls Tryz.prog 32 #[.pointer r] w fun e w' => e = .returned (.string ⟨(otext o).toArray⟩) ∧ Below w.heap.size w w' := by
  have H := Lib.hid h
  have HR := Lib.hid hr
  clear h hr
  go_enter Tryz.func32, Tryz.ntmps32
  go_wp2_with fail
  refine (len_any H.out HR.out).mono ?_
  rintro e w' ⟨rfl, rfl⟩
  go_wp2_with fail
  refine (piece_bel H.out HR.out 0 (osize o) (Nat.zero_le _) (Nat.le_refl _)).mono ?_
  rintro e w1 ⟨rfl, s1⟩
  rw [seg_all]
  have S1 := Lib.hid s1
  clear s1
  go_wp2_with fail
  go_ret
  exact ⟨rfl, S1.out⟩

theorem text_any {B : Nat} {M : Mp} {w : World} (h : Inv B [] M w) {r : Option Addr} {o : Option T} (hr : RP M w r o) :
    Calls Tryz.prog 32 #[.pointer r] w fun e w' => e = .returned (.string ⟨(otext o).toArray⟩) ∧ St B M w M w' := by
  refine (text_bel h hr ).mono ?_
  rintro e w1 ⟨rfl, b1⟩
  exact ⟨rfl, St.below h b1⟩

theorem slice_bel {B : Nat} {M : Mp} {w : World} (h : Inv B [] M w) {r : Option Addr} {o : Option T} (hr : RP M w r o) (i j : Nat) (hij : i ≤ j) (hj : j ≤ osize o) :
    Calls Tryz.prog 110 #[.pointer r, .int .i64 (i : Int), .int .i64 (j : Int)] w fun e w' => e = .returned (.tuple #[.string ⟨(seg (otext o) i j).toArray⟩, .int .i64 0]) ∧ Below w.heap.size w w' := by
  have hnot : ∀ (x : Bool) (w : World), (Op.unary .not (.bool x)).run Tryz.prog w = .ok (.bool (!x)) w := fun _ _ => rfl
  have H := Lib.hid h
  have HR := Lib.hid hr
  obtain ⟨g, hg⟩ : ∃ g, seg (otext o) i j = g := ⟨_, rfl⟩
  rw [hg]
  have HG := Lib.hid hg
  clear h hr hg
  go_enter Tryz.func110, Tryz.ntmps110
  go_wp2_with fail
  refine (spans_any H.out HR.out _ _ true (spansB_yes (by omega))).mono ?_
  rintro e w' ⟨rfl, rfl⟩
  go_wp2_with fail
  refine (piece_bel H.out HR.out i j hij hj).mono ?_
  rintro e w1 ⟨rfl, s1⟩
  rw [HG.out]
  have S1 := Lib.hid s1
  clear s1
  go_wp2_with fail
  go_ret2
  exact ⟨rfl, S1.out⟩

theorem slice_any {B : Nat} {M : Mp} {w : World} (h : Inv B [] M w) {r : Option Addr} {o : Option T} (hr : RP M w r o) (i j : Nat) (hij : i ≤ j) (hj : j ≤ osize o) :
    Calls Tryz.prog 110 #[.pointer r, .int .i64 (i : Int), .int .i64 (j : Int)] w fun e w' => e = .returned (.tuple #[.string ⟨(seg (otext o) i j).toArray⟩, .int .i64 0]) ∧ St B M w M w' := by
  refine (slice_bel h hr i j hij hj).mono ?_
  rintro e w1 ⟨rfl, b1⟩
  exact ⟨rfl, St.below h b1⟩

theorem slice_no {B : Nat} {M : Mp} {w : World} (h : Inv B [] M w) {r : Option Addr} {o : Option T} (hr : RP M w r o) (i j : Int) (hij : ¬ (0 ≤ i ∧ i ≤ j ∧ j ≤ osize o)) :
    Calls Tryz.prog 110 #[.pointer r, .int .i64 i, .int .i64 j] w fun e w' => e = .returned (.tuple #[.string ⟨#[]⟩, .int .i64 1]) ∧ w = w' := by
  have hnot : ∀ (x : Bool) (w : World), (Op.unary .not (.bool x)).run Tryz.prog w = .ok (.bool (!x)) w := fun _ _ => rfl
  have H := Lib.hid h
  have HR := Lib.hid hr
  clear h hr
  go_enter Tryz.func110, Tryz.ntmps110
  go_wp2_with fail
  refine (spans_any H.out HR.out _ _ false (spansB_no hij)).mono ?_
  rintro e w' ⟨rfl, rfl⟩
  go_wp2_with fail
  go_ret2
  exact ⟨rfl, rfl⟩

end Go.Proofs.YtpnboieppkjfnaaGreat
