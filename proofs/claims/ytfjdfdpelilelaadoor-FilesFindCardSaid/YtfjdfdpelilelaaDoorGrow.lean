/-
  leaf, grow: the tree of a text.
-/
import Derived.Test.YtfjdfdpelilelaaDoorBranch
import Derived.Test.YtfjdfdpelilelaaDoorShelf
import Derived.Deep.RegionWith
namespace Go.Proofs.YtfjdfdpelilelaaDoor
open Go.RowKit

theorem clone_any (s : ByteArray) (w : World) (hs : s.size ≤ lim) :
    Calls Tryd.prog 26 #[.string s] w fun e w' => e = .returned (.string s) ∧ Below w.heap.size w w' := by
  unfold lim at hs
  go_enter Tryd.func26, Tryd.ntmps26
  go_wp2_with (go_at_call 50; refine (Tryd.stringslite_Clone s _ (by omega)).mono ?_; rintro e w' ⟨rfl, hb⟩)
  go_ret
  exact ⟨rfl, hb⟩

theorem leaf_fin {B : Nat} {M : Mp} {w w1 : World} (h : Inv B [] M w) (hb : Below w.heap.size w w1) (s : ByteArray) (hs : s.size ≤ lim) (h1 : 1 ≤ s.size) :
    Made B M w (some (.leaf s)) (.returned (.pointer (some ⟨w1.heap.size, 0, none⟩)))
      (w1.alloc (.cells #[.pointer none, .pointer none, .string s, .int .i64 (s.size : Int), .int .i64 1, .int .u32 0, .int .i32 0, .int .u32 0, .int .i64 0] 150)) := by
  have hb2 : Below w.heap.size w (w1.alloc (.cells #[.pointer none, .pointer none, .string s, .int .i64 (s.size : Int), .int .i64 1, .int .u32 0, .int .i32 0, .int .u32 0, .int .i64 0] 150)) := hb.alloc hb.size _
  refine ⟨_, _, rfl, ?_, h.newNode hb2 (.leaf s) none none 0 0 w1.heap.size hb.size (heap_alloc_new w1 _) ⟨rfl, rfl⟩ h1 hs⟩
  exact .inr ⟨w1.heap.size, .leaf s, rfl, rfl, by simp⟩

theorem leaf_any {B : Nat} {M : Mp} {w : World} (h : Inv B [] M w) (s : ByteArray) (hs : s.size ≤ lim) (h1 : 1 ≤ s.size) :
    Calls Tryd.prog 69 #[.string s] w (Made B M w (some (.leaf s))) := by
  have H := Lib.hid h
  clear h
  go_enter Tryd.func69, Tryd.ntmps69
  go_wp2_with (go_at_call 26; refine (clone_any s _ hs).mono ?_; rintro e w' ⟨rfl, hb⟩)
  go_ret
  exact leaf_fin H.out hb s hs h1

/-- What the tree of a text is. -/
def GrownT (s : ByteArray) (o : Option T) : Prop := otext o = s.data.toList ∧ (1 ≤ s.size → ∃ t, o = some t) ∧ (s.size ≤ 256 → odepth o ≤ 1)

def GrowPost (B : Nat) (M : Mp) (w : World) (s : ByteArray) (e : Ending) (w' : World) : Prop := ∃ o, GrownT s o ∧ Made B M w o e w'

theorem grow_zero {B : Nat} {M : Mp} {w : World} (h : Inv B [] M w) (s : ByteArray) (h0 : s.size = 0) : GrowPost B M w s (.returned (.pointer none)) w :=
  ⟨none, ⟨by
    have : s.data.toList.length = 0 := by simpa using h0
    exact (List.eq_nil_of_length_eq_zero this).symm, fun h1 => by omega, fun _ => by simp [odepth]⟩, M, none, rfl, .inl ⟨rfl, rfl⟩, St.refl h⟩

theorem grow_leaf {B : Nat} {M : Mp} {w w' : World} {e : Ending} {s : ByteArray} (h : Made B M w (some (.leaf s)) e w') : GrowPost B M w s e w' :=
  ⟨some (.leaf s), ⟨rfl, fun _ => ⟨_, rfl⟩, fun _ => by simp [odepth, T.depth]⟩, h⟩

theorem grow_node {B : Nat} {M M1 M2 : Mp} {w w1 w2 w' : World} {e : Ending} {s : ByteArray} {k : Nat} {l r : T} (hb : 256 < s.size)
    (s1 : St B M w M1 w1) (s2 : St B M1 w1 M2 w2) (tl : l.text = (s.extract 0 k).data.toList) (tr : r.text = (s.extract k s.size).data.toList)
    (h : Made B M2 w2 (some (.node l r)) e w') : GrowPost B M w s e w' := by
  obtain ⟨M', p, he, hp, s3⟩ := h
  refine ⟨_, ⟨?_, fun _ => ⟨_, rfl⟩, fun h => by omega⟩, M', p, he, hp, (s1.trans s2).trans s3⟩
  show l.text ++ r.text = _
  rw [tl, tr]
  simp only [ByteArray.data_extract, Array.toList_extract, List.extract_eq_take_drop, List.drop_zero, Nat.sub_zero]
  have hl : s.data.toList.length = s.size := by simp
  rw [List.take_of_length_le (l := List.drop k s.data.toList) (by rw [List.length_drop, hl]; omega), List.take_append_drop]

theorem toList_ne (s : ByteArray) (h : ¬ s.size = 0) : s.toList.isEmpty = false := by
  rw [List.isEmpty_eq_false_iff]
  intro e
  apply h
  rw [Lib.size_eq, ← ByteArray.toList_eq, e]
  rfl

theorem GrowPost.one {B : Nat} {M : Mp} {w w' : World} {e : Ending} {s : ByteArray} (h : GrowPost B M w s e w') (h1 : 1 ≤ s.size) :
    ∃ t b M', e = .returned (.pointer (some ⟨b, 0, none⟩)) ∧ t.text = s.data.toList ∧ M' b = some t ∧ St B M w M' w' := by
  obtain ⟨o, ⟨g1, g2, _⟩, M', p, he, hp, hs⟩ := h
  obtain ⟨t, rfl⟩ := g2 h1
  rcases hp with ⟨_, h⟩ | ⟨b, u, rfl, hu, hb⟩
  · cases h
  · cases hu
    exact ⟨t, b, M', he, g1, hb, hs⟩

theorem text_size {t : T} {s : ByteArray} (h : t.text = s.data.toList) : t.size = s.size := by
  rw [T.size_eq, h]; simp

set_option maxHeartbeats 400000 in
theorem grow_any {B : Nat} : ∀ (n : Nat) (s : ByteArray), s.size = n → n ≤ lim → ∀ (M : Mp) (w : World), Inv B [] M w →
    Calls Tryd.prog 51 #[.string s] w (GrowPost B M w s) := by
  intro n
  induction n using Nat.strongRecOn with
  | ind n ih =>
  intro s hn hlim M w h
  by_cases h0 : s.size = 0
  · have hs : s = ⟨#[]⟩ := by
      apply ByteArray.ext
      exact Array.eq_empty_of_size_eq_zero h0
    subst hs
    have H := Lib.hid h
    clear h ih hn
    go_enter Tryd.func51, Tryd.ntmps51
    go_wp2
    go_ret
    exact grow_zero H.out _ rfl
  · by_cases h1 : s.size ≤ 256
    · have H := Lib.hid h
      have hne : s.toList.isEmpty = false := toList_ne s h0
      clear h ih
      subst hn
      go_enter Tryd.func51, Tryd.ntmps51
      go_wp2_with (go_at_call 69; refine (leaf_any H.out s hlim (by omega)).mono ?_; rintro e w' ⟨M', p, rfl, hp, hs⟩)
      go_ret
      exact grow_leaf ⟨M', p, rfl, hp, hs⟩
    · have H := Lib.hid h
      have hne : s.toList.isEmpty = false := toList_ne s h0
      obtain ⟨k, hk⟩ : ∃ k, k = s.size / 2 := ⟨_, rfl⟩
      have hq : (s.size : Int) / 2 = (k : Int) := by omega
      have hk1 : 1 ≤ k := by omega
      have hk2 : k < s.size := by omega
      have sz1 : (s.extract 0 k).size = k := by rw [ByteArray.size_extract]; omega
      have sz2 : (s.extract k s.size).size = s.size - k := by rw [ByteArray.size_extract]; omega
      have IH := Lib.hid ih
      have Z1 := Lib.hid sz1
      have Z2 := Lib.hid sz2
      have hs2 : s.size ≤ 1000000 := by unfold lim at hlim; omega
      subst hn
      clear h ih hk sz1 sz2 hlim
      go_enter Tryd.func51, Tryd.ntmps51
      go_wp2
      go_region_with (first
        | (go_at_call_of 51 (Value.string (s.extract 0 k)); refine (IH.out k hk2 _ Z1.out (by unfold lim; omega) M _ ?_).mono ?_; exact H.out.drew; rintro e w1 q; obtain ⟨t1, b1, M1, rfl, g1, m1, s1⟩ := q.one (by rw [Z1.out]; exact hk1); have G1 := Lib.hid g1; have P1 := Lib.hid m1; have S1 := Lib.hid s1; clear g1 m1 s1 q)
        | (go_at_call_of 51 (Value.string (s.extract k s.size)); refine (IH.out (s.size - k) (by omega) _ Z2.out (by unfold lim; omega) M1 _ ?_).mono ?_; exact S1.out.inv; rintro e w2 q; obtain ⟨t2, b2, M2, rfl, g2, m2, s2⟩ := q.one (by rw [Z2.out]; omega); have G2 := Lib.hid g2; have P2 := Lib.hid m2; have S2 := Lib.hid s2; clear g2 m2 s2 q)
        | (go_at_call 70; refine (branch_any S2.out.inv (S2.out.keep S1.out.inv P1.out) P2.out (by rw [text_size G1.out, text_size G2.out, Z1.out, Z2.out]; unfold lim; omega)).mono ?_; rintro e w3 ⟨M3, p3, rfl, hp3, s3⟩)
        | fail)
      all_goals go_wp2
      all_goals go_ret
      all_goals exact grow_node (by omega) S1.out.of_drew S2.out G1.out G2.out ⟨M3, p3, rfl, hp3, s3⟩

end Go.Proofs.YtfjdfdpelilelaaDoor
