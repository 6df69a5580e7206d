/-
  Texts of the proof, put together: DkClone.
-/
import Derived.Test.YtlnlpahmfpjjdaaDoorG13
import Derived.WalkSpells
import Derived.Lib.SliceRun

/-
  slices.Clone of sites and tokens, and the tokens' clone, their sites too.
-/
namespace Go.Proofs.YtlnlpahmfpjjdaaDoor
open Go.RowKit

theorem Tryd.infoTokC : (Tryd.prog.info? 36).map (fun i => (i.zero, i.size, i.bytes)) = some (some (.agg #[.int .i64 0, .string ⟨#[]⟩, .bool false, .string ⟨#[]⟩, .int .i64 0, .int .i64 0, .bool false, .slice none 0 0]), 8, 96) := by kernel_rfl
theorem Tryd.infoSit : (Tryd.prog.info? 110).map (fun i => (i.zero, i.size, i.bytes)) = some (some (.agg #[.string ⟨#[]⟩, .string ⟨#[]⟩, .int .i64 0, .int .i64 0, .bool false]), 5, 56) := by kernel_rfl

theorem pick_list {α : Type} (P : Nat → α → Prop) : ∀ n, (∀ i, i < n → ∃ a, P i a) → ∃ l : List α, l.length = n ∧ ∀ i a, l[i]? = some a → P i a
  | 0, _ => ⟨[], rfl, fun i a h => by simp at h⟩
  | n + 1, h => by
    obtain ⟨l, hl, hp⟩ := pick_list P n fun i hi => h i (by omega)
    obtain ⟨a, ha⟩ := h n (by omega)
    refine ⟨l ++ [a], by simp [hl], fun i b hb => ?_⟩
    rcases Nat.lt_or_ge i n with hi | hi
    · rw [List.getElem?_append_left (by omega)] at hb
      exact hp i b hb
    · rw [List.getElem?_append_right (by omega)] at hb
      have hlt := (List.getElem?_eq_some_iff.1 hb).1
      simp at hlt
      obtain rfl : i = n := by omega
      rw [hl, Nat.sub_self] at hb
      cases hb
      exact ha

def scell (s : Xs) : List Value := [.string s.m, .string s.g, .int .i64 s.f, .int .i64 s.t, .bool s.d]
def scells (S : List Xs) : List Value := S.flatMap scell
def xcell (p : Xt × Value) : List Value := [.int .i64 p.1.k, .string p.1.x, .bool p.1.sp, .string p.1.g, .int .i64 p.1.f, .int .i64 p.1.t, .bool p.1.d, p.2]
def xcells (P : List (Xt × Value)) : List Value := P.flatMap xcell
theorem flat_len {α : Type} {f : α → List Value} {n : Nat} (hf : ∀ a, (f a).length = n) : ∀ l : List α, (l.flatMap f).length = l.length * n
  | [] => by simp
  | a :: r => by
    rw [List.flatMap_cons, List.length_append, hf, flat_len hf r, List.length_cons, Nat.add_mul, Nat.one_mul, Nat.add_comm]

/-- What stands at a place of a flat list. -/
theorem flat_split {α : Type} {f : α → List Value} {n : Nat} (hn : 0 < n) (hf : ∀ a, (f a).length = n) {l : List α} {j : Nat} {u : Value} (h : (l.flatMap f)[j]? = some u) : ∃ a, l[j / n]? = some a ∧ (f a)[j % n]? = some u := by
  have hlt := (List.getElem?_eq_some_iff.1 h).1
  rw [flat_len hf] at hlt
  have hk : j / n < l.length := by
    rw [Nat.div_lt_iff_lt_mul hn]
    exact hlt
  refine ⟨_, List.getElem?_eq_getElem hk, ?_⟩
  rw [← flat_get hf l (j / n) _ (List.getElem?_eq_getElem hk) (j % n) (Nat.mod_lt _ hn), Nat.div_add_mod']
  exact h

theorem scell_at {s : Xs} {g o : Nat} {w : World} (h : SitA s g o w) : ∀ j u, (scell s)[j]? = some u → w.cell? ⟨g, o + j, none⟩ = some u := by
  obtain ⟨c0, c1, c2, c3, c4⟩ := h
  intro j u hj
  match j, hj with
  | 0, hj => simp only [scell, List.getElem?_cons_zero, Option.some.injEq] at hj; subst hj; exact c0
  | 1, hj => simp [scell] at hj; subst hj; exact c1
  | 2, hj => simp [scell] at hj; subst hj; exact c2
  | 3, hj => simp [scell] at hj; subst hj; exact c3
  | 4, hj => simp [scell] at hj; subst hj; exact c4
  | j + 5, hj => simp [scell] at hj
theorem xcell_at {p : Xt × Value} {g o : Nat} {w : World} (h : TokX p.1 p.2 g o w) : ∀ j u, (xcell p)[j]? = some u → w.cell? ⟨g, o + j, none⟩ = some u := by
  obtain ⟨c0, c1, c2, c3, c4, c5, c6, c7⟩ := h
  intro j u hj
  match j, hj with
  | 0, hj => simp only [xcell, List.getElem?_cons_zero, Option.some.injEq] at hj; subst hj; exact c0
  | 1, hj => simp [xcell] at hj; subst hj; exact c1
  | 2, hj => simp [xcell] at hj; subst hj; exact c2
  | 3, hj => simp [xcell] at hj; subst hj; exact c3
  | 4, hj => simp [xcell] at hj; subst hj; exact c4
  | 5, hj => simp [xcell] at hj; subst hj; exact c5
  | 6, hj => simp [xcell] at hj; subst hj; exact c6
  | 7, hj => simp [xcell] at hj; subst hj; exact c7
  | j + 8, hj => simp [xcell] at hj

theorem addr_off (g o j : Nat) : (⟨g, o, none⟩ : Addr).add j = ⟨g, o + j, none⟩ := by
  unfold Addr.add
  split
  · rename_i h
    rw [h, Nat.add_zero]
  · rfl

/-- Nothing of a slice lies in that block. -/
def OffG (g : Nat) (v : Value) : Prop := ∀ ad n c, v = .slice (some ad) n c → 0 < n → ad.block ≠ g
theorem SitsA.set {S : List Xs} {v : Value} {w : World} (h : SitsA S v w) {g : Nat} (hg : OffG g v) (j : Nat) (u : Value) : SitsA S v (w.setCell ⟨g, j, none⟩ u) := by
  obtain ⟨a, cap, hv, h1, h2, h3⟩ := h
  refine ⟨a, cap, hv, h1, h2, fun k s hs => ?_⟩
  obtain ⟨b, o, ha, hb, c0, c1, c2, c3, c4⟩ := h3 k s hs
  have hne : b ≠ g := hg ⟨b, o, none⟩ S.length cap (by rw [hv, ha]) (by have := (List.getElem?_eq_some_iff.1 hs).1; omega)
  have ho : ∀ i, (w.setCell ⟨g, j, none⟩ u).cell? ⟨b, i, none⟩ = w.cell? ⟨b, i, none⟩ := fun i => World.cell?_of_block (heap_setCell_other w ⟨g, j, none⟩ b u hne)
  exact ⟨b, o, ha, by rw [World.setCell]; simpa using hb, (ho _).trans c0, (ho _).trans c1, (ho _).trans c2, (ho _).trans c3, (ho _).trans c4⟩

/-- A row that is new. -/
def NewAt (W : World) (e : TypeId) (size n : Nat) (xs : List Value) (end_ : Ending) (w' : World) : Prop :=
  ∃ a cap, end_ = .returned (.slice a n cap) ∧ Up W e size (.slice a n cap) n xs w'
theorem new_at {W : World} {e : TypeId} {size n m : Nat} {v : Value} {xs : List Value} {w' : World} (h : Up W e size v m xs w') (hm : m = n) : NewAt W e size n xs (.returned v) w' := by
  subst hm
  obtain ⟨a, cap, rfl, -⟩ := row_form h.1
  exact ⟨a, cap, rfl, h⟩

set_option maxRecDepth 100000 in
theorem cloneX_any {w : World} {a : Option Addr} {m c : Nat} {news : List Value} (h0 : a = none → m = 0 ∧ news = []) (hl : news.length = m * 8) (hc : ∀ ad, a = some ad → ∀ j u, news[j]? = some u → w.cell? (ad.add j) = some u) (hlt : ∀ ad, a = some ad → 0 < m → ad.block < w.heap.size) (h1 : ∀ u ∈ news, u.oneCell' = true) (hm : m ≤ 500000) :
    Calls Tryd.prog 60 #[.slice a m c] w (NewAt w 36 8 m news) := by
  have hq := fun (w : World) (a : Option Addr) (n c : Nat) => Lib.run_eql_slice_nil (P := Tryd.prog) w 22 36 a n c 0 0 Tryd.underlying22
  obtain ⟨i0, hi, hz0, hz1, hz2⟩ := info_parts Tryd.infoTokC
  cases a with
  | none =>
    obtain ⟨rfl, rfl⟩ := h0 rfl
    clear h0 hl hc hlt h1
    go_enter Tryd.func60, Tryd.ntmps60
    go_wp2
    go_ret
    exact new_at (up_nil w _ 8) rfl
  | some ad =>
    have HR := Lib.hid (up_empty w 36 8)
    have HS2 : Hid (Src (w.alloc (.cells #[] 36)) (.slice (some ad) m c) m 8 news) := Lib.hid (.inr ⟨ad, c, rfl, hl, fun j u hj => by
      have hm0 : 0 < m := by
        have := (List.getElem?_eq_some_iff.1 hj).1
        rcases Nat.eq_zero_or_pos m with h | h
        · rw [h] at hl; omega
        · exact h
      rw [HR.out.2.cell (by rw [add_block2]; exact hlt ad rfl hm0)]
      exact hc ad rfl j u hj⟩)
    have H1 := Lib.hid h1
    clear h0 hl hc hlt h1
    go_enter Tryd.func60, Tryd.ntmps60
    go_wp2_with (at_builtin; refine wpList_append_ex rfl (.tmp 5) (.tmp 6) 22 rfl _ (app_up Tryd.underlying22 hi hz0 hz1 hz2 rfl (by decide) (by decide) HR.out HS2.out H1.out (by omega)) ?_; intro v' w1 hu; have U1 := Lib.hid hu; clear hu)
    go_ret
    exact new_at U1.out (by omega)

set_option maxRecDepth 100000 in
theorem cloneS_any {w : World} {a : Option Addr} {m c : Nat} {news : List Value} (h0 : a = none → m = 0 ∧ news = []) (hl : news.length = m * 5) (hc : ∀ ad, a = some ad → ∀ j u, news[j]? = some u → w.cell? (ad.add j) = some u) (hlt : ∀ ad, a = some ad → 0 < m → ad.block < w.heap.size) (h1 : ∀ u ∈ news, u.oneCell' = true) (hm : m ≤ 500000) :
    Calls Tryd.prog 61 #[.slice a m c] w (NewAt w 110 5 m news) := by
  have hq := fun (w : World) (a : Option Addr) (n c : Nat) => Lib.run_eql_slice_nil (P := Tryd.prog) w 34 110 a n c 0 0 Tryd.underlying34
  obtain ⟨i0, hi, hz0, hz1, hz2⟩ := info_parts Tryd.infoSit
  cases a with
  | none =>
    obtain ⟨rfl, rfl⟩ := h0 rfl
    clear h0 hl hc hlt h1
    go_enter Tryd.func61, Tryd.ntmps61
    go_wp2
    go_ret
    exact new_at (up_nil w _ 5) rfl
  | some ad =>
    have HR := Lib.hid (up_empty w 110 5)
    have HS2 : Hid (Src (w.alloc (.cells #[] 110)) (.slice (some ad) m c) m 5 news) := Lib.hid (.inr ⟨ad, c, rfl, hl, fun j u hj => by
      have hm0 : 0 < m := by
        have := (List.getElem?_eq_some_iff.1 hj).1
        rcases Nat.eq_zero_or_pos m with h | h
        · rw [h] at hl; omega
        · exact h
      rw [HR.out.2.cell (by rw [add_block2]; exact hlt ad rfl hm0)]
      exact hc ad rfl j u hj⟩)
    have H1 := Lib.hid h1
    clear h0 hl hc hlt h1
    go_enter Tryd.func61, Tryd.ntmps61
    go_wp2_with (at_builtin; refine wpList_append_ex rfl (.tmp 5) (.tmp 6) 34 rfl _ (app_up Tryd.underlying34 hi hz0 hz1 hz2 rfl (by decide) (by decide) HR.out HS2.out H1.out (by omega)) ?_; intro v' w1 hu; have U1 := Lib.hid hu; clear hu)
    go_ret
    exact new_at U1.out (by omega)

/-- Sites that were cloned. -/
def SitsNew (W : World) (S : List Xs) (end_ : Ending) (w' : World) : Prop :=
  ∃ a n cap, end_ = .returned (.slice a n cap) ∧ SitsA S (.slice a n cap) w' ∧ Below W.heap.size W w' ∧ ∀ g, g < W.heap.size → OffG g (.slice a n cap)
theorem scells_one (S : List Xs) : ∀ u ∈ scells S, u.oneCell' = true := by
  intro u hu
  unfold scells at hu
  rw [List.mem_flatMap] at hu
  obtain ⟨d, -, hd⟩ := hu
  simp only [scell, List.mem_cons, List.not_mem_nil, or_false] at hd
  rcases hd with rfl | rfl | rfl | rfl | rfl <;> rfl
theorem sits_of_row {B : Nat} {S : List Xs} {v : Value} {w : World} (h : w.ownsRow B 110 5 v S.length (scells S)) : SitsA S v w := by
  obtain ⟨a, cap, hv, h1, h2, h3⟩ := row_form h
  refine ⟨a, cap, hv, h1, h2, fun k s hs => ?_⟩
  have hg := fun j (hj : j < 5) => flat_get (f := scell) (n := 5) (fun _ => rfl) S k s hs j hj
  obtain ⟨g, hga, hlt, -⟩ := h3 (k * 5 + 0) _ ((hg 0 (by omega)).trans rfl)
  have hc : ∀ j u, j < 5 → (scell s)[j]? = some u → w.cell? ⟨g, k * 5 + j, none⟩ = some u := by
    intro j u hj hu
    obtain ⟨g', hga', -, e⟩ := h3 (k * 5 + j) u ((hg j hj).trans hu)
    rw [hga] at hga'
    simp only [Option.some.injEq, Addr.mk.injEq, and_true] at hga'
    rw [hga']
    exact e
  refine ⟨g, 0, hga, hlt, ?_⟩
  rw [Nat.zero_add]
  exact ⟨hc 0 _ (by omega) rfl, hc 1 _ (by omega) rfl, hc 2 _ (by omega) rfl, hc 3 _ (by omega) rfl, hc 4 _ (by omega) rfl⟩
theorem cloneSits_any {S : List Xs} {a : Option Addr} {n c : Nat} {w : World} (h : SitsA S (.slice a n c) w) (hS : S.length ≤ 500000) : Calls Tryd.prog 61 #[.slice a n c] w (SitsNew w S) := by
  have hn := h.len.1
  have hl : (scells S).length = n * 5 := by unfold scells; rw [flat_len (n := 5) (fun _ => rfl), hn]
  have hin : ∀ ad, a = some ad → ∀ j u, (scells S)[j]? = some u → w.cell? (ad.add j) = some u ∧ ad.block < w.heap.size := by
    intro ad ha j u hj
    obtain ⟨s, hs, hu⟩ := flat_split (n := 5) (by omega) (fun _ => rfl) hj
    obtain ⟨g, o, hg, hlt, hc⟩ := h.get hs
    rw [ha] at hg
    obtain rfl := Option.some.inj hg
    refine ⟨?_, hlt⟩
    rw [addr_off]
    have := scell_at hc (j % 5) u hu
    rw [Nat.add_assoc, Nat.div_add_mod'] at this
    exact this
  refine (cloneS_any (fun e => ?_) hl (fun ad ha j u hj => (hin ad ha j u hj).1) (fun ad ha h0 => ?_) (scells_one S) (by omega)).mono ?_
  · have hS0 : S = [] := by
      cases S with
      | nil => rfl
      | cons s r =>
        obtain ⟨g, o, hg, -⟩ := h.get (k := 0) (s := s) rfl
        rw [e] at hg
        cases hg
    subst hS0
    exact ⟨hn, rfl⟩
  · obtain ⟨u, hu⟩ : ∃ u, (scells S)[0]? = some u := ⟨_, List.getElem?_eq_getElem (by rw [hl]; omega)⟩
    exact (hin ad ha 0 u hu).2
  · rintro e w' ⟨a', cap', rfl, hu⟩
    have h1 := hu.1
    rw [hn] at h1 hu ⊢
    refine ⟨a', _, cap', rfl, sits_of_row h1, hu.2, fun g hg ad k c he h0 hb => ?_⟩
    have := (World.ownsRow.lt h1 ad.block (by rw [he]; simp [Value.ownBlock])).1
    omega

end Go.Proofs.YtlnlpahmfpjjdaaDoor
