/-
  Texts of the proof, put together: DkClone, DkCloneT.
-/
import Derived.Test.YtobplffailbkbaaG11
import Derived.WalkSpells
import Derived.Lib.SliceRun

/-
  slices.Clone of sites and tokens, and the tokens' clone, their sites too.
-/
namespace Go.Proofs.Ytobplffailbkbaa
open Go.RowKit

theorem Try.infoTokC : (Try.prog.info? 26).map (fun i => (i.zero, i.size, i.bytes)) = some (some (.agg #[.int .i64 0, .string ⟨#[]⟩, .bool false, .string ⟨#[]⟩, .int .i64 0, .int .i64 0, .bool false, .slice none 0 0]), 8, 96) := by kernel_rfl
theorem Try.infoSit : (Try.prog.info? 48).map (fun i => (i.zero, i.size, i.bytes)) = some (some (.agg #[.string ⟨#[]⟩, .string ⟨#[]⟩, .int .i64 0, .int .i64 0, .bool false]), 5, 56) := by kernel_rfl

theorem pick_list {α : Type} (P : Nat → α → Prop) : ∀ n, (∀ i, i < n → ∃ a, P i a) → ∃ l : List α, l.length = n ∧ ∀ i a, l[i]? = some a → P i a
  | 0, _ => ⟨[], rfl, fun i a h => by simp at h⟩
  | n + 1, h => by
    obtain ⟨l, hl, hp⟩ := pick_list P n fun i hi => h i (by omega)
    obtain ⟨a, ha⟩ := h n (by omega)
    refine ⟨l ++ [a], by simp [hl], fun i b hb => ?_⟩
    rcases Nat.lt_or_ge i n with hi | hi
    · rw [List.getElem?_append_left (by omega)] at hb
      exact hp i b hb
    · rw [List.getElem?_append_right (by omega)] at hb
      have hlt := (List.getElem?_eq_some_iff.1 hb).1
      simp at hlt
      obtain rfl : i = n := by omega
      rw [hl, Nat.sub_self] at hb
      cases hb
      exact ha

def scell (s : Xs) : List Value := [.string s.m, .string s.g, .int .i64 s.f, .int .i64 s.t, .bool s.d]
def scells (S : List Xs) : List Value := S.flatMap scell
def xcell (p : Xt × Value) : List Value := [.int .i64 p.1.k, .string p.1.x, .bool p.1.sp, .string p.1.g, .int .i64 p.1.f, .int .i64 p.1.t, .bool p.1.d, p.2]
def xcells (P : List (Xt × Value)) : List Value := P.flatMap xcell
theorem flat_len {α : Type} {f : α → List Value} {n : Nat} (hf : ∀ a, (f a).length = n) : ∀ l : List α, (l.flatMap f).length = l.length * n
  | [] => by simp
  | a :: r => by
    rw [List.flatMap_cons, List.length_append, hf, flat_len hf r, List.length_cons, Nat.add_mul, Nat.one_mul, Nat.add_comm]

/-- What stands at a place of a flat list. -/
theorem flat_split {α : Type} {f : α → List Value} {n : Nat} (hn : 0 < n) (hf : ∀ a, (f a).length = n) {l : List α} {j : Nat} {u : Value} (h : (l.flatMap f)[j]? = some u) : ∃ a, l[j / n]? = some a ∧ (f a)[j % n]? = some u := by
  have hlt := (List.getElem?_eq_some_iff.1 h).1
  rw [flat_len hf] at hlt
  have hk : j / n < l.length := by
    rw [Nat.div_lt_iff_lt_mul hn]
    exact hlt
  refine ⟨_, List.getElem?_eq_getElem hk, ?_⟩
  rw [← flat_get hf l (j / n) _ (List.getElem?_eq_getElem hk) (j % n) (Nat.mod_lt _ hn), Nat.div_add_mod']
  exact h

theorem scell_at {s : Xs} {g o : Nat} {w : World} (h : SitA s g o w) : ∀ j u, (scell s)[j]? = some u → w.cell? ⟨g, o + j, none⟩ = some u := by
  obtain ⟨c0, c1, c2, c3, c4⟩ := h
  intro j u hj
  match j, hj with
  | 0, hj => simp only [scell, List.getElem?_cons_zero, Option.some.injEq] at hj; subst hj; exact c0
  | 1, hj => simp [scell] at hj; subst hj; exact c1
  | 2, hj => simp [scell] at hj; subst hj; exact c2
  | 3, hj => simp [scell] at hj; subst hj; exact c3
  | 4, hj => simp [scell] at hj; subst hj; exact c4
  | j + 5, hj => simp [scell] at hj
theorem xcell_at {p : Xt × Value} {g o : Nat} {w : World} (h : TokX p.1 p.2 g o w) : ∀ j u, (xcell p)[j]? = some u → w.cell? ⟨g, o + j, none⟩ = some u := by
  obtain ⟨c0, c1, c2, c3, c4, c5, c6, c7⟩ := h
  intro j u hj
  match j, hj with
  | 0, hj => simp only [xcell, List.getElem?_cons_zero, Option.some.injEq] at hj; subst hj; exact c0
  | 1, hj => simp [xcell] at hj; subst hj; exact c1
  | 2, hj => simp [xcell] at hj; subst hj; exact c2
  | 3, hj => simp [xcell] at hj; subst hj; exact c3
  | 4, hj => simp [xcell] at hj; subst hj; exact c4
  | 5, hj => simp [xcell] at hj; subst hj; exact c5
  | 6, hj => simp [xcell] at hj; subst hj; exact c6
  | 7, hj => simp [xcell] at hj; subst hj; exact c7
  | j + 8, hj => simp [xcell] at hj

theorem addr_off (g o j : Nat) : (⟨g, o, none⟩ : Addr).add j = ⟨g, o + j, none⟩ := by
  unfold Addr.add
  split
  · rename_i h
    rw [h, Nat.add_zero]
  · rfl

/-- Nothing of a slice lies in that block. -/
def OffG (g : Nat) (v : Value) : Prop := ∀ ad n c, v = .slice (some ad) n c → 0 < n → ad.block ≠ g
theorem SitsA.set {S : List Xs} {v : Value} {w : World} (h : SitsA S v w) {g : Nat} (hg : OffG g v) (j : Nat) (u : Value) : SitsA S v (w.setCell ⟨g, j, none⟩ u) := by
  obtain ⟨a, cap, hv, h1, h2, h3⟩ := h
  refine ⟨a, cap, hv, h1, h2, fun k s hs => ?_⟩
  obtain ⟨b, o, ha, hb, c0, c1, c2, c3, c4⟩ := h3 k s hs
  have hne : b ≠ g := hg ⟨b, o, none⟩ S.length cap (by rw [hv, ha]) (by have := (List.getElem?_eq_some_iff.1 hs).1; omega)
  have ho : ∀ i, (w.setCell ⟨g, j, none⟩ u).cell? ⟨b, i, none⟩ = w.cell? ⟨b, i, none⟩ := fun i => World.cell?_of_block (heap_setCell_other w ⟨g, j, none⟩ b u hne)
  exact ⟨b, o, ha, by rw [World.setCell]; simpa using hb, (ho _).trans c0, (ho _).trans c1, (ho _).trans c2, (ho _).trans c3, (ho _).trans c4⟩

/-- A row that is new. -/
def NewAt (W : World) (e : TypeId) (size n : Nat) (xs : List Value) (end_ : Ending) (w' : World) : Prop :=
  ∃ a cap, end_ = .returned (.slice a n cap) ∧ Up W e size (.slice a n cap) n xs w'
theorem new_at {W : World} {e : TypeId} {size n m : Nat} {v : Value} {xs : List Value} {w' : World} (h : Up W e size v m xs w') (hm : m = n) : NewAt W e size n xs (.returned v) w' := by
  subst hm
  obtain ⟨a, cap, rfl, -⟩ := row_form h.1
  exact ⟨a, cap, rfl, h⟩

set_option maxRecDepth 100000 in
theorem cloneX_any {w : World} {a : Option Addr} {m c : Nat} {news : List Value} (h0 : a = none → m = 0 ∧ news = []) (hl : news.length = m * 8) (hc : ∀ ad, a = some ad → ∀ j u, news[j]? = some u → w.cell? (ad.add j) = some u) (hlt : ∀ ad, a = some ad → 0 < m → ad.block < w.heap.size) (h1 : ∀ u ∈ news, u.oneCell' = true) (hm : m ≤ 500000) :
    Calls Try.prog 73 #[.slice a m c] w (NewAt w 26 8 m news) := by
  have hq := fun (w : World) (a : Option Addr) (n c : Nat) => Lib.run_eql_slice_nil (P := Try.prog) w 28 26 a n c 0 0 Try.underlying28
  obtain ⟨i0, hi, hz0, hz1, hz2⟩ := info_parts Try.infoTokC
  cases a with
  | none =>
    obtain ⟨rfl, rfl⟩ := h0 rfl
    clear h0 hl hc hlt h1
    go_enter Try.func73, Try.ntmps73
    go_wp2
    go_ret
    exact new_at (up_nil w _ 8) rfl
  | some ad =>
    have HR := Lib.hid (up_empty w 26 8)
    have HS2 : Hid (Src (w.alloc (.cells #[] 26)) (.slice (some ad) m c) m 8 news) := Lib.hid (.inr ⟨ad, c, rfl, hl, fun j u hj => by
      have hm0 : 0 < m := by
        have := (List.getElem?_eq_some_iff.1 hj).1
        rcases Nat.eq_zero_or_pos m with h | h
        · rw [h] at hl; omega
        · exact h
      rw [HR.out.2.cell (by rw [add_block2]; exact hlt ad rfl hm0)]
      exact hc ad rfl j u hj⟩)
    have H1 := Lib.hid h1
    clear h0 hl hc hlt h1
    go_enter Try.func73, Try.ntmps73
    go_wp2_with (at_builtin; refine wpList_append_ex rfl (.tmp 5) (.tmp 6) 28 rfl _ (app_up Try.underlying28 hi hz0 hz1 hz2 rfl (by decide) (by decide) HR.out HS2.out H1.out (by omega)) ?_; intro v' w1 hu; have U1 := Lib.hid hu; clear hu)
    go_ret
    exact new_at U1.out (by omega)

set_option maxRecDepth 100000 in
theorem cloneS_any {w : World} {a : Option Addr} {m c : Nat} {news : List Value} (h0 : a = none → m = 0 ∧ news = []) (hl : news.length = m * 5) (hc : ∀ ad, a = some ad → ∀ j u, news[j]? = some u → w.cell? (ad.add j) = some u) (hlt : ∀ ad, a = some ad → 0 < m → ad.block < w.heap.size) (h1 : ∀ u ∈ news, u.oneCell' = true) (hm : m ≤ 500000) :
    Calls Try.prog 22 #[.slice a m c] w (NewAt w 48 5 m news) := by
  have hq := fun (w : World) (a : Option Addr) (n c : Nat) => Lib.run_eql_slice_nil (P := Try.prog) w 24 48 a n c 0 0 Try.underlying24
  obtain ⟨i0, hi, hz0, hz1, hz2⟩ := info_parts Try.infoSit
  cases a with
  | none =>
    obtain ⟨rfl, rfl⟩ := h0 rfl
    clear h0 hl hc hlt h1
    go_enter Try.func22, Try.ntmps22
    go_wp2
    go_ret
    exact new_at (up_nil w _ 5) rfl
  | some ad =>
    have HR := Lib.hid (up_empty w 48 5)
    have HS2 : Hid (Src (w.alloc (.cells #[] 48)) (.slice (some ad) m c) m 5 news) := Lib.hid (.inr ⟨ad, c, rfl, hl, fun j u hj => by
      have hm0 : 0 < m := by
        have := (List.getElem?_eq_some_iff.1 hj).1
        rcases Nat.eq_zero_or_pos m with h | h
        · rw [h] at hl; omega
        · exact h
      rw [HR.out.2.cell (by rw [add_block2]; exact hlt ad rfl hm0)]
      exact hc ad rfl j u hj⟩)
    have H1 := Lib.hid h1
    clear h0 hl hc hlt h1
    go_enter Try.func22, Try.ntmps22
    go_wp2_with (at_builtin; refine wpList_append_ex rfl (.tmp 5) (.tmp 6) 24 rfl _ (app_up Try.underlying24 hi hz0 hz1 hz2 rfl (by decide) (by decide) HR.out HS2.out H1.out (by omega)) ?_; intro v' w1 hu; have U1 := Lib.hid hu; clear hu)
    go_ret
    exact new_at U1.out (by omega)

/-- Sites that were cloned. -/
def SitsNew (W : World) (S : List Xs) (end_ : Ending) (w' : World) : Prop :=
  ∃ a n cap, end_ = .returned (.slice a n cap) ∧ SitsA S (.slice a n cap) w' ∧ Below W.heap.size W w' ∧ ∀ g, g < W.heap.size → OffG g (.slice a n cap)
theorem scells_one (S : List Xs) : ∀ u ∈ scells S, u.oneCell' = true := by
  intro u hu
  unfold scells at hu
  rw [List.mem_flatMap] at hu
  obtain ⟨d, -, hd⟩ := hu
  simp only [scell, List.mem_cons, List.not_mem_nil, or_false] at hd
  rcases hd with rfl | rfl | rfl | rfl | rfl <;> rfl
theorem sits_of_row {B : Nat} {S : List Xs} {v : Value} {w : World} (h : w.ownsRow B 48 5 v S.length (scells S)) : SitsA S v w := by
  obtain ⟨a, cap, hv, h1, h2, h3⟩ := row_form h
  refine ⟨a, cap, hv, h1, h2, fun k s hs => ?_⟩
  have hg := fun j (hj : j < 5) => flat_get (f := scell) (n := 5) (fun _ => rfl) S k s hs j hj
  obtain ⟨g, hga, hlt, -⟩ := h3 (k * 5 + 0) _ ((hg 0 (by omega)).trans rfl)
  have hc : ∀ j u, j < 5 → (scell s)[j]? = some u → w.cell? ⟨g, k * 5 + j, none⟩ = some u := by
    intro j u hj hu
    obtain ⟨g', hga', -, e⟩ := h3 (k * 5 + j) u ((hg j hj).trans hu)
    rw [hga] at hga'
    simp only [Option.some.injEq, Addr.mk.injEq, and_true] at hga'
    rw [hga']
    exact e
  refine ⟨g, 0, hga, hlt, ?_⟩
  rw [Nat.zero_add]
  exact ⟨hc 0 _ (by omega) rfl, hc 1 _ (by omega) rfl, hc 2 _ (by omega) rfl, hc 3 _ (by omega) rfl, hc 4 _ (by omega) rfl⟩
theorem cloneSits_any {S : List Xs} {a : Option Addr} {n c : Nat} {w : World} (h : SitsA S (.slice a n c) w) (hS : S.length ≤ 500000) : Calls Try.prog 22 #[.slice a n c] w (SitsNew w S) := by
  have hn := h.len.1
  have hl : (scells S).length = n * 5 := by unfold scells; rw [flat_len (n := 5) (fun _ => rfl), hn]
  have hin : ∀ ad, a = some ad → ∀ j u, (scells S)[j]? = some u → w.cell? (ad.add j) = some u ∧ ad.block < w.heap.size := by
    intro ad ha j u hj
    obtain ⟨s, hs, hu⟩ := flat_split (n := 5) (by omega) (fun _ => rfl) hj
    obtain ⟨g, o, hg, hlt, hc⟩ := h.get hs
    rw [ha] at hg
    obtain rfl := Option.some.inj hg
    refine ⟨?_, hlt⟩
    rw [addr_off]
    have := scell_at hc (j % 5) u hu
    rw [Nat.add_assoc, Nat.div_add_mod'] at this
    exact this
  refine (cloneS_any (fun e => ?_) hl (fun ad ha j u hj => (hin ad ha j u hj).1) (fun ad ha h0 => ?_) (scells_one S) (by omega)).mono ?_
  · have hS0 : S = [] := by
      cases S with
      | nil => rfl
      | cons s r =>
        obtain ⟨g, o, hg, -⟩ := h.get (k := 0) (s := s) rfl
        rw [e] at hg
        cases hg
    subst hS0
    exact ⟨hn, rfl⟩
  · obtain ⟨u, hu⟩ : ∃ u, (scells S)[0]? = some u := ⟨_, List.getElem?_eq_getElem (by rw [hl]; omega)⟩
    exact (hin ad ha 0 u hu).2
  · rintro e w' ⟨a', cap', rfl, hu⟩
    have h1 := hu.1
    rw [hn] at h1 hu ⊢
    refine ⟨a', _, cap', rfl, sits_of_row h1, hu.2, fun g hg ad k c he h0 hb => ?_⟩
    have := (World.ownsRow.lt h1 ad.block (by rw [he]; simp [Value.ownBlock])).1
    omega

end Go.Proofs.Ytobplffailbkbaa

/-
  The tokens' clone, their sites too.
-/
namespace Go.Proofs.Ytobplffailbkbaa
open Go.RowKit

theorem own_freeX {B : Nat} {w : World} {e : TypeId} {size n cap : Nat} {g : Nat} {xs : List Value} (h : w.ownsRow B e size (.slice (some ⟨g, 0, none⟩) n cap) n xs) (k : Nat) : w.frozen? ⟨g, k, none⟩ = false := by
  obtain ⟨h1, ⟨e1, -⟩ | ⟨g2, cap2, cur, e1, hg, hh, hr⟩⟩ := h
  · cases e1
  · simp only [Value.slice.injEq, Option.some.injEq, Addr.mk.injEq, and_true, true_and] at e1
    rw [← e1.1] at hh
    exact frozen_of_row w g k _ _ hh
theorem own_setX {B : Nat} {w : World} {e : TypeId} {size n cap g : Nat} {xs : List Value} (h : w.ownsRow B e size (.slice (some ⟨g, 0, none⟩) n cap) n xs) (j : Nat) (u : Value) : (w.setCell ⟨g, j, none⟩ u).ownsRow B e size (.slice (some ⟨g, 0, none⟩) n cap) n (xs.set j u) := by
  obtain ⟨h1, ⟨hv, -⟩ | ⟨g', cap', cur, hv, hg, hh, hc, hm, hs, ht⟩⟩ := h
  · cases hv
  · simp only [Value.slice.injEq, Option.some.injEq, Addr.mk.injEq, and_true, true_and] at hv
    obtain ⟨rfl, rfl⟩ := hv
    refine ⟨by rw [List.length_set]; exact h1, .inr ⟨g, cap, cur.setIfInBounds j u, rfl, hg, heap_setCell_same w g j _ _ _ hh, hc, hm, by rw [Array.size_setIfInBounds]; exact hs, ?_⟩⟩
    rw [Array.toList_setIfInBounds, List.take_set, ht]
theorem up_setX {W w : World} {e : TypeId} {size n cap g : Nat} {xs : List Value} (h : Up W e size (.slice (some ⟨g, 0, none⟩) n cap) n xs w) (j : Nat) (u : Value) : Up W e size (.slice (some ⟨g, 0, none⟩) n cap) n (xs.set j u) (w.setCell ⟨g, j, none⟩ u) :=
  ⟨own_setX h.1 j u, h.2.setCell (World.ownsRow.lt h.1 g rfl).1 _⟩

theorem xcells_set (t : Xt) (nv : Value) : ∀ (P : List (Xt × Value)) (k : Nat) (sv : Value), P[k]? = some (t, sv) → (xcells P).set (k * 8 + 7) nv = xcells (P.set k (t, nv))
  | [], k, sv, h => by simp at h
  | p :: P, 0, sv, h => by
    simp only [List.getElem?_cons_zero, Option.some.injEq] at h
    subst h
    rfl
  | p :: P, k + 1, sv, h => by
    have ih := xcells_set t nv P k sv (by simpa using h)
    have e : xcells (p :: P) = xcell p ++ xcells P := rfl
    rw [e, List.set_append_right _ _ (by simp [xcell]; omega)]
    rw [show (k + 1) * 8 + 7 - (xcell p).length = k * 8 + 7 from by simp [xcell]; omega, ih]
    rfl
theorem map_set_fst {P : List (Xt × Value)} {k : Nat} {t : Xt} {sv nv : Value} (h : P[k]? = some (t, sv)) : (P.set k (t, nv)).map Prod.fst = P.map Prod.fst := by
  rw [List.map_set]
  apply List.ext_getElem?
  intro j
  rw [List.getElem?_set]
  split
  · rename_i e
    subst e
    rw [List.getElem?_map, h]
    simp
    exact (List.getElem?_eq_some_iff.1 h).1
  · rfl

/-- Tokens on their way: the row that was cloned, its sites here and there. -/
structure ClT (W : World) (T : List Xt) (a : Option Addr) (n c : Nat) (P : List (Xt × Value)) (w : World) : Prop where
  map : P.map Prod.fst = T
  up : Up W 26 8 (.slice a n c) n (xcells P) w
  sits : ∀ p ∈ P, SitsA p.1.ss p.2 w
  off : ∀ p ∈ P, ∀ g, a = some ⟨g, 0, none⟩ → OffG g p.2

theorem ClT.over {W : World} {T : List Xt} {a : Option Addr} {n c : Nat} {P : List (Xt × Value)} {w w' : World} (h : ClT W T a n c P w) (b : Below w.heap.size w w') : ClT W T a n c P w' :=
  ⟨h.map, Up.over h.up b, fun p hp => (h.sits p hp).over b, h.off⟩
theorem ClT.put {W : World} {T : List Xt} {n c g k : Nat} {P : List (Xt × Value)} {w : World} {t : Xt} {sv nv : Value} (h : ClT W T (some ⟨g, 0, none⟩) n c P w) (hk : P[k]? = some (t, sv)) (hs : SitsA t.ss nv w) (ho : OffG g nv) :
    ClT W T (some ⟨g, 0, none⟩) n c (P.set k (t, nv)) (w.setCell ⟨g, k * 8 + 7, none⟩ nv) := by
  refine ⟨(map_set_fst hk).trans h.map, ?_, fun p hp => ?_, fun p hp g' hg' => ?_⟩
  · rw [← xcells_set t nv P k sv hk]
    exact up_setX h.up _ _
  · rcases List.mem_or_eq_of_mem_set hp with hp | rfl
    · exact (h.sits p hp).set (h.off p hp g rfl) _ _
    · exact hs.set ho _ _
  · rcases List.mem_or_eq_of_mem_set hp with hp | rfl
    · exact h.off p hp g' hg'
    · obtain rfl : g = g' := by simpa using hg'
      exact ho
theorem ClT.toks {W : World} {T : List Xt} {a : Option Addr} {n c : Nat} {P : List (Xt × Value)} {w : World} (h : ClT W T a n c P w) : ToksX T (.slice a n c) w := by
  have hl : n * 8 = P.length * 8 := by
    have := h.up.1.1
    unfold xcells at this
    rw [flat_len (n := 8) (fun _ => rfl)] at this
    exact this.symm
  have hT : T.length = P.length := by rw [← h.map, List.length_map]
  obtain ⟨a', cap, hv, h1, h2, h3⟩ := row_form h.up.1
  simp only [Value.slice.injEq, true_and] at hv
  obtain ⟨rfl, rfl⟩ := hv
  refine ⟨a, c, by rw [show n = T.length from by omega], by omega, h2, fun k t ht => ?_⟩
  rw [← h.map, List.getElem?_map, Option.map_eq_some_iff] at ht
  obtain ⟨p, hp, rfl⟩ := ht
  have hg := fun j (hj : j < 8) => flat_get (f := xcell) (n := 8) (fun _ => rfl) P k p hp j hj
  obtain ⟨g, hga, hlt, -⟩ := h3 (k * 8 + 0) _ ((hg 0 (by omega)).trans rfl)
  have hc : ∀ j u, j < 8 → (xcell p)[j]? = some u → w.cell? ⟨g, k * 8 + j, none⟩ = some u := by
    intro j u hj hu
    obtain ⟨g', hga', -, e⟩ := h3 (k * 8 + j) u ((hg j hj).trans hu)
    rw [hga] at hga'
    simp only [Option.some.injEq, Addr.mk.injEq, and_true] at hga'
    rw [hga']
    exact e
  refine ⟨g, 0, hga, hlt, p.2, ?_, h.sits p (List.mem_of_getElem? hp)⟩
  rw [Nat.zero_add]
  exact ⟨hc 0 _ (by omega) rfl, hc 1 _ (by omega) rfl, hc 2 _ (by omega) rfl, hc 3 _ (by omega) rfl, hc 4 _ (by omega) rfl, hc 5 _ (by omega) rfl, hc 6 _ (by omega) rfl, hc 7 _ (by omega) rfl⟩

/-- The tokens of a slice, with their sites' slices. -/
theorem ToksX.pairs {T : List Xt} {a : Option Addr} {n cap : Nat} {w : World} (h : ToksX T (.slice a n cap) w) : ∃ P : List (Xt × Value), P.map Prod.fst = T ∧ (∀ p ∈ P, SitsA p.1.ss p.2 w) ∧ ∀ k p, P[k]? = some p → ∃ g o, a = some ⟨g, o, none⟩ ∧ g < w.heap.size ∧ TokX p.1 p.2 g (o + k * 8) w := by
  obtain ⟨P, hPl, hP⟩ := pick_list (fun k (p : Xt × Value) => T[k]? = some p.1 ∧ SitsA p.1.ss p.2 w ∧ ∃ g o, a = some ⟨g, o, none⟩ ∧ g < w.heap.size ∧ TokX p.1 p.2 g (o + k * 8) w) T.length (fun k hk => by
    obtain ⟨g, o, sa, sn, sc, ha, hg, -, ht, hs⟩ := h.get (List.getElem?_eq_getElem hk)
    exact ⟨(T[k], .slice sa sn sc), List.getElem?_eq_getElem hk, hs, g, o, ha, hg, ht⟩)
  refine ⟨P, ?_, fun p hp => ?_, fun k p hp => (hP k p hp).2.2⟩
  · apply List.ext_getElem?
    intro k
    rw [List.getElem?_map]
    rcases Nat.lt_or_ge k P.length with hk | hk
    · rw [List.getElem?_eq_getElem hk, Option.map_some]
      exact ((hP k _ (List.getElem?_eq_getElem hk)).1).symm
    · rw [List.getElem?_eq_none hk, List.getElem?_eq_none (by omega)]
      rfl
  · obtain ⟨k, hk, rfl⟩ := List.getElem_of_mem hp
    exact (hP k _ (List.getElem?_eq_getElem hk)).2.1
theorem xcells_one {P : List (Xt × Value)} {w : World} (h : ∀ p ∈ P, SitsA p.1.ss p.2 w) : ∀ u ∈ xcells P, u.oneCell' = true := by
  intro u hu
  unfold xcells at hu
  rw [List.mem_flatMap] at hu
  obtain ⟨p, hp, hd⟩ := hu
  obtain ⟨sa, sn, sc, hv, -⟩ := (h p hp).form
  simp only [xcell, List.mem_cons, List.not_mem_nil, or_false] at hd
  rcases hd with rfl | rfl | rfl | rfl | rfl | rfl | rfl | rfl
  all_goals first | rfl | (rw [hv]; rfl)

/-- Tokens that are new, behind what a call made. -/
def ToksNew (W : World) (T : List Xt) (end_ : Ending) (w' : World) : Prop := ∃ a n cap, end_ = .returned (.slice a n cap) ∧ n = T.length ∧ ToksX T (.slice a n cap) w' ∧ Below W.heap.size W w'

/-- The row, cloned. -/
theorem cloneToks_any {T : List Xt} {a : Option Addr} {n c : Nat} {w : World} (h : ToksX T (.slice a n c) w) (hT : T.length ≤ 500000) :
    Calls Try.prog 73 #[.slice a n c] w (fun e w' => ∃ a' c' P, e = .returned (.slice a' n c') ∧ ClT w T a' n c' P w') := by
  have hn := h.len.1
  obtain ⟨P, hm, hs, hp⟩ := h.pairs
  have hPl : P.length = T.length := by rw [← hm, List.length_map]
  have hl : (xcells P).length = n * 8 := by unfold xcells; rw [flat_len (n := 8) (fun _ => rfl), hn, hPl]
  have hin : ∀ ad, a = some ad → ∀ j u, (xcells P)[j]? = some u → w.cell? (ad.add j) = some u ∧ ad.block < w.heap.size := by
    intro ad ha j u hj
    obtain ⟨p, hpk, hu⟩ := flat_split (n := 8) (by omega) (fun _ => rfl) hj
    obtain ⟨g, o, hg, hlt, hc⟩ := hp _ _ hpk
    rw [ha] at hg
    obtain rfl := Option.some.inj hg
    refine ⟨?_, hlt⟩
    rw [addr_off]
    have := xcell_at hc (j % 8) u hu
    rw [Nat.add_assoc, Nat.div_add_mod'] at this
    exact this
  refine (cloneX_any (fun e => ?_) hl (fun ad ha j u hj => (hin ad ha j u hj).1) (fun ad ha h0 => ?_) (xcells_one hs) (by omega)).mono ?_
  · have hP0 : P = [] := by
      cases P with
      | nil => rfl
      | cons p r =>
        obtain ⟨g, o, hg, -⟩ := hp 0 p rfl
        rw [e] at hg
        cases hg
    subst hP0
    exact ⟨by simp at hPl; omega, rfl⟩
  · obtain ⟨u, hu⟩ : ∃ u, (xcells P)[0]? = some u := ⟨_, List.getElem?_eq_getElem (by rw [hl]; omega)⟩
    exact (hin ad ha 0 u hu).2
  · rintro e w' ⟨a', cap', rfl, hu⟩
    refine ⟨a', cap', P, rfl, hm, hu, fun p hp' => (hs p hp').over hu.2, fun p hp' g hg ad k c' he h0 hb => ?_⟩
    have hlo := (World.ownsRow.lt hu.1 g (by rw [hg]; rfl)).1
    obtain ⟨sa, sn, sc, hv, hsn, -⟩ := (hs p hp').form
    rw [he] at hv
    simp only [Value.slice.injEq] at hv
    obtain ⟨rfl, rfl, rfl⟩ := hv
    have hsit := hs p hp'
    rw [he] at hsit
    obtain ⟨g', o', hg', hlt', -⟩ := hsit.get (k := 0) (s := p.1.ss[0]'(by omega)) (List.getElem?_eq_getElem _)
    obtain rfl := Option.some.inj hg'
    simp only at hb
    omega

end Go.Proofs.Ytobplffailbkbaa
