/-
  Texts of the proof, put together: ReI.
-/
import Derived.Test.YtpnboieppkjfnaaGreatG38
import Derived.Test.YtpnboieppkjfnaaGreatG20

/-
  among, walked: the old lines with others in the part's place.
-/
namespace Go.Proofs.YtpnboieppkjfnaaGreat
open Go.RowKit

theorem srcK_take {B : Nat} {w : World} {e : TypeId} {size n cap k : Nat} {a : Option Addr} {xs : List Value} (h : w.ownsRow B e size (.slice a n cap) n xs) (hk : k ≤ n) : Src w (.slice a k cap) k size (xs.take (k * size)) ∧ ∀ ad, a = some ad → ad.block < w.heap.size := by
  have h0 := h
  obtain ⟨h1, ⟨hv, rfl⟩ | ⟨g, cap', cur, hv, -, hh, hc, hm, hs, ht⟩⟩ := h
  · simp only [Value.slice.injEq] at hv
    obtain ⟨rfl, -, rfl⟩ := hv
    have hk0 : k = 0 := by omega
    subst hk0
    exact ⟨.inl ⟨rfl, rfl, by simp⟩, fun ad h => (by cases h)⟩
  · simp only [Value.slice.injEq] at hv
    obtain ⟨rfl, -, rfl⟩ := hv
    refine ⟨.inr ⟨_, _, rfl, ?_, fun j u hj => ?_⟩, fun ad h => (by cases h; exact row_lt hh)⟩
    · rw [List.length_take, h1]
      exact Nat.min_eq_left (Nat.mul_le_mul_right _ hk)
    · have hju : xs[j]? = some u := by
        rw [List.getElem?_take] at hj
        split at hj
        · exact hj
        · cases hj
      obtain ⟨a', c', hv', -, -, hcell⟩ := row_form h0
      obtain ⟨g', hg', -, hc'⟩ := hcell j u hju
      simp only [Value.slice.injEq] at hv'
      rw [← hv'.1] at hg'
      simp only [Option.some.injEq, Addr.mk.injEq, and_true] at hg'
      rw [addr_add, hg']
      exact hc'

theorem srcK_drop {B : Nat} {w : World} {e : TypeId} {size n cap k : Nat} {a : Option Addr} {xs : List Value} (h : w.ownsRow B e size (.slice a n cap) n xs) (hk : k ≤ n) :
    Src w (.slice (if cap = k then a else a.map (·.add (k * size))) (n - k) (cap - k)) (n - k) size (xs.drop (k * size)) ∧ ∀ ad, (if cap = k then a else a.map (·.add (k * size))) = some ad → ad.block < w.heap.size := by
  obtain ⟨a', c', hv', hle, -, hcell⟩ := row_form h
  simp only [Value.slice.injEq] at hv'
  obtain ⟨rfl, -, rfl⟩ := hv'
  have h1 := h.1
  have hb := (srcK_take h (Nat.le_refl _)).2
  refine ⟨?_, fun ad had => ?_⟩
  · cases a with
    | none =>
      obtain ⟨-, ⟨hv, hn⟩ | ⟨g, cap', cur, hv, -⟩⟩ := h
      · simp only [Value.slice.injEq] at hv
        have hc0 : cap = 0 := hv.2.2
        have hk0 : k = 0 := by omega
        subst hk0 hc0
        refine .inl ⟨?_, by omega, ?_⟩
        · simp
          omega
        · rw [Nat.zero_mul, List.drop_zero]
          exact List.eq_nil_of_length_eq_zero (by rw [h1, hn, Nat.zero_mul])
      · cases hv
    | some ad =>
      have hl : (xs.drop (k * size)).length = (n - k) * size := by rw [List.length_drop, h1, Nat.sub_mul]
      by_cases hc : cap = k
      · rw [if_pos hc]
        have hnk : n = k := by omega
        subst hnk
        refine .inr ⟨_, _, rfl, hl, fun j u hu => ?_⟩
        rw [List.getElem?_eq_none (by rw [hl, Nat.sub_self, Nat.zero_mul]; exact Nat.zero_le _)] at hu
        cases hu
      · rw [if_neg hc]
        refine .inr ⟨_, _, rfl, hl, fun j u hu => ?_⟩
        rw [List.getElem?_drop] at hu
        obtain ⟨g', hg', -, hc'⟩ := hcell _ u hu
        simp only [Option.some.injEq] at hg'
        rw [hg']
        show w.cell? (((⟨g', 0, none⟩ : Addr).add (k * size)).add j) = some u
        rw [addr_add]
        have e : (⟨g', k * size, none⟩ : Addr).add j = ⟨g', k * size + j, none⟩ := by
          unfold Addr.add
          split
          · rename_i h0
            rw [h0]
            rfl
          · rfl
        rw [e]
        exact hc'
  · split at had
    · exact hb ad had
    · cases a with
      | none => cases had
      | some a0 =>
        simp only [Option.map_some, Option.some.injEq] at had
        rw [← had, add_block2]
        exact hb a0 rfl

theorem own_set {B : Nat} {w : World} {e : TypeId} {size n cap g : Nat} {xs : List Value} (h : w.ownsRow B e size (.slice (some ⟨g, 0, none⟩) n cap) n xs) (j : Nat) (u : Value) : (w.setCell ⟨g, j, none⟩ u).ownsRow B e size (.slice (some ⟨g, 0, none⟩) n cap) n (xs.set j u) := by
  obtain ⟨h1, ⟨hv, -⟩ | ⟨g', cap', cur, hv, hg, hh, hc, hm, hs, ht⟩⟩ := h
  · cases hv
  · simp only [Value.slice.injEq, Option.some.injEq, Addr.mk.injEq, and_true, true_and] at hv
    obtain ⟨rfl, rfl⟩ := hv
    refine ⟨by rw [List.length_set]; exact h1, .inr ⟨g, cap, cur.setIfInBounds j u, rfl, hg, heap_setCell_same w g j _ _ _ hh, hc, hm, by rw [Array.size_setIfInBounds]; exact hs, ?_⟩⟩
    rw [Array.toList_setIfInBounds, List.take_set, ht]
theorem up_set {W w : World} {e : TypeId} {size n cap g : Nat} {xs : List Value} (h : Up W e size (.slice (some ⟨g, 0, none⟩) n cap) n xs w) (j : Nat) (u : Value) : Up W e size (.slice (some ⟨g, 0, none⟩) n cap) n (xs.set j u) (w.setCell ⟨g, j, none⟩ u) :=
  ⟨own_set h.1 j u, h.2.setCell (World.ownsRow.lt h.1 g rfl).1 _⟩

theorem sliceK_hi (ad : Option Addr) (m cc n : Nat) (h1 : n ≤ m) (h2 : m ≤ cc) (w : World) : (Instr.slice 60 (.slice ad m cc) none (some (.int .i64 (n : Int))) none).run Tryz.prog w = .ok (.slice ad n cc) w := by
  have a2 : (n : Int) ≤ (cc : Int) := by omega
  have a4 : (0 : Int) ≤ (n : Int) := by omega
  have a5 : Tryz.prog.cellsOf 84 = 2 := by kernel_rfl
  simp [Instr.slice, run_underlying Tryz.underlying60, Instr.sliceBounds, run_sliceBound, Addr.add, *]
theorem sliceK_lo (ad : Option Addr) (m cc n : Nat) (h1 : n ≤ m) (_h2 : m ≤ cc) (w : World) : (Instr.slice 60 (.slice ad m cc) (some (.int .i64 (n : Int))) none none).run Tryz.prog w = .ok (.slice (if cc = n then ad else ad.map (·.add (n * 2))) (m - n) (cc - n)) w := by
  have a2 : (n : Int) ≤ (m : Int) := by omega
  have a4 : (0 : Int) ≤ (n : Int) := by omega
  have a5 : Tryz.prog.cellsOf 84 = 2 := by kernel_rfl
  simp [Instr.slice, run_underlying Tryz.underlying60, Instr.sliceBounds, run_sliceBound, *]

def shiftK (mo : Int) (K : List (Nat × Int)) : List (Nat × Int) := K.map fun k => (k.1, k.2 + mo)
theorem kcells_app (A B : List (Nat × Int)) : kcells (A ++ B) = kcells A ++ kcells B := by simp [kcells]
theorem kcells_len (K : List (Nat × Int)) : (kcells K).length = K.length * 2 := by
  induction K with
  | nil => rfl
  | cons k r ih =>
    have e : kcells (k :: r) = kcell k ++ kcells r := rfl
    rw [e, List.length_append, ih, List.length_cons]
    simp [kcell]
    omega
theorem kcells_take (K : List (Nat × Int)) (n : Nat) (hn : n ≤ K.length) : kcells (K.take n) = (kcells K).take (n * 2) ∧ kcells (K.drop n) = (kcells K).drop (n * 2) := by
  have e : kcells K = kcells (K.take n) ++ kcells (K.drop n) := by rw [← kcells_app, List.take_append_drop]
  have hl : (kcells (K.take n)).length = n * 2 := by rw [kcells_len, List.length_take, Nat.min_eq_left hn]
  rw [e]
  exact ⟨(List.take_left' hl).symm, (List.drop_left' hl).symm⟩
theorem kcells_one {K : List (Nat × Int)} : ∀ u ∈ kcells K, u.oneCell' = true := by
  intro u hu
  unfold kcells at hu
  rw [List.mem_flatMap] at hu
  obtain ⟨d, -, hd⟩ := hu
  simp only [kcell, List.mem_cons, List.not_mem_nil, or_false] at hd
  rcases hd with rfl | rfl <;> rfl
theorem kcells_set (A Z : List (Nat × Int)) (k : Nat × Int) (c : Int) : (kcells (A ++ k :: Z)).set (A.length * 2 + 1) (.int .i64 c) = kcells (A ++ (k.1, c) :: Z) := by
  have e : ∀ k : Nat × Int, kcells (A ++ k :: Z) = kcells A ++ (kcell k ++ kcells Z) := fun k => by simp [kcells]
  rw [e, e, List.set_append_right _ _ (by rw [kcells_len]; omega), kcells_len, show A.length * 2 + 1 - A.length * 2 = 1 from by omega]
  rfl

/-- Lines on their way: so many of them moved. -/
def mixK (A Z : List (Nat × Int)) (mo : Int) (j : Nat) : List (Nat × Int) := A ++ (shiftK mo (Z.take j) ++ Z.drop j)
theorem mixK_len (A Z : List (Nat × Int)) (mo : Int) (j : Nat) : (mixK A Z mo j).length = A.length + Z.length := by
  unfold mixK shiftK
  rw [List.length_append, List.length_append, List.length_map, List.length_take, List.length_drop]
  omega
theorem mixK_get {A Z : List (Nat × Int)} {mo : Int} {j : Nat} {k : Nat × Int} (h : Z[j]? = some k) : (mixK A Z mo j)[A.length + j]? = some k := by
  obtain ⟨hlt, -⟩ := List.getElem?_eq_some_iff.1 h
  unfold mixK shiftK
  rw [List.getElem?_append_right (by omega), show A.length + j - A.length = j from by omega, List.getElem?_append_right (by rw [List.length_map, List.length_take]; omega), List.length_map, List.length_take, Nat.min_eq_left (by omega), Nat.sub_self, List.getElem?_drop]
  exact h
theorem mixK_set {A Z : List (Nat × Int)} {mo : Int} {j : Nat} {k : Nat × Int} (h : Z[j]? = some k) : (kcells (mixK A Z mo j)).set ((A.length + j) * 2 + 1) (.int .i64 (k.2 + mo)) = kcells (mixK A Z mo (j + 1)) := by
  obtain ⟨hlt, rfl⟩ := List.getElem?_eq_some_iff.1 h
  have e1 : mixK A Z mo j = (A ++ shiftK mo (Z.take j)) ++ Z[j] :: Z.drop (j + 1) := by
    unfold mixK
    rw [List.drop_eq_getElem_cons hlt, List.append_assoc]
  have e2 : mixK A Z mo (j + 1) = (A ++ shiftK mo (Z.take j)) ++ (Z[j].1, Z[j].2 + mo) :: Z.drop (j + 1) := by
    unfold mixK shiftK
    rw [List.take_add_one, h, Option.toList_some, List.map_append, List.map_cons, List.map_nil, List.append_assoc, List.append_assoc]
    rfl
  have hl : (A ++ shiftK mo (Z.take j)).length = A.length + j := by
    unfold shiftK
    rw [List.length_append, List.length_map, List.length_take]
    omega
  rw [e1, e2, ← hl]
  exact kcells_set _ _ _ _

def AmPost (w : World) (K : List (Nat × Int)) (e : Ending) (w' : World) : Prop :=
  ∃ (a : Option Addr) (n cap : Nat), e = .returned (.slice a n cap) ∧ n = K.length ∧ Up w 84 2 (.slice a n cap) n (kcells K) w'

set_option maxRecDepth 100000 in
set_option maxHeartbeats 6400000 in
theorem among_any {E : AE} {f n : Nat} {w : World} (h : E.At f n w) (ho : E.Ok) (hfn : f ≤ n) (hn : n ≤ E.Ts.length) (hfew : E.Ts.length ≤ 70000) {pa : Option Addr} {pn pc : Nat} {Kp : List (Nat × Int)} (hpn : pn = Kp.length) (hp : w.ownsRow 0 84 2 (.slice pa pn pc) pn (kcells Kp)) (hpf : pn ≤ 70000) (hKb : ∀ k ∈ E.K, -100000 ≤ k.2 ∧ k.2 ≤ 100000) :
    Calls Tryz.prog 71 #[.pointer (some ⟨E.a, 0, none⟩), .slice pa pn pc] w (AmPost w (E.K.take f ++ Kp ++ shiftK E.mo (E.K.drop n))) := by
  obtain ⟨ha, c0, c3, c4, c5, c6⟩ := h.cells
  have hK := h.len
  obtain ⟨ad, cap, hev, hc1, hc2, -⟩ := krow_form h.row
  have hrow := h.row
  rw [hev] at hrow c0
  unfold maxLen at hc2
  obtain ⟨hmo1, hmo2⟩ := ho.mos
  obtain ⟨s1, b1⟩ := srcK_take hrow (k := f) (by omega)
  obtain ⟨s2, b2⟩ := srcK_drop hrow (k := n) (by omega)
  obtain ⟨s3, b3⟩ := srcK_take hp (Nat.le_refl _)
  rw [← (kcells_take E.K f (by omega)).1] at s1
  rw [← (kcells_take E.K n (by omega)).2] at s2
  rw [List.take_of_length_le (by rw [kcells_len, hpn]; exact Nat.le_refl _)] at s3
  have hsl1 := sliceK_hi ad E.K.length cap f (by omega) hc1
  have hsl2 := sliceK_lo ad E.K.length cap n (by omega) hc1
  obtain ⟨ad2, had2⟩ : ∃ ad2, (if cap = n then ad else ad.map (·.add (n * 2))) = ad2 := ⟨_, rfl⟩
  rw [had2] at s2 b2 hsl2
  have HCC : Hid (∀ (b : Nat) (X : World), Below w.heap.size w X → X.heap[b]? = some (.cells #[.slice ad f cap, .slice pa pn pc, .slice ad2 (E.K.length - n) (cap - n)] 60 (0, 0)) → Calls Tryz.prog 93 #[.slice (some ⟨b, 0, none⟩) 3 3] X (NewRow X 84 2 (f + pn + (E.K.length - n)) (kcells (mixK (E.K.take f ++ Kp) (E.K.drop n) E.mo 0)))) := Lib.hid (by
    intro b X hX hb
    have := concat_any (w := X) (b := b) (S := [(ad, f, cap, kcells (E.K.take f)), (pa, pn, pc, kcells Kp), (ad2, E.K.length - n, cap - n, kcells (E.K.drop n))]) (by simp) (row_lt hb) ?_ ?_ ?_ ?_
    · have e1 : clen [(ad, f, cap, kcells (E.K.take f)), (pa, pn, pc, kcells Kp), (ad2, E.K.length - n, cap - n, kcells (E.K.drop n))] = f + pn + (E.K.length - n) := by
        simp [clen]
        omega
      have e2 : cnews [(ad, f, cap, kcells (E.K.take f)), (pa, pn, pc, kcells Kp), (ad2, E.K.length - n, cap - n, kcells (E.K.drop n))] = kcells (mixK (E.K.take f ++ Kp) (E.K.drop n) E.mo 0) := by
        unfold mixK shiftK
        rw [kcells_app, kcells_app]
        simp [cnews, List.append_assoc]
      rw [e1, e2] at this
      exact this
    · intro k s hs
      rw [Lib.cell_of_heap hb]
      match k, hs with
      | 0, hs => simp at hs; subst hs; rfl
      | 1, hs => simp at hs; subst hs; rfl
      | 2, hs => simp at hs; subst hs; rfl
      | k + 3, hs => simp at hs
    · intro s hs
      simp only [List.mem_cons, List.not_mem_nil, or_false] at hs
      rcases hs with rfl | rfl | rfl
      · exact ⟨s1.below (fun a m c e => b1 a (by simp only [Value.slice.injEq] at e; exact e.1)) hX, fun a ha => Nat.lt_of_lt_of_le (b1 a ha) hX.size⟩
      · exact ⟨s3.below (fun a m c e => b3 a (by simp only [Value.slice.injEq] at e; exact e.1)) hX, fun a ha => Nat.lt_of_lt_of_le (b3 a ha) hX.size⟩
      · exact ⟨s2.below (fun a m c e => b2 a (by simp only [Value.slice.injEq] at e; exact e.1)) hX, fun a ha => Nat.lt_of_lt_of_le (b2 a ha) hX.size⟩
    · intro s hs
      simp only [List.mem_cons, List.not_mem_nil, or_false] at hs
      rcases hs with rfl | rfl | rfl <;> exact kcells_one
    · simp [clen]
      omega)
  have HHA := Lib.hid h
  have HK := Lib.hid hK
  have HKB := Lib.hid hKb
  have HPN := Lib.hid hpn
  have HOM := Lib.hid ho.mf
  have hfI : (f : Int) ≤ 70000 := by omega
  have HS0 : Hid (w.drew.cell? ⟨E.a, 0, none⟩ = some (.slice ad E.K.length cap) ∧ w.drew.cell? ⟨E.a, 5, none⟩ = some (.int .i64 (f : Int)) ∧ w.drew.cell? ⟨E.a, 6, none⟩ = some (.int .i64 (n : Int))) := Lib.hid ⟨c0, c5, c6⟩
  have HBL : Hid (∀ o : Obj, Below w.heap.size w (w.alloc o).drew) := Lib.hid (fun o => ((Below.refl _ _).alloc (Nat.le_refl _) o).drew)
  have HAL : Hid (∀ o : Obj, (w.alloc o).drew.heap[w.heap.size]? = some o) := Lib.hid (fun o => heap_alloc_new w o)
  have HSA : Hid (∀ o : Obj, (w.alloc o).drew.cell? ⟨E.a, 0, none⟩ = some (.slice ad E.K.length cap) ∧ (w.alloc o).drew.cell? ⟨E.a, 5, none⟩ = some (.int .i64 (f : Int)) ∧ (w.alloc o).drew.cell? ⟨E.a, 6, none⟩ = some (.int .i64 (n : Int))) := Lib.hid (fun o => ⟨bcell (HBL.out o) c0 ha, bcell (HBL.out o) c5 ha, bcell (HBL.out o) c6 ha⟩)
  have HCE := Lib.hid (And.intro c0 (And.intro c5 c6))
  clear h ho hrow hev s1 s2 s3 b1 b2 b3 had2 hp hK hKb hpn
  obtain ⟨KK, hKK⟩ : ∃ KK, E.K.take f ++ Kp ++ shiftK E.mo (E.K.drop n) = KK := ⟨_, rfl⟩
  have HKK := Lib.hid hKK
  rw [hKK]
  clear hKK
  go_enter Tryz.func71, Tryz.ntmps71
  go_wp2
  go_region_held3 (fun w' => w'.cell? ⟨E.a, 0, none⟩ = some (.slice ad E.K.length cap) ∧ w'.cell? ⟨E.a, 5, none⟩ = some (.int .i64 (f : Int)) ∧ w'.cell? ⟨E.a, 6, none⟩ = some (.int .i64 (n : Int)))
    (first | exact HS0.out | exact HS1.out | exact HSA.out _)
    (first | (go_at_call 93; (with_reducible refine (HCC.out w.heap.size _ (HBL.out _) (HAL.out _)).mono ?_); rintro e w4 ⟨a1, c1, rfl, hu4⟩; have HU4 := Lib.hid hu4; have HB4 : Hid (Below w.heap.size w w4) := Lib.hid (below_up (HBL.out _) hu4.2); have HS1 : Hid (w4.cell? ⟨E.a, 0, none⟩ = some (.slice ad E.K.length cap) ∧ w4.cell? ⟨E.a, 5, none⟩ = some (.int .i64 (f : Int)) ∧ w4.cell? ⟨E.a, 6, none⟩ = some (.int .i64 (n : Int))) := Lib.hid ⟨bcell HB4.out HCE.out.1 ha, bcell HB4.out HCE.out.2.1 ha, bcell HB4.out HCE.out.2.2 ha⟩; clear hu4))
  have q5 : w4.cell? ⟨E.a, 5, none⟩ = some (.int .i64 (f : Int)) := HS1.out.2.1
  have hpnI : (pn : Int) ≤ 70000 := by omega
  go_wp2
  obtain ⟨A, hA⟩ : ∃ A, E.K.take f ++ Kp = A := ⟨_, rfl⟩
  obtain ⟨Z, hZ⟩ : ∃ Z, E.K.drop n = Z := ⟨_, rfl⟩
  obtain ⟨L, hL⟩ : ∃ L, f + pn + (E.K.length - n) = L := ⟨_, rfl⟩
  have hAl : A.length = f + pn := by
    rw [← hA, List.length_append, List.length_take, HPN.out]
    have := HK.out
    omega
  have hZl : L = f + pn + Z.length := by rw [← hL, ← hZ, List.length_drop]
  have hU5 : Up w 84 2 (.slice a1 L c1) L (kcells (mixK A Z E.mo 0)) w4 := by
    have h := Up.lower HU4.out (HBL.out _)
    rw [hA, hZ, hL] at h
    exact h
  have HZB : Hid (∀ k ∈ Z, -100000 ≤ k.2 ∧ k.2 ≤ 100000) := Lib.hid (fun k hk => HKB.out k (by rw [← hZ] at hk; exact List.mem_of_mem_drop hk))
  have HKF : Hid (KK = mixK A Z E.mo Z.length) := Lib.hid (by rw [← HKK.out, ← hA, ← hZ]; unfold mixK; rw [List.take_length, List.drop_length, List.append_nil])
  have HMF : Hid (∀ k ∈ Z, E.mf = E.mo) := Lib.hid (fun k hk => HOM.out.resolve_right (fun e => by
    have h1 := HK.out
    rw [e] at h1
    have h2 : E.K = [] := List.eq_nil_of_length_eq_zero h1
    rw [← hZ, h2] at hk
    simp at hk))
  have HAL2 := Lib.hid hAl
  have HZL := Lib.hid hZl
  have HU5 := Lib.hid hU5
  have HC3 : Hid (w.cell? ⟨E.a, 3, none⟩ = some (.int .i64 E.mf)) := Lib.hid c3
  have hLf : L ≤ 300000 := by
    have := HK.out
    omega
  obtain ⟨mo, hmo⟩ : ∃ mo, E.mo = mo := ⟨_, rfl⟩
  rw [hmo] at hmo1 hmo2 HU5 HKF HMF
  rw [hL]
  clear hA hZ hL hAl hZl hU5 HU4 HCC HS1 HS0 HSA HCE HKK q5 hmo hsl1 hsl2 c0 c3 c4 c5 c6
  go_loopw [6] (fun s wr => ∃ i : Nat, s = .int .i64 (i : Int) ∧ f + pn ≤ i ∧ i ≤ L ∧ Up w 84 2 (.slice a1 L c1) L (kcells (mixK A Z mo (i - (f + pn)))) wr) (fun s _ => L - (intOf s).toNat)
  case atStart => exact ⟨f + pn, by simp, Nat.le_refl _, by rw [HZL.out]; exact Nat.le_add_right _ _, by rw [Nat.sub_self]; exact HU5.out⟩
  case round =>
    obtain ⟨i, rfl, hi1, hi2, hU⟩ := hrel
    have HU := Lib.hid hU
    have hzl := HZL.out
    by_cases hlt : i < L
    · obtain ⟨k, hk⟩ : ∃ k, Z[i - (f + pn)]? = some k := ⟨_, List.getElem?_eq_getElem (by omega)⟩
      have hkb := HZB.out k (List.mem_of_getElem? hk)
      have hg := mixK_get (A := A) (mo := mo) hk
      rw [HAL2.out, show f + pn + (i - (f + pn)) = i from by omega] at hg
      have hc := (kcells_get hg).2
      obtain ⟨a2, c2, hv, -, -, hcell⟩ := row_form hU.1
      simp only [Value.slice.injEq, true_and] at hv
      obtain ⟨rfl, rfl⟩ := hv
      obtain ⟨rg, rfl, hrg, k1⟩ := hcell _ _ hc
      have z1 : wr.frozen? ⟨rg, i * 2 + 1, none⟩ = false := own_free hU.1 _
      have k3 : wr.cell? ⟨E.a, 3, none⟩ = some (.int .i64 mo) := by
        have h3 := bcell hU.2 HC3.out ha
        rw [HMF.out _ (List.mem_of_getElem? hk)] at h3
        exact h3
      have hset := mixK_set (A := A) (mo := mo) hk
      rw [HAL2.out, show f + pn + (i - (f + pn)) = i from by omega, show i - (f + pn) + 1 = i + 1 - (f + pn) from by omega] at hset
      have HNX : Hid (Up w 84 2 (.slice (some ⟨rg, 0, none⟩) L c1) L (kcells (mixK A Z mo (i + 1 - (f + pn)))) (wr.setCell ⟨rg, i * 2 + 1, none⟩ (.int .i64 (k.2 + mo)))) := Lib.hid (by
        have h := up_set hU (i * 2 + 1) (.int .i64 (k.2 + mo))
        rw [hset] at h
        exact h)
      have hi3 : (i : Int) < (L : Int) := by omega
      have hi0 : (0 : Int) ≤ (i : Int) := by omega
      obtain ⟨kb, hkb2⟩ : ∃ kb, k.2 = kb := ⟨_, rfl⟩
      rw [hkb2] at hkb k1 HNX
      have hwr : IntKind.i64.wrap (kb + mo) = kb + mo := IntWalk.i64_in _ (by omega)
      have HI2 : Hid (f + pn ≤ i + 1) := Lib.hid (by omega)
      clear hU hk hg hc hcell hset hkb2 hzl
      go_wp2
      go_region
      all_goals go_wp2
      all_goals exact ⟨⟨i + 1, by go_num, HI2.out, hlt, Up.over HNX.out (Below.refl _ _).drew⟩, by simp [intOf]; omega⟩
    · have hie : i = L := by omega
      subst hie
      have HF : Hid (AmPost w KK (.returned (.slice a1 i c1)) wr) := Lib.hid ⟨a1, i, c1, rfl, by rw [HKF.out, mixK_len, HAL2.out, ← hzl], by
        have h := hU
        rw [show i - (f + pn) = Z.length from by omega, ← HKF.out] at h
        exact h⟩
      clear hU hzl
      go_wp2
      go_ret
      exact HF.out

end Go.Proofs.YtpnboieppkjfnaaGreat
