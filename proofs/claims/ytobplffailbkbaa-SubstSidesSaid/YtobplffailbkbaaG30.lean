/-
  Texts of the proof, put together: AgColP, AgTxt, AgStr.
-/
import Derived.Test.YtobplffailbkbaaG29
import Derived.IntWalk
import Derived.Test.YtobplffailbkbaaG28

/-
  The project's Collect: pieces of a row of tokens, and steps.
-/
namespace Go.Proofs.Ytobplffailbkbaa
open Go.RowKit

theorem step_ap {ops : Array Oper} {o : Oper} {a : Act} {w : World} {K : Act → World → Prop} {Q : Exit → Act → World → Prop} {E : Prop} (hgd : o.guard = none) (s x : Operand) (t : TypeId)
    (ho : o.op = .call { callee := .builtin .append, args := #[s, x], argTypes := #[t, t] }) (R : Nat → Nat → Nat → World → Prop) (d v : Value) (hs : a.eval s = d) (hx : a.eval x = v)
    (h : ∃ b n c w', (Builtin.append_ #[t, t] o.type #[d, v]).run Try.prog w = .ok (.slice (some ⟨b, 0, none⟩) n c) w' ∧ R b n c w')
    (hK : ∀ b n c w', R b n c w' → K (a.put o.dst (.slice (some ⟨b, 0, none⟩) n c)) w') :
    if Region.wanted o (yielded ops a.tmps) = true then Oper.wp Try.prog o a w K Q else E := by
  have hw : Region.wanted o (yielded ops a.tmps) = true := by simp [Region.wanted, hgd]
  rw [if_pos hw]
  obtain ⟨b, n, c, w', hr, hR⟩ := h
  unfold Oper.wp execOp
  simp only [ho, resolve, invoke, builtin, Sem.run_bind, Sem.run_pure, Result.andThen_ok, List.map_toArray, List.map_cons, List.map_nil, hs, hx, hr]
  exact hK b n c w' hR

/-- All that the push of a row asks, at a world. -/
structure PuL (W : World) (ls : List (List Xt)) (cs : List Xt) (al : Option Addr) (nl cl : Nat) (ac : Option Addr) (nc cc : Nat) (T : List Xt) (b : Option Addr) (n c : Nat) (w : World) : Prop where
  cr : CR W ls cs al nl cl ac nc cc w
  held : HeldIn (NotHot al ac) w (ToksX T (.slice b n c))
  nil : b = none → c = 0
  small : nl ≤ 999999
theorem PuL.app {W : World} {ls : List (List Xt)} {cs : List Xt} {al : Option Addr} {nl cl : Nat} {ac : Option Addr} {nc cc : Nat} {T : List Xt} {b : Option Addr} {n c : Nat} {w : World} {ty : TypeId} (h : Hid (PuL W ls cs al nl cl ac nc cc T b n c w)) :
    ∃ b' n' cap w', (Builtin.append_ #[34, 34] ty #[.slice al nl cl, .slice (some ⟨w.heap.size, 0, none⟩) 1 1]).run Try.prog (w.alloc (.cells #[.slice b n c] 28)) = .ok (.slice (some ⟨b', 0, none⟩) n' cap) w' ∧ (n' = nl + 1 ∧ CR W (ls ++ [T]) cs (some ⟨b', 0, none⟩) n' cap ac nc cc w') := by
  obtain ⟨b', n', cap, w', hr, hn, hC, -⟩ := CR.pushL (ty := ty) (h.out.cr.over ((Below.refl _ _).alloc (Nat.le_refl _) _)) (h.out.held.over (StillB.of_below ((Below.refl _ _).alloc (Nat.le_refl _) _))) h.out.nil (src_one w (.slice b n c) 28) h.out.small
  exact ⟨b', n', cap, w', hr, hn, hC⟩

set_option maxRecDepth 100000 in
/-- l[a+1:b] of tokens. -/
theorem cut_run (g o n cap a b : Nat) (h1 : a + 1 ≤ b) (h2 : b < n) (h3 : n ≤ cap) (w : World) : (Instr.slice 28 (.slice (some ⟨g, o, none⟩) n cap) (some (.int .i64 ((a : Int) + 1))) (some (.int .i64 (b : Int))) none).run Try.prog w = .ok (.slice (some ⟨g, o + (a + 1) * 8, none⟩) (b - (a + 1)) (cap - (a + 1))) w := by
  have a0 : (0 : Int) ≤ (a : Int) + 1 := by omega
  have a1 : (a : Int) + 1 ≤ (b : Int) := by omega
  have a2 : (b : Int) ≤ (cap : Int) := by omega
  have a4 : (0 : Int) ≤ (b : Int) := by omega
  have a5 : Try.prog.cellsOf 26 = 8 := by kernel_rfl
  have a6 : ((a : Int) + 1).toNat = a + 1 := by omega
  have hc' : (cap == a + 1) = false := by simp; omega
  simp [Instr.slice, run_underlying Try.underlying28, Instr.sliceBounds, run_sliceBound, Addr.add, *]
  try omega

theorem seg_toks {T : List Xt} {g o n cap : Nat} {w : World} (h : ToksX T (.slice (some ⟨g, o, none⟩) n cap) w) {a b : Nat} (h1 : a + 1 ≤ b) (h2 : b < n) : ToksX (segL T a b) (.slice (some ⟨g, o + (a + 1) * 8, none⟩) (b - (a + 1)) (cap - (a + 1))) w := by
  obtain ⟨hn, hc1, hc2⟩ := h.len
  have hl : (segL T a b).length = b - (a + 1) := by
    unfold segL
    rw [List.length_take, List.length_drop]
    omega
  refine ⟨some ⟨g, o + (a + 1) * 8, none⟩, cap - (a + 1), by rw [hl], by rw [hl]; omega, by omega, fun k t ht => ?_⟩
  have hk := (List.getElem?_eq_some_iff.1 ht).1
  unfold segL at ht
  rw [List.getElem?_take_of_lt (by omega), List.getElem?_drop] at ht
  obtain ⟨g', o2, sa, sn, sc, ha, hg, -, hx, hs⟩ := h.get ht
  obtain ⟨rfl, rfl⟩ : g = g' ∧ o = o2 := by simpa using ha
  refine ⟨g, o + (a + 1) * 8, rfl, hg, _, ?_, hs⟩
  rw [show o + (a + 1) * 8 + k * 8 = o + (a + 1 + k) * 8 from by omega]
  exact hx
theorem seg_in {T : List Xt} {a b : Nat} {t : Xt} (h : t ∈ segL T a b) : t ∈ T := List.mem_of_mem_drop (List.mem_of_mem_take h)
theorem seg_le (T : List Xt) (a b : Nat) : (segL T a b).length ≤ T.length := by
  unfold segL
  rw [List.length_take, List.length_drop]
  omega

theorem rises_at {n : Nat} {M : List Nat} (hR : Rises n M) : ∀ (k a : Nat), M[k]? = some a → k ≤ a
  | 0, a, _ => Nat.zero_le _
  | k + 1, a, h => by
    obtain ⟨b, hb⟩ : ∃ b, M[k]? = some b := ⟨_, List.getElem?_eq_getElem (by have := (List.getElem?_eq_some_iff.1 h).1; omega)⟩
    have := rises_at hR k b hb
    have := (hR k b a hb h).1
    omega
theorem rises_len {n : Nat} {M : List Nat} (hR : Rises n M) (hB : ∀ x ∈ M, x < n) : M.length ≤ n := by
  rcases Nat.eq_zero_or_pos M.length with h | h
  · omega
  · obtain ⟨a, ha⟩ : ∃ a, M[M.length - 1]? = some a := ⟨_, List.getElem?_eq_getElem (by omega)⟩
    have := rises_at hR _ _ ha
    have := hB a (List.mem_of_getElem? ha)
    omega

theorem nvals_get {M : List Nat} {k a : Nat} (h : M[k]? = some a) : (nvals M)[k]? = some (a : Int) := by
  unfold nvals
  rw [List.getElem?_map, h]
  rfl
theorem take_next {α : Type} {l : List α} {k : Nat} {a : α} (h : l[k]? = some a) : l.take (k + 1) = l.take k ++ [a] := by
  rw [List.take_add_one, h]
  rfl

set_option maxRecDepth 100000 in
/-- marks[1:last]. -/
theorem mid_run (g o n cap l : Nat) (h1 : 1 ≤ l) (h2 : l < n) (h3 : n ≤ cap) (w : World) : (Instr.slice 42 (.slice (some ⟨g, o, none⟩) n cap) (some (.int .i64 1)) (some (.int .i64 (l : Int))) none).run Try.prog w = .ok (.slice (some ⟨g, o + 1, none⟩) (l - 1) (cap - 1)) w := by
  have a1 : (1 : Int) ≤ (l : Int) := by omega
  have a2 : (l : Int) ≤ (cap : Int) := by omega
  have a4 : (0 : Int) ≤ (l : Int) := by omega
  have a5 : Try.prog.cellsOf 3 = 1 := by kernel_rfl
  have hc' : (cap == 1) = false := by simp; omega
  simp [Instr.slice, run_underlying Try.underlying42, Instr.sliceBounds, run_sliceBound, Addr.add, *]
  omega

end Go.Proofs.Ytobplffailbkbaa

/-
  Tokens as a text: the project's Text, walked.
-/
namespace Go.Proofs.Ytobplffailbkbaa
open Go.RowKit

theorem text_next {T : List Xt} {k : Nat} {t : Xt} (ht : T[k]? = some t) : textT (T.take (k + 1)) = textT (T.take k) ++ (if decide (0 < k) && t.sp then 32 :: t.x.data.toList else t.x.data.toList) := by
  have hl := (List.getElem?_eq_some_iff.1 ht).1
  rw [take_next ht, textT_snoc, show (T.take k).length = k from by rw [List.length_take]; omega]
theorem text_fit {T : List Xt} {k : Nat} {t : Xt} (ht : T[k]? = some t) (hz : (textT T).length ≤ 1000000) : t.x.size ≤ 1000000 := by
  have h := textT_le T (k + 1)
  rw [text_next ht, List.length_append] at h
  rw [← bytes_len]
  split at h
  · rw [List.length_cons] at h; omega
  · omega

def LtRel (w : World) (T : List Xt) (n : Nat) (t8 : Value) (wr : World) : Prop :=
  ∃ k : Nat, t8 = .int .i64 (k : Int) ∧ k ≤ n ∧ BldK w.heap.size (textT (T.take k)) wr ∧ Below w.heap.size w wr
/-- The token's box, beside the Builder. -/
def LtMid (w : World) (t : Xt) (sv : Value) (l : List UInt8) (b : Nat) (X : World) : Prop := BldK w.heap.size l X ∧ Below w.heap.size w X ∧ b ≠ w.heap.size ∧ X.heap[b]? = some (tokObj (t, sv))
theorem LtMid.text {w : World} {t : Xt} {sv : Value} {l : List UInt8} {b : Nat} {X : World} (h : LtMid w t sv l b X) : X.cell? ⟨b, 1, none⟩ = some (.string t.x) ∧ X.cell? ⟨b, 2, none⟩ = some (.bool t.sp) := by
  have hb := h.2.2.2
  unfold tokObj at hb
  exact ⟨by rw [Lib.cell_of_heap hb]; rfl, by rw [Lib.cell_of_heap hb]; rfl⟩
theorem LtMid.kept {w : World} {t : Xt} {sv : Value} {l l' : List UInt8} {b : Nat} {X Y : World} (h : LtMid w t sv l b X) (hb : BldK w.heap.size l' Y) (hk : KeptB w.heap.size X Y) : LtMid w t sv l' b Y :=
  ⟨hb, h.2.1.trans hk.1, h.2.2.1, hk.box (by have hx := h.2.2.2; unfold tokObj at hx; exact hx) h.2.2.1⟩
theorem LtMid.new {w wr : World} (t : Xt) (sv : Value) {l : List UInt8} (hB : BldK w.heap.size l wr) (hW : Below w.heap.size w wr) : LtMid w t sv l wr.heap.size (wr.alloc (.cells #[.int .i64 t.k, .string t.x, .bool t.sp, .string t.g, .int .i64 t.f, .int .i64 t.t, .bool t.d, sv] 26)) :=
  ⟨bldk_over hB ((Below.refl _ _).alloc (Nat.le_refl _) _), hW.alloc hW.size _, by have := bldk_lt hB; omega, heap_alloc_new _ _⟩

set_option maxRecDepth 100000 in
set_option maxHeartbeats 3200000 in
theorem ltext_any {T : List Xt} {v : Value} {w : World} (h : ToksX T v w) (hz : (textT T).length ≤ 1000000) : Calls Try.prog 86 #[v] w (StrNew ⟨(textT T).toArray⟩ w) := by
  obtain ⟨a, n, cap, rfl⟩ := h.form
  obtain ⟨hn, hc1, hc2⟩ := h.len
  unfold maxLen at hc2
  have HN := Lib.hid hn
  have HX := Lib.hid h
  have HZ := Lib.hid hz
  clear h hn hz
  go_enter Try.func86, Try.ntmps86
  go_wp2
  go_loopw [8] (LtRel w T n) (fun i _ => n - (intOf i).toNat)
  case atStart => exact ⟨0, rfl, Nat.zero_le _, bldk_new w, (Below.refl _ _).alloc (Nat.le_refl _) _⟩
  case round =>
    obtain ⟨k, rfl, hk, hB, hW⟩ := hrel
    have HB := Lib.hid hB
    have HW := Lib.hid hW
    clear hB hW
    by_cases hlt : k < n
    · obtain ⟨t, ht⟩ : ∃ t, T[k]? = some t := ⟨_, List.getElem?_eq_getElem (by rw [← HN.out]; exact hlt)⟩
      obtain ⟨g, o, sa, sn, sc, rfl, hg, -, hx, -⟩ := HX.out.get ht
      obtain ⟨y0, y1, y2, y3, y4, y5, y6, y7⟩ := hx.next HW.out hg
      have HTX := Lib.hid (text_next ht)
      have hxs := text_fit ht HZ.out
      have HLE : Hid ((textT (T.take k)).length ≤ 1000000) := Lib.hid (Nat.le_trans (textT_le T k) HZ.out)
      have hkI : (k : Int) < (n : Int) := by omega
      have hk0 : (0 : Int) ≤ (k : Int) := by omega
      have HMD : Hid (LtMid w t (.slice sa sn sc) (textT (T.take k)) wr.heap.size (wr.alloc (.cells #[.int .i64 t.k, .string t.x, .bool t.sp, .string t.g, .int .i64 t.f, .int .i64 t.t, .bool t.d, .slice sa sn sc] 26))) := Lib.hid (LtMid.new t _ HB.out HW.out)
      obtain ⟨L, hL⟩ : ∃ L, textT (T.take k) = L := ⟨_, rfl⟩
      rw [hL] at HTX HLE HMD
      clear ht hx hL HB
      by_cases hsk : t.sp = true ∧ 0 < k
      · obtain ⟨hsp, h0⟩ := hsk
        have HTX2 : Hid (textT (T.take (k + 1)) = (L ++ [32]) ++ t.x.data.toList) := Lib.hid (by rw [HTX.out, hsp, decide_eq_true h0]; simp)
        have h0I : (0 : Int) < (k : Int) := by omega
        rw [hsp] at y2
        have HM2 : Hid (LtMid w t (.slice sa sn sc) L wr.heap.size (wr.alloc (.cells #[.int .i64 t.k, .string t.x, .bool true, .string t.g, .int .i64 t.f, .int .i64 t.t, .bool t.d, .slice sa sn sc] 26))) := Lib.hid (by have h := HMD.out; rw [hsp] at h; exact h)
        have HLL : Hid ((L ++ [32]).length + t.x.size ≤ 10000000) := Lib.hid (by have := HLE.out; simp only [List.length_append, List.length_cons, List.length_nil]; omega)
        clear hsp HTX HMD h0
        go_wp2_with (first
          | (go_at_call 93; (refine (blk_byte (n := 32) HM2.out.1 32 (by decide) (by have := HLE.out; omega) HM2.out.2.1.size).mono ?_); rintro e w2 ⟨rfl, h2, b2⟩; have HM3 := Lib.hid (HM2.out.kept h2 b2); obtain ⟨z1, z2⟩ := HM3.out.text; clear h2 b2)
          | (go_at_call 95; (refine (blk_text HM3.out.1 t.x HLL.out HM3.out.2.1.size).mono ?_); rintro e w4 ⟨rfl, h4, b4⟩; have HM4 := Lib.hid (HM3.out.kept h4 b4); clear h4 b4))
        go_roundw
        case rel => exact ⟨k + 1, by go_num, hlt, by rw [HTX2.out]; exact HM4.out.1, HM4.out.2.1⟩
        case measure => simp [intOf]; omega
      · have HTX2 : Hid (textT (T.take (k + 1)) = L ++ t.x.data.toList) := Lib.hid (by
          rw [HTX.out]
          have : (decide (0 < k) && t.sp) = false := by
            cases h : t.sp with
            | false => simp
            | true => rw [decide_eq_false (fun h0 => hsk ⟨h, h0⟩)]; rfl
          rw [this]
          rfl)
        have HWY : Hid (t.sp = false ∨ (t.sp = true ∧ ¬ (0 : Int) < (k : Int))) := Lib.hid (by
          cases h : t.sp with
          | false => exact .inl rfl
          | true => exact .inr ⟨rfl, fun h0 => hsk ⟨h, by omega⟩⟩)
        clear hsk HTX
        rcases HWY.out with hsp | ⟨hsp, h0⟩
        all_goals (
          rw [hsp] at y2
          have HM3 := HMD
          rw [hsp] at HM3
          clear HWY hsp HMD
          go_wp2_with (go_at_call 95; (refine (blk_text HM3.out.1 t.x (by have := HLE.out; omega) HM3.out.2.1.size).mono ?_); rintro e w4 ⟨rfl, h4, b4⟩; have HM4 := Lib.hid (HM3.out.kept h4 b4); clear h4 b4)
          go_roundw
          case rel => exact ⟨k + 1, by go_num, hlt, by rw [HTX2.out]; exact HM4.out.1, HM4.out.2.1⟩
          case measure => simp [intOf]; omega)
    · have hkI : ¬ (k : Int) < (n : Int) := by omega
      have HE : Hid (T.take k = T) := Lib.hid (List.take_of_length_le (by have := HN.out; omega))
      go_wp2_with (go_at_call 94; (with_reducible refine (blk_str HB.out HW.out.size).mono ?_); rintro e w4 ⟨rfl, b4⟩; have HW4 := Lib.hid (HW.out.trans b4); clear b4)
      go_ret
      rw [HE.out]
      exact ⟨rfl, HW4.out⟩

end Go.Proofs.Ytobplffailbkbaa

/-
  Tokens as a string: the project's Stringize, walked.
-/
namespace Go.Proofs.Ytobplffailbkbaa
open Go.RowKit

def escX (t : Xt) : Xt := if t.k = 4 ∨ t.k = 3 then { t with x := ⟨(quoL t.x.data.toList).toArray⟩ } else t
theorem esc_sp (t : Xt) : (escX t).sp = t.sp := by unfold escX; split <;> rfl
theorem esc_ss (t : Xt) : (escX t).ss = t.ss := by unfold escX; split <;> rfl
theorem esc_x (t : Xt) : (escX t).x.data.toList = strL1 t := by unfold escX strL1; split <;> simp
theorem esc_more : ∀ T : List Xt, moreT (T.map escX) = strL2 T
  | [] => rfl
  | t :: r => by
    show (if (escX t).sp then 32 :: (escX t).x.data.toList else (escX t).x.data.toList) ++ moreT (r.map escX) = (if t.sp then 32 :: strL1 t else strL1 t) ++ strL2 r
    rw [esc_more r, esc_sp, esc_x]
theorem string_is (T : List Xt) : stringL T = 34 :: (textT (T.map escX) ++ [34]) := by
  cases T with
  | nil => rfl
  | cons t r =>
    show 34 :: (strL1 t ++ strL2 r ++ [34]) = 34 :: ((escX t).x.data.toList ++ moreT (r.map escX) ++ [34])
    rw [esc_more, esc_x]

theorem xcells_set1 (t : Xt) (sv : Value) (x : ByteArray) : ∀ (P : List (Xt × Value)) (k : Nat), P[k]? = some (t, sv) → (xcells P).set (k * 8 + 1) (.string x) = xcells (P.set k ({ t with x := x }, sv))
  | [], k, h => by simp at h
  | p :: P, 0, h => by
    simp only [List.getElem?_cons_zero, Option.some.injEq] at h
    subst h
    rfl
  | p :: P, k + 1, h => by
    have ih := xcells_set1 t sv x P k (by simpa using h)
    have e : xcells (p :: P) = xcell p ++ xcells P := rfl
    rw [e, List.set_append_right _ _ (by simp [xcell]; omega)]
    rw [show (k + 1) * 8 + 1 - (xcell p).length = k * 8 + 1 from by simp [xcell]; omega, ih]
    rfl
theorem ClT.putx {W : World} {T : List Xt} {n c g k : Nat} {P : List (Xt × Value)} {w : World} {t : Xt} {sv : Value} (h : ClT W T (some ⟨g, 0, none⟩) n c P w) (hk : P[k]? = some (t, sv)) (x : ByteArray) :
    ClT W (T.set k { t with x := x }) (some ⟨g, 0, none⟩) n c (P.set k ({ t with x := x }, sv)) (w.setCell ⟨g, k * 8 + 1, none⟩ (.string x)) := by
  have hmem := List.mem_of_getElem? hk
  refine ⟨by rw [List.map_set, h.map], ?_, fun p hp => ?_, fun p hp g' hg' => ?_⟩
  · rw [← xcells_set1 t sv x P k hk]
    exact up_setX h.up _ _
  · rcases List.mem_or_eq_of_mem_set hp with hp | rfl
    · exact (h.sits p hp).set (h.off p hp g rfl) _ _
    · exact (h.sits (t, sv) hmem).set (h.off (t, sv) hmem g rfl) _ _
  · rcases List.mem_or_eq_of_mem_set hp with hp | rfl
    · exact h.off p hp g' hg'
    · exact h.off (t, sv) hmem g' hg'
theorem esc_next {T : List Xt} {k : Nat} {t : Xt} (ht : T[k]? = some t) : ((T.take k).map escX ++ T.drop k).set k (escX t) = (T.take (k + 1)).map escX ++ T.drop (k + 1) := by
  have hl := (List.getElem?_eq_some_iff.1 ht).1
  have hk : ((T.take k).map escX).length = k := by rw [List.length_map, List.length_take]; omega
  rw [List.set_append_right _ _ (by omega), hk, Nat.sub_self, take_next ht, List.map_append, drop_at ht]
  simp
theorem esc_same {T : List Xt} {k : Nat} {t : Xt} (ht : T[k]? = some t) (he : ¬ (t.k = 4 ∨ t.k = 3)) : (T.take k).map escX ++ T.drop k = (T.take (k + 1)).map escX ++ T.drop (k + 1) := by
  rw [take_next ht, List.map_append, drop_at ht]
  have : escX t = t := by unfold escX; rw [if_neg he]
  simp [this]

def PsRel (w : World) (T : List Xt) (a : Option Addr) (n c : Nat) (t9 : Value) (wr : World) : Prop :=
  ∃ (k : Nat) (P : List (Xt × Value)), t9 = .int .i64 (k : Int) ∧ k ≤ n ∧ ClT w ((T.take k).map escX ++ T.drop k) a n c P wr

theorem str_fit1 (X : ByteArray) (h : X.size ≤ 2000000) : (1 + X.size > 9223372036854775807) = False := by simp; omega
theorem str_fit2 (X : ByteArray) (h : X.size ≤ 2000000) : (1 + X.size + 1 > 9223372036854775807) = False := by simp; omega
theorem str_of {X : ByteArray} {T : List Xt} (h : X = ⟨(textT (T.map escX)).toArray⟩) : (⟨#[34]⟩ ++ X ++ ⟨#[34]⟩ : ByteArray) = ⟨(stringL T).toArray⟩ := by
  subst h
  rw [string_is]
  apply ByteArray.ext
  simp

set_option maxRecDepth 100000 in
set_option maxHeartbeats 3200000 in
theorem pstr_any {T : List Xt} {v : Value} {w : World} (h : ToksX T v w) (hT : T.length ≤ 500000) (hz : (textT (T.map escX)).length ≤ 1000000) (hx : ∀ t ∈ T, t.x.size ≤ 1000000) : Calls Try.prog 71 #[v] w (StrNew ⟨(stringL T).toArray⟩ w) := by
  obtain ⟨a, n, cap, rfl⟩ := h.form
  obtain ⟨hn, -, -⟩ := h.len
  have HCL := Lib.hid (cloneToks_any h hT)
  have HN := Lib.hid hn
  have HZ := Lib.hid hz
  have HX := Lib.hid hx
  have hn5 : n ≤ 500000 := by omega
  clear h hn hT hz hx
  go_enter Try.func71, Try.ntmps71
  go_wp2_with (go_at_call 73; (with_reducible refine HCL.out.mono ?_); rintro e w3 ⟨a3, c3, P0, rfl, h3⟩; have H3 := Lib.hid h3; clear h3)
  clear HCL
  go_loopw [9] (PsRel w T a3 n c3) (fun i _ => n - (intOf i).toNat)
  case atStart => exact ⟨0, P0, rfl, Nat.zero_le _, H3.out⟩
  case round =>
    obtain ⟨k, P, rfl, hk, hC⟩ := hrel
    have HC := Lib.hid hC
    clear hC
    by_cases hlt : k < n
    · obtain ⟨t, ht⟩ : ∃ t, T[k]? = some t := ⟨_, List.getElem?_eq_getElem (by rw [← HN.out]; exact hlt)⟩
      have htk : ((T.take k).map escX ++ T.drop k)[k]? = some t := by
        have hl : ((T.take k).map escX).length = k := by rw [List.length_map, List.length_take, ← HN.out]; omega
        rw [List.getElem?_append_right (by omega), hl, Nat.sub_self, drop_at ht]
        rfl
      obtain ⟨sv, hp⟩ : ∃ sv, P[k]? = some (t, sv) := by
        have h := htk
        rw [← HC.out.map, List.getElem?_map, Option.map_eq_some_iff] at h
        obtain ⟨p, hp, rfl⟩ := h
        exact ⟨p.2, hp⟩
      obtain ⟨sa, sn, sc, hv, -⟩ := (HC.out.sits _ (List.mem_of_getElem? hp)).form
      simp only at hv
      subst hv
      obtain ⟨a4, c4, hv4, hc1, hc2, hcell⟩ := row_form HC.out.up.1
      simp only [Value.slice.injEq, true_and] at hv4
      obtain ⟨rfl, rfl⟩ := hv4
      have hg := fun j (hj : j < 8) => flat_get (f := xcell) (n := 8) (fun _ => rfl) P k _ hp j hj
      obtain ⟨rg, rfl, hrg, k0⟩ := hcell (k * 8 + 0) _ ((hg 0 (by omega)).trans rfl)
      have hkc : ∀ j u, j < 8 → (xcell (t, .slice sa sn sc))[j]? = some u → wr.cell? ⟨rg, k * 8 + j, none⟩ = some u := by
        intro j u hj hu
        obtain ⟨g', hg', -, e⟩ := hcell (k * 8 + j) u ((hg j hj).trans hu)
        simp only [Option.some.injEq, Addr.mk.injEq, and_true] at hg'
        rw [hg']
        exact e
      have e0 : wr.cell? ⟨rg, k * 8, none⟩ = some (.int .i64 t.k) := k0
      have e1 : wr.cell? ⟨rg, k * 8 + 1, none⟩ = some (.string t.x) := hkc 1 _ (by omega) rfl
      have e2 : wr.cell? ⟨rg, k * 8 + 2, none⟩ = some (.bool t.sp) := hkc 2 _ (by omega) rfl
      have e3 : wr.cell? ⟨rg, k * 8 + 3, none⟩ = some (.string t.g) := hkc 3 _ (by omega) rfl
      have e4 : wr.cell? ⟨rg, k * 8 + 4, none⟩ = some (.int .i64 t.f) := hkc 4 _ (by omega) rfl
      have e5 : wr.cell? ⟨rg, k * 8 + 5, none⟩ = some (.int .i64 t.t) := hkc 5 _ (by omega) rfl
      have e6 : wr.cell? ⟨rg, k * 8 + 6, none⟩ = some (.bool t.d) := hkc 6 _ (by omega) rfl
      have e7 : wr.cell? ⟨rg, k * 8 + 7, none⟩ = some (.slice sa sn sc) := hkc 7 _ (by omega) rfl
      have HE1 := Lib.hid e1
      have HFZ := Lib.hid (fun (X : World) (hX : Below wr.heap.size wr X) => own_freeX (HC.out.over hX).up.1)
      have hkI : (k : Int) < (n : Int) := by omega
      have hk0 : (0 : Int) ≤ (k : Int) := by omega
      have HP := Lib.hid hp
      have HRG := Lib.hid hrg
      have HES : Hid (∀ X : World, Calls Try.prog 85 #[.string t.x] X (StrNew ⟨(quoL t.x.data.toList).toArray⟩ X)) := Lib.hid (fun X => escaped_any t.x X (HX.out t (List.mem_of_getElem? ht)))
      have HNX : Hid (∀ X : World, Below wr.heap.size wr X → (t.k = 4 ∨ t.k = 3) → ClT w ((T.take (k + 1)).map escX ++ T.drop (k + 1)) (some ⟨rg, 0, none⟩) n c3 (P.set k ({ t with x := ⟨(quoL t.x.data.toList).toArray⟩ }, .slice sa sn sc)) (X.setCell ⟨rg, k * 8 + 1, none⟩ (.string ⟨(quoL t.x.data.toList).toArray⟩))) := Lib.hid (fun X hX he => by
        have h := (HC.out.over hX).putx hp ⟨(quoL t.x.data.toList).toArray⟩
        have e : ({ t with x := ⟨(quoL t.x.data.toList).toArray⟩ } : Xt) = escX t := by unfold escX; rw [if_pos he]
        rw [e, esc_next ht] at h
        rw [e]
        exact h)
      have HSM : Hid (¬ (t.k = 4 ∨ t.k = 3) → (T.take k).map escX ++ T.drop k = (T.take (k + 1)).map escX ++ T.drop (k + 1)) := Lib.hid (esc_same ht)
      unfold maxLen at hc2
      clear hcell hg k0 hkc hp hrg htk ht
      have HWY : Hid ((((t.k) == 4) = true ∧ t.k = 4) ∨ (((t.k) == 4) = false ∧ ((t.k) == 3) = true ∧ t.k = 3) ∨ (((t.k) == 4) = false ∧ ((t.k) == 3) = false ∧ ¬ (t.k = 4 ∨ t.k = 3))) := Lib.hid (by
        by_cases h4 : t.k = 4
        · exact .inl ⟨by simp [h4], h4⟩
        · by_cases h3 : t.k = 3
          · exact .inr (.inl ⟨by simp [h4], by simp [h3], h3⟩)
          · exact .inr (.inr ⟨by simp [h4], by simp [h3], by intro h; rcases h with h | h <;> contradiction⟩))
      rcases HWY.out with ⟨b4, hk4⟩ | ⟨b4, b3, hk3⟩ | ⟨b4, b3, hkn⟩
      · have HKK : Hid (t.k = 4 ∨ t.k = 3) := Lib.hid (.inl hk4)
        clear hk4 HWY
        go_wp2_with (go_at_call 85; (with_reducible refine (HES.out _).mono ?_); rintro e w4 ⟨rfl, hb4⟩; have HB4 : Hid (Below wr.heap.size wr w4) := Lib.hid (below_up ((Below.refl _ _).alloc (Nat.le_refl _) _) hb4); have q1 := bcell HB4.out HE1.out HRG.out; have q2 := HFZ.out _ HB4.out (k * 8 + 1); clear hb4 e0 e1 e2 e3 e4 e5 e6 e7)
        go_roundw
        case rel => exact ⟨k + 1, _, by go_num, hlt, HNX.out _ HB4.out HKK.out⟩
        case measure => simp [intOf]; omega
      · have HKK : Hid (t.k = 4 ∨ t.k = 3) := Lib.hid (.inr hk3)
        clear hk3 HWY
        go_wp2_with (go_at_call 85; (with_reducible refine (HES.out _).mono ?_); rintro e w4 ⟨rfl, hb4⟩; have HB4 : Hid (Below wr.heap.size wr w4) := Lib.hid (below_up ((Below.refl _ _).alloc (Nat.le_refl _) _) hb4); have q1 := bcell HB4.out HE1.out HRG.out; have q2 := HFZ.out _ HB4.out (k * 8 + 1); clear hb4 e0 e1 e2 e3 e4 e5 e6 e7)
        go_roundw
        case rel => exact ⟨k + 1, _, by go_num, hlt, HNX.out _ HB4.out HKK.out⟩
        case measure => simp [intOf]; omega
      · have HEQ := Lib.hid (HSM.out hkn)
        clear hkn HWY
        go_wp2
        go_roundw
        case rel => exact ⟨k + 1, P, by go_num, hlt, by rw [← HEQ.out]; exact HC.out.over ((Below.refl _ _).alloc (Nat.le_refl _) _)⟩
        case measure => simp [intOf]; omega
    · have hkI : ¬ (k : Int) < (n : Int) := by omega
      have HCE : Hid (ClT w (T.map escX) a3 n c3 P wr) := Lib.hid (by
        have h := HC.out
        rw [List.take_of_length_le (by have := HN.out; omega), List.drop_of_length_le (by have := HN.out; omega), List.append_nil] at h
        exact h)
      obtain ⟨X, hX⟩ : ∃ X : ByteArray, (⟨(textT (T.map escX)).toArray⟩ : ByteArray) = X := ⟨_, rfl⟩
      have HTX : Hid (Calls Try.prog 86 #[.slice a3 n c3] wr (StrNew X wr)) := Lib.hid (hX ▸ ltext_any HCE.out.toks HZ.out)
      have hxs : X.size ≤ 2000000 := by
        rw [← hX]
        show (textT (T.map escX)).toArray.size ≤ _
        rw [List.size_toArray]
        have := HZ.out
        omega
      have HST : Hid ((⟨#[34]⟩ ++ X ++ ⟨#[34]⟩ : ByteArray) = ⟨(stringL T).toArray⟩) := Lib.hid (str_of hX.symm)
      have q1 := str_fit1 X hxs
      have q2 := str_fit2 X hxs
      clear hX hxs
      go_wp2_with (go_at_call 86; (with_reducible refine HTX.out.mono ?_); rintro e w5 ⟨rfl, b5⟩; have HB5 := Lib.hid b5; clear b5)
      go_ret
      exact ⟨by rw [HST.out]; rfl, below_up HCE.out.up.2 HB5.out⟩

end Go.Proofs.Ytobplffailbkbaa
