/-
  Chars of the project, in memory.
-/
import Derived.Test.YtpnboieppkjfnaaTake
import Derived.Test.YtpnboieppkjfnaaRChars
namespace Go.Proofs.Ytpnboieppkjfnaa
open Go.RowKit

theorem Try.infoPRune : (Try.prog.info? 80).map (fun i => (i.zero, i.size, i.bytes)) = some (some (.agg #[.int .u8 0, .int .i64 0, .int .i64 0]), 3, 24) := by kernel_rfl

/-- A row of the project's characters. -/
def CRow (W : World) (v : Value) (L : List Rn) (w : World) : Prop := Up W 80 3 v L.length (rcells L) w
def CRowPost (W : World) (L : List Rn) (e : Ending) (w' : World) : Prop :=
  ∃ (a : Option Addr) (n cap : Nat), n = L.length ∧ e = .returned (.slice a n cap) ∧ CRow W (.slice a n cap) L w'

theorem CRow.push {W : World} {v : Value} {L : List Rn} {w : World} {x y z : Int} (r : Rn) (h : Up W 80 3 v (L.length + 1) (rcells L ++ [.int .u8 x, .int .i64 y, .int .i64 z]) w) (hx : x = (r.c.toNat : Int)) (hy : y = (r.f : Int)) (hz : z = (r.t : Int)) : CRow W v (L ++ [r]) w := by
  rw [rcells_push hx hy hz] at h
  unfold CRow
  rw [List.length_append]
  exact h

theorem crow_cells {W : World} {v : Value} {L : List Rn} {w : World} (h : CRow W v L w) : ∃ a cap, v = .slice a L.length cap ∧ L.length ≤ cap ∧ cap ≤ maxLen ∧ ∀ i r, L[i]? = some r → ∃ g, a = some ⟨g, 0, none⟩ ∧ g < w.heap.size ∧
    w.cell? ⟨g, i * 3, none⟩ = some (.int .u8 (r.c.toNat : Int)) ∧ w.cell? ⟨g, i * 3 + 1, none⟩ = some (.int .i64 (r.f : Int)) ∧ w.cell? ⟨g, i * 3 + 2, none⟩ = some (.int .i64 (r.t : Int)) := by
  obtain ⟨a, cap, hv, h1, h2, h3⟩ := row_form h.1
  refine ⟨a, cap, hv, h1, h2, fun i r hr => ?_⟩
  obtain ⟨c0, c1, c2⟩ := rcells_get L i r hr
  obtain ⟨g, hg, hl, e0⟩ := h3 _ _ c0
  obtain ⟨g1, hg1, -, e1⟩ := h3 _ _ c1
  obtain ⟨g2, hg2, -, e2⟩ := h3 _ _ c2
  rw [hg] at hg1 hg2
  simp only [Option.some.injEq, Addr.mk.injEq, and_true] at hg1 hg2
  exact ⟨g, hg, hl, e0, by rw [hg1]; exact e1, by rw [hg2]; exact e2⟩

theorem own_ne {B : Nat} {w : World} {e : TypeId} {size : Nat} {v : Value} {n : Nat} {xs : List Value} (h : w.ownsRow B e size v n xs) : v.ownBlock ≠ some w.heap.size := by
  intro hk
  exact absurd (World.ownsRow.lt h _ hk).2 (Nat.lt_irrefl _)

/-- An append behind two fresh blocks: the first of them stays. -/
theorem app_keep {t ty e : TypeId} {i0 : TypeInfo} {z : Value} {size bytes : Nat} {n m : Nat} {v sv : Value} {xs news : List Value} {W w : World} {o1 o2 : Obj}
    (ht : Try.prog.underlying t = some (.slice e)) (hi : Try.prog.info? e = some i0) (hz : i0.zero = some z) (hsz : i0.size = size) (hby : i0.bytes = bytes) (hzs : z.cells.size = size) (hpos : 0 < size) (hbb : bytes ≤ 100)
    (hd : Up W e size v n xs w) (hs : Src ((w.alloc o1).alloc o2) sv m size news) (h1 : ∀ u ∈ news, u.oneCell' = true) (hn : n + m ≤ 1000000) :
    ∃ v' w', (Builtin.append_ #[t, t] ty #[v, sv]).run Try.prog ((w.alloc o1).alloc o2) = .ok v' w' ∧ (Up W e size v' (n + m) (xs ++ news) w' ∧ w'.heap[w.heap.size]? = some o1) := by
  have hd2 := (hd.alloc o1).alloc o2
  obtain ⟨v', w', hr, h2, h3⟩ := run_app (ty := ty) ht hi hz hsz hby hzs hpos hbb hd2.1 hs h1 hn hd2.2.size
  refine ⟨v', w', hr, ⟨h2, hd2.2.grown h3 hd2.2.size fun k hk => (World.ownsRow.lt hd2.1 k hk).1⟩, ?_⟩
  rw [h3.block w.heap.size (by simp; omega) (own_ne hd.1).symm, Below.heap_alloc _ _ _ (by simp)]
  exact heap_alloc_new _ _

theorem src_three2 (w : World) (o : Obj) (x y z : Int) (e : TypeId) : Src ((w.alloc o).alloc (.cells #[.int .u8 x, .int .i64 y, .int .i64 z] e)) (.slice (some ⟨w.heap.size + 1, 0, none⟩) 1 1) 1 3 [.int .u8 x, .int .i64 y, .int .i64 z] := by
  have h := src_three (w.alloc o) x y z e
  rw [show (w.alloc o).heap.size = w.heap.size + 1 from by simp] at h
  exact h

def CRel (W : World) (l : List UInt8) (o i : Value) (w : World) : Prop :=
  ∃ (k : Nat) (L : List Rn) (a : Option Addr) (n cap : Nat), i = .int .i64 (k : Int) ∧ k ≤ l.length ∧ L.length ≤ k ∧ o = .slice a n cap ∧ n = L.length ∧ L ++ chs l k = chs l 0 ∧ CRow W o L w

theorem chs_in {l : List UInt8} {k : Nat} {r : Rn} (hk : k < l.length) (h : tk l k = (r, true)) : chs l k = r :: chs l r.t := by
  rw [chs_step hk, h]
  rfl
theorem chs_out {l : List UInt8} {k : Nat} {r : Rn} (hk : k < l.length) (h : tk l k = (r, false)) : chs l k = chs l r.t := by
  rw [chs_step hk, h]
  rfl

theorem crel_in {W : World} {l : List UInt8} {k : Nat} {L : List Rn} {w : World} {a : Option Addr} {cap : Nat} {r : Rn} (hk : k < l.length) (hLk : L.length ≤ k) (ho : tk l k = (r, true)) (hL : L ++ chs l k = chs l 0) (hU : CRow W (.slice a (L.length + 1) cap) (L ++ [r]) w) :
    CRel W l (.slice a (L.length + 1) cap) (.int .i64 (r.t : Int)) w := by
  have h1 : k < r.t ∧ r.t ≤ k + 4 ∧ (k < l.length → r.t ≤ l.length) := by
    have := tk_t l k
    rw [ho] at this
    exact this
  refine ⟨r.t, L ++ [r], a, L.length + 1, cap, rfl, h1.2.2 hk, by simp; omega, rfl, by simp, ?_, hU⟩
  rw [← hL, chs_in hk ho, List.append_assoc]
  rfl
theorem crel_out {W : World} {l : List UInt8} {k : Nat} {L : List Rn} {w : World} {a : Option Addr} {cap : Nat} {r : Rn} (hk : k < l.length) (hLk : L.length ≤ k) (ho : tk l k = (r, false)) (hL : L ++ chs l k = chs l 0) (hU : CRow W (.slice a L.length cap) L w) :
    CRel W l (.slice a L.length cap) (.int .i64 (r.t : Int)) w := by
  have h1 : k < r.t ∧ r.t ≤ k + 4 ∧ (k < l.length → r.t ≤ l.length) := by
    have := tk_t l k
    rw [ho] at this
    exact this
  exact ⟨r.t, L, a, L.length, cap, rfl, h1.2.2 hk, by omega, rfl, rfl, by rw [← hL, chs_out hk ho], hU⟩

theorem Up.over {W w w' : World} {e : TypeId} {size : Nat} {v : Value} {n : Nat} {xs : List Value} (h : Up W e size v n xs w) (b : Below w.heap.size w w') : Up W e size v n xs w' := by
  have hg : w.grownBy w' none := ⟨b.os, b.tape, b.output, b.size, fun k hk _ => b.block k hk⟩
  exact ⟨World.ownsRow.kept h.1 hg (by cases v.ownBlock <;> simp), h.2.trans (b.mono h.2.size)⟩

theorem empty_no {s : ByteArray} (h : 0 < s.size) : s.toList.isEmpty = false := by
  rw [ByteArray.toList_eq]
  have := list_ne h
  cases hq : s.data.toList with
  | nil => exact absurd hq this
  | cons a r => rfl
theorem empty_yes {s : ByteArray} (h : ¬ 0 < s.size) : s.toList.isEmpty = true := by
  rw [ByteArray.toList_eq, list_nil h]
  rfl

theorem heap_cells {w : World} {b : Nat} {x y z : Value} {T : TypeId} (h : w.heap[b]? = some (.cells #[x, y, z] T (0, 0))) : w.cell? ⟨b, 2, none⟩ = some z := by
  rw [Lib.cell_of_heap h]
  rfl

set_option maxRecDepth 100000 in
set_option maxHeartbeats 1600000 in
theorem chars_some (s : ByteArray) (w : World) (hs : s.size ≤ 100000) (h0 : 0 < s.size) : Calls Try.prog 32 #[.string s] w (CRowPost w (charsL s.data.toList)) := by
  obtain ⟨i0, hi, hz0, hz1, hz2⟩ := info_parts Try.infoPRune
  have hlen := len_byte s
  have HL := Lib.hid hlen
  have hne := empty_no h0
  have hcl := chs_len s.data.toList _ 0 (Nat.le_refl _)
  obtain ⟨C, hC⟩ : ∃ C, chs s.data.toList 0 = C := ⟨_, rfl⟩
  rw [hC] at hcl
  rw [hlen] at hcl
  have HCC := Lib.hid hC
  clear hlen hC
  go_enter Try.func32, Try.ntmps32
  go_wp2_with (at_make; refine wpList_make_own _ rfl _ _ 56 rfl w.heap.size 80 i0 (.agg #[.int .u8 0, .int .i64 0, .int .i64 0]) 3 Try.underlying56 hi hz0 hz1 .i64 .i64 _ (s.size + 1) rfl rfl (by simp) (by rw [hz2]; omega) (by unfold maxLen; omega) (Nat.le_refl _) ?_; intro w0 hown0 hgrow0; have hu0 : Up w 80 3 (.slice (some ⟨w.heap.size, 0, none⟩) 0 (s.size + 1)) 0 [] w0 := ⟨hown0, (Below.refl _ _).grown hgrow0 (Nat.le_refl _) (by intro k hk; cases hk)⟩; have HU0 := Lib.hid hu0; clear hown0 hgrow0 hu0)
  go_loopw [3, 4] (fun o i w' => CRel w s.data.toList o i w') (fun _ i _ => s.size - (intOf i).toNat)
  case atStart => exact ⟨0, [], _, 0, _, rfl, Nat.zero_le _, Nat.le_refl _, rfl, rfl, rfl, HU0.out⟩
  case round =>
    obtain ⟨k, L, a, n, cap, rfl, hk, hLk, rfl, hn, hL, hU⟩ := hrel
    rw [HL.out] at hk
    have HN := Lib.hid hn
    clear hn
    have HU := Lib.hid hU
    have HLL := Lib.hid hL
    clear hU hL
    by_cases hlt : k < s.size
    · obtain rfl := HN.out
      have hki : (k : Int) < (s.size : Int) := by omega
      obtain ⟨r, st, hr⟩ : ∃ r st, tk s.data.toList k = (r, st) := ⟨_, _, rfl⟩
      have htk := take_any s k
      rw [hr] at htk
      have HT := Lib.hid htk
      have hk2 : k < s.data.toList.length := by rw [HL.out]; exact hlt
      have ht : k < r.t := by
        have := tk_t s.data.toList k
        rw [hr] at this
        exact this.1
      have HR := Lib.hid hr
      clear htk hr
      cases st with
      | true =>
        go_wp2_with (first
          | (go_at_call 53; (with_reducible refine (HT.out _ hs hlt).mono ?_); rintro e w1 ⟨rfl, b1⟩; have U1 := Lib.hid (HU.out.over b1); clear b1)
          | (at_builtin; refine wpList_append_ex rfl (.tmp 24) (.tmp 26) 56 rfl _ (app_keep Try.underlying56 hi hz0 hz1 hz2 rfl (by decide) (by decide) U1.out (src_three2 _ _ _ _ _ _) three_one (by omega)) ?_; rintro v2 w2 ⟨hu2, hp2⟩; obtain ⟨a2, cap2, rfl, -, -, -⟩ := row_form hu2.1; have U2 := Lib.hid (CRow.push r hu2 rfl rfl rfl); have e2 := heap_cells hp2; clear hu2 hp2))
        go_roundw
        case rel => exact crel_in hk2 hLk HR.out HLL.out U2.out
        case measure => simp [intOf]; omega
      | false =>
        go_wp2_with (go_at_call 53; (with_reducible refine (HT.out _ hs hlt).mono ?_); rintro e w1 ⟨rfl, b1⟩; have U1 := Lib.hid (HU.out.over b1); clear b1)
        go_roundw
        case rel => exact crel_out hk2 hLk HR.out HLL.out (U1.out.alloc _)
        case measure => simp [intOf]; omega
    · have hki : ¬ (k : Int) < (s.size : Int) := by omega
      have hLC : L = C := by
        have h3 := HLL.out
        rw [chs_end (by rw [HL.out]; omega), List.append_nil, HCC.out] at h3
        exact h3
      subst hLC
      have hu := HU.out
      have hn := HN.out
      obtain ⟨a', c', hv, hc1, hc2, hcell⟩ := crow_cells hu
      simp only [Value.slice.injEq] at hv
      obtain ⟨rfl, -, rfl⟩ := hv
      have HC := Lib.hid hcell
      have hu' : Up w 80 3 (.slice a n cap) n (rcells L) wr := by
        unfold CRow at hu
        rw [← hn] at hu
        exact hu
      have U2 := Lib.hid hu'
      unfold maxLen at hc2
      rw [← hn] at hc1 hcl
      clear hn hu hu' hcell
      cases n with
      | zero =>
        obtain rfl : L = [] := List.eq_nil_of_length_eq_zero HN.out.symm
        go_wp2_with (at_builtin; refine wpList_append_ex rfl (.tmp 43) (.tmp 49) 56 rfl _ (app_up Try.underlying56 hi hz0 hz1 hz2 rfl (by decide) (by decide) (U2.out.alloc _) (src_three _ _ _ _ _) three_one (by omega)) ?_; intro v3 w3 hu3; simp only [Nat.zero_add] at hu3; obtain ⟨a3, cap3, rfl, -, -, -⟩ := row_form hu3.1; have U3 := Lib.hid hu3; clear hu3)
        go_ret
        refine ⟨a3, 1, cap3, ?_, rfl, ?_⟩ <;> rw [charsL_not (list_ne h0) (by rw [HCC.out]; rfl), HCC.out, HL.out]
        · rfl
        · exact U3.out
      | succ m =>
        have hm : m < L.length := by have := HN.out; omega
        obtain ⟨r, hr⟩ : ∃ r, L[m]? = some r := ⟨_, List.getElem?_eq_getElem hm⟩
        obtain ⟨g, rfl, hg, e0, -, -⟩ := HC.out m r hr
        have HE := Lib.hid (endsNl_last HN.out.symm hr)
        obtain ⟨x, hx⟩ : ∃ x : Int, ((r.c.toNat : Nat) : Int) = x := ⟨_, rfl⟩
        rw [hx] at e0
        have HX := Lib.hid hx
        have hm0 : ((m : Int) + 1 == 0) = false := by simp; omega
        clear hr hx hm
        by_cases hq : x = 10
        · subst hq
          have hc : r.c = 10 := c_of (x := 10) HX.out (by omega)
          have HR := Lib.hid hc
          clear hc
          go_wp2
          go_ret
          refine ⟨some ⟨g, 0, none⟩, m + 1, cap, ?_, rfl, ?_⟩ <;> rw [charsL_ends (list_ne h0) (by rw [HCC.out, HE.out, HR.out]; rfl), HCC.out]
          · exact HN.out
          · have h := U2.out
            unfold CRow
            rw [← HN.out]
            exact h
        · have hb : (x == 10) = false := by simpa using hq
          have hb2 : (x != 10) = true := by simpa using hq
          have hc : decide (r.c = 10) = false := by
            rw [decide_eq_false_iff_not]
            intro e
            apply hq
            rw [← HX.out, e]
            rfl
          have HR := Lib.hid hc
          clear hc
          go_wp2_with (at_builtin; refine wpList_append_ex rfl (.tmp 43) (.tmp 49) 56 rfl _ (app_up Try.underlying56 hi hz0 hz1 hz2 rfl (by decide) (by decide) (U2.out.alloc _) (src_three _ _ _ _ _) three_one (by omega)) ?_; intro v3 w3 hu3; obtain ⟨a3, cap3, rfl, -, -, -⟩ := row_form hu3.1; have U3 := Lib.hid hu3; clear hu3)
          go_ret
          refine ⟨a3, m + 1 + 1, cap3, ?_, rfl, ?_⟩ <;> rw [charsL_not (list_ne h0) (by rw [HCC.out, HE.out, HR.out]), HCC.out, HL.out]
          · rw [List.length_append, ← HN.out]
            rfl
          · have h := U3.out
            rw [rcells_push (x := 10) (y := (s.size : Int)) (z := (s.size : Int)) (r := ⟨10, s.size, s.size⟩) rfl rfl rfl] at h
            unfold CRow
            rw [List.length_append, ← HN.out]
            exact h

theorem chars_any (s : ByteArray) (w : World) (hs : s.size ≤ 100000) : Calls Try.prog 32 #[.string s] w (CRowPost w (charsL s.data.toList)) := by
  by_cases h0 : 0 < s.size
  · exact chars_some s w hs h0
  · have hne := empty_yes h0
    have hl := list_nil h0
    have HCL := Lib.hid (show charsL s.data.toList = [] from by unfold charsL; rw [if_pos hl])
    clear hl
    go_enter Try.func32, Try.ntmps32
    go_wp2
    go_ret
    rw [HCL.out]
    exact ⟨none, 0, 0, rfl, rfl, up_nil _ _ _⟩

end Go.Proofs.Ytpnboieppkjfnaa
