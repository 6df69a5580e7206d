/-
  Texts of the proof, put together: MtSame, MtPut.
-/
import Derived.Test.YtmghocfkekggaaaG45
import Derived.Test.YtmghocfkekggaaaG27
import Derived.Test.YtmghocfkekggaaaG15

/-
  The document's Same, and its Whole of what is the same.
-/
namespace Go.Proofs.Ytmghocfkekggaaa
open Go.RowKit Go.Maps

def rObj (x : Xm) (pv bv : Value) : Obj := .cells #[.string x.n, .bool x.fn, .bool x.va, pv, bv, .string x.g, .int .i64 x.f, .int .i64 x.t] 36 (0, 0)
theorem rObj_body {x : Xm} {pv bv : Value} {w : World} {q : Nat} (h : w.heap[q]? = some (rObj x pv bv)) : w.cell? ⟨q, 4, none⟩ = some bv := by
  unfold rObj at h
  rw [Lib.cell_of_heap h]
  rfl
theorem same_ways5 (b1 b2 b3 b4 b5 : Bool) : b1 = false ∨ (b1 = true ∧ b2 = false) ∨ (b1 = true ∧ b2 = true ∧ b3 = false) ∨ (b1 = true ∧ b2 = true ∧ b3 = true ∧ b4 = false) ∨ (b1 = true ∧ b2 = true ∧ b3 = true ∧ b4 = true ∧ b5 = false) ∨ (b1 = true ∧ b2 = true ∧ b3 = true ∧ b4 = true ∧ b5 = true) := by
  cases b1 <;> cases b2 <;> cases b3 <;> cases b4 <;> cases b5 <;> simp

set_option maxRecDepth 100000 in
set_option maxHeartbeats 6400000 in
theorem rSame_any {x y : Xm} {pv bv qv cv : Value} {w : World} (h : MacAt x pv bv w) (h' : MacAt y qv cv w) : Calls Try.prog 30 #[macV x pv bv, macV y qv cv] w (BoolNew (sameM x y) w) := by
  obtain ⟨a1, n1, c1, rfl⟩ := h.1.form
  obtain ⟨a2, n2, c2, rfl⟩ := h.2.form
  obtain ⟨a3, n3, c3, rfl⟩ := h'.1.form
  obtain ⟨a4, n4, c4, rfl⟩ := h'.2.form
  unfold macV
  obtain ⟨b1, h1⟩ : ∃ b, (x.n.toList == y.n.toList) = b := ⟨_, rfl⟩
  obtain ⟨b2, h2⟩ : ∃ b, (x.fn == y.fn) = b := ⟨_, rfl⟩
  obtain ⟨b3, h3⟩ : ∃ b, (x.va == y.va) = b := ⟨_, rfl⟩
  obtain ⟨b4, h4⟩ : ∃ b, decide (x.ps = y.ps) = b := ⟨_, rfl⟩
  obtain ⟨b5, h5⟩ : ∃ b, ((n2 : Int) == (n4 : Int)) = b := ⟨_, rfl⟩
  obtain ⟨b6, h6⟩ : ∃ b, alikeL x.bd y.bd = b := ⟨_, rfl⟩
  obtain ⟨hn2, hc2, hm2⟩ := h.2.len
  obtain ⟨hn4, hc4, hm4⟩ := h'.2.len
  unfold maxLen at hm2 hm4
  have g5 : ((n2 : Int) != (n4 : Int)) = !b5 := by rw [← h5]; rfl
  have hlen : b5 = false → b6 = false := fun e => by
    rw [← h6]
    refine alikeL_len fun e' => ?_
    rw [← h5] at e
    simp only [beq_eq_false_iff_ne, ne_eq, Int.natCast_inj] at e
    omega
  have hlen2 : b5 = true → n2 = n4 := fun e => by
    rw [← h5] at e
    have : (n2 : Int) = (n4 : Int) := by simpa using e
    omega
  have HE : Hid (sameM x y = (b1 && b2 && b3 && b4 && b6)) := Lib.hid (by
    unfold sameM
    rw [← h1, ← h2, ← h3, ← h4, ← h6, str_is])
  have H6 := Lib.hid h6
  have HL1 := Lib.hid hlen
  have HL2 := Lib.hid hlen2
  have HN2 := Lib.hid hn2
  have HN4 := Lib.hid hn4
  have HX := Lib.hid h.2
  have HY := Lib.hid h'.2
  have HT : Hid (∀ X : World, Below w.heap.size w X → Calls Try.prog 48 #[.slice a1 n1 c1, .slice a3 n3 c3] X (fun e w' => e = .returned (.bool b4) ∧ ∃ n, w' = X.drewN n)) := Lib.hid (fun X hX => h4 ▸ rTexts_any (h.1.over hX) (h'.1.over hX))
  have HW := Lib.hid (same_ways5 b1 b2 b3 b4 b5)
  rw [HE.out]
  clear h h' HE h4 h6 hlen hlen2 hn2 hn4 h5
  rcases HW.out with rfl | ⟨rfl, rfl⟩ | ⟨rfl, rfl, rfl⟩ | ⟨rfl, rfl, rfl, rfl⟩ | ⟨rfl, rfl, rfl, rfl, rfl⟩ | ⟨rfl, rfl, rfl, rfl, rfl⟩
  case inr.inr.inr.inr.inr =>
    clear HW
    obtain rfl := HL2.out rfl
    go_enter Try.func30, Try.ntmps30
    go_wp2_with (go_at_call 48; (refine (HT.out _ (((Below.refl _ _).alloc (Nat.le_refl _) _).alloc (by simp) _)).mono ?_); rintro e w1 ⟨rfl, q1, rfl⟩)
    obtain ⟨w1, hw1⟩ : ∃ w1, ((w.alloc (Obj.cells #[.string x.n, .bool x.fn, .bool x.va, .slice a1 n1 c1, .slice a2 n2 c2, .string x.g, .int .i64 x.f, .int .i64 x.t] 36)).alloc (Obj.cells #[.string y.n, .bool y.fn, .bool y.va, .slice a3 n3 c3, .slice a4 n2 c4, .string y.g, .int .i64 y.f, .int .i64 y.t] 36)).drewN q1 = w1 := ⟨_, rfl⟩
    have hB : Below w.heap.size w w1 := by rw [← hw1]; exact (((Below.refl _ _).alloc (Nat.le_refl _) _).alloc (by simp) _).trans ((Below.of_drews _ _).mono (by simp; omega))
    have hx4 : w1.cell? ⟨w.heap.size, 4, none⟩ = some (.slice a2 n2 c2) := by
      have h0 : w1.heap[w.heap.size]? = some (rObj x (.slice a1 n1 c1) (.slice a2 n2 c2)) := by rw [← hw1]; exact heap_one w _ _
      exact rObj_body h0
    have hy4 : w1.cell? ⟨w.heap.size + 1, 4, none⟩ = some (.slice a4 n2 c4) := by
      have h0 := heap_alloc_new (w.alloc (rObj x (.slice a1 n1 c1) (.slice a2 n2 c2))) (rObj y (.slice a3 n3 c3) (.slice a4 n2 c4))
      rw [show (w.alloc (rObj x (.slice a1 n1 c1) (.slice a2 n2 c2))).heap.size = w.heap.size + 1 from by simp] at h0
      have h1 : w1.heap[w.heap.size + 1]? = some (rObj y (.slice a3 n3 c3) (.slice a4 n2 c4)) := by rw [← hw1]; exact h0
      exact rObj_body h1
    have hs1 : w.heap.size + 2 ≤ w1.heap.size := by rw [← hw1]; simp
    rw [hw1]
    obtain ⟨p1, hp1⟩ : ∃ p1, w.heap.size = p1 := ⟨_, rfl⟩
    obtain ⟨p2, hp2⟩ : ∃ p2, w.heap.size + 1 = p2 := ⟨_, rfl⟩
    rw [hp2] at hy4 ⊢
    rw [hp1] at hx4 ⊢
    have HP1 : Hid (p1 < w1.heap.size ∧ p2 < w1.heap.size) := Lib.hid (by omega)
    have HX4 := Lib.hid hx4
    have HY4 := Lib.hid hy4
    have HB := Lib.hid hB
    clear hw1 hB hs1 hp1 hp2
    go_loopw [5] (fun i wr => ∃ k : Nat, i = .int .i64 (k : Int) ∧ k ≤ n2 ∧ Below w1.heap.size w1 wr ∧ ∀ j t u, j < k → x.bd[j]? = some t → y.bd[j]? = some u → alikeX t u = true) (fun i _ => n2 - (intOf i).toNat)
    case atStart => exact ⟨0, rfl, Nat.zero_le _, Below.refl _ _, fun j t u hj => by omega⟩
    case round =>
      obtain ⟨k, rfl, hk, hb, hall⟩ := hrel
      have HA := Lib.hid hall
      have HBW := Lib.hid hb
      have hx4 := bcell hb HX4.out HP1.out.1
      have hy4 := bcell hb HY4.out HP1.out.2
      clear hall
      by_cases hlt : k < n2
      · obtain ⟨t, ht⟩ : ∃ t, x.bd[k]? = some t := ⟨_, List.getElem?_eq_getElem (by rw [← HN2.out]; exact hlt)⟩
        obtain ⟨u, hu⟩ : ∃ u, y.bd[k]? = some u := ⟨_, List.getElem?_eq_getElem (by rw [← HN4.out]; exact hlt)⟩
        obtain ⟨g, o, sa, sn, sc, rfl, hg, -, hta, -⟩ := HX.out.get ht
        obtain ⟨g', o', ua, un, uc, rfl, hg', -, htb, -⟩ := HY.out.get hu
        have hbb := below_up HB.out hb
        obtain ⟨e0, e1, e2, e3, e4, e5, e6, e7⟩ := hta.next hbb hg
        obtain ⟨f0, f1, f2, f3, f4, f5, f6, f7⟩ := htb.next hbb hg'
        have hkI : (k : Int) < (n2 : Int) := by omega
        have hk0 : (0 : Int) ≤ (k : Int) := by omega
        have hgs : g < wr.heap.size := Nat.lt_of_lt_of_le hg hbb.size
        have hgs' : g' < wr.heap.size := Nat.lt_of_lt_of_le hg' hbb.size
        have hg1 : g ≠ wr.heap.size := by omega
        have hg2 : g' ≠ wr.heap.size := by omega
        have hg3 : wr.heap.size ≠ g := by omega
        have hg4 : wr.heap.size ≠ g' := by omega
        have hps1 : p1 < wr.heap.size := Nat.lt_of_lt_of_le HP1.out.1 hb.size
        have hps2 : p2 < wr.heap.size := Nat.lt_of_lt_of_le HP1.out.2 hb.size
        have hp1a : p1 ≠ wr.heap.size := by omega
        have hp2a : p2 ≠ wr.heap.size := by omega
        have hp1b : wr.heap.size ≠ p1 := by omega
        have hp2b : wr.heap.size ≠ p2 := by omega
        obtain ⟨d1, k1⟩ : ∃ b, (t.k == u.k) = b := ⟨_, rfl⟩
        obtain ⟨d2, k2⟩ : ∃ b, (t.x.toList == u.x.toList) = b := ⟨_, rfl⟩
        obtain ⟨d3, k3⟩ : ∃ b, (t.sp == u.sp) = b := ⟨_, rfl⟩
        have HAL : Hid (alikeX t u = (d1 && d2 && d3)) := Lib.hid (by
          unfold alikeX
          rw [← k1, ← k2, ← k3, str_is]
          congr 1)
        have HO : Hid (alikeX t u = true → ∀ j a c, j < k + 1 → x.bd[j]? = some a → y.bd[j]? = some c → alikeX a c = true) := Lib.hid (fun hal j a c hj ha hc => by
          rcases Nat.lt_or_ge j k with hjk | hjk
          · exact HA.out j a c hjk ha hc
          · obtain rfl : j = k := by omega
            rw [ht] at ha
            rw [hu] at hc
            cases ha
            cases hc
            exact hal)
        have k1 : (t.k != u.k) = !d1 := by rw [← k1]; rfl
        have HNO : Hid (alikeX t u = false → b6 = false) := Lib.hid (fun hal => by rw [← H6.out, alikeL_no ht hu hal])
        have HW3 : Hid ((d1 = false) ∨ (d1 = true ∧ d2 = false) ∨ (d1 = true ∧ d2 = true ∧ d3 = false) ∨ (d1 = true ∧ d2 = true ∧ d3 = true)) := Lib.hid (by cases d1 <;> cases d2 <;> cases d3 <;> simp)
        clear hb ht hu hta htb hbb hg hg' h1 h2 h3 g5 HT
        go_wp2_with fail
        go_region
        all_goals
          rcases HW3.out with rfl | ⟨rfl, rfl⟩ | ⟨rfl, rfl, rfl⟩ | ⟨rfl, rfl, rfl⟩
        all_goals first
            | (have hB' := HNO.out (by rw [HAL.out]; simp)
               subst hB'
               go_wp2
               go_ret
               exact bool_new (by simp) (below_up HB.out (below_up HBW.out ((((Below.refl _ _).alloc (Nat.le_refl _) _).alloc (by simp) _).drew))))
            | (go_wp2
               go_roundw
               case rel => exact ⟨k + 1, by go_num, hlt, below_up HBW.out ((((Below.refl _ _).alloc (Nat.le_refl _) _).alloc (by simp) _).drew), HO.out (by rw [HAL.out]; rfl)⟩
               case measure => simp [intOf]; omega)
      · have hkI : ¬ (k : Int) < (n2 : Int) := by omega
        have hO : true = b6 := by
          rw [← H6.out, alikeL_yes (by rw [← HN2.out, ← HN4.out]) (fun j t u h1 h2 => HA.out j t u (by have := (List.getElem?_eq_some_iff.1 h1).1; have := HN2.out; omega) h1 h2)]
        have HO := Lib.hid hO
        clear hb hO
        go_wp2
        go_ret
        exact bool_new (by rw [← HO.out]) (below_up HB.out HBW.out)
  all_goals
    clear HW
    go_enter Try.func30, Try.ntmps30
    go_wp2_with (go_at_call 48; (refine (HT.out _ (((Below.refl _ _).alloc (Nat.le_refl _) _).alloc (by simp) _)).mono ?_); rintro e w1 ⟨rfl, q1, rfl⟩)
    go_ret
    first
      | exact bool_new (by rw [HL1.out trivial]; rfl) ((((Below.refl _ _).alloc (Nat.le_refl _) _).alloc (by simp) _).trans ((Below.of_drews _ _).mono (by simp; omega)))
      | exact bool_new (by simp) (((Below.refl _ _).alloc (Nat.le_refl _) _).alloc (by simp) _)
      | exact bool_new (by simp) ((((Below.refl _ _).alloc (Nat.le_refl _) _).alloc (by simp) _).trans ((Below.of_drews _ _).mono (by simp; omega)))

end Go.Proofs.Ytmghocfkekggaaa

/-
  What the document's table does when it defines: sources and appends of macros.
-/
namespace Go.Proofs.Ytmghocfkekggaaa
open Go.RowKit Go.Maps

/-- l[k:] of macros, as a source. -/
theorem msrc_from {P : List Mv} {a a' : Option Addr} {n cap k : Nat} {w : World} (h : MRow P (.slice a n cap) w) (hk : k ≤ n) (hA : (cap = k ∧ a' = a) ∨ (cap ≠ k ∧ a' = a.map fun x => x.add (k * 8))) : Src w (.slice a' (n - k) (cap - k)) (n - k) 8 (mcells (P.drop k)) := by
  obtain ⟨hn, hc1, hc2, hz⟩ := h.len
  cases a with
  | none =>
    have := hz rfl
    obtain rfl : cap = 0 := this
    obtain rfl : n = 0 := by omega
    obtain rfl : k = 0 := by omega
    have : P = [] := List.eq_nil_of_length_eq_zero hn.symm
    subst this
    rcases hA with ⟨-, rfl⟩ | ⟨h0, -⟩
    · exact .inl ⟨rfl, rfl, rfl⟩
    · exact absurd rfl h0
  | some ad =>
    by_cases h0 : n = 0
    · obtain rfl : k = 0 := by omega
      have : P = [] := List.eq_nil_of_length_eq_zero (by omega)
      subst this
      obtain ⟨ad', rfl⟩ : ∃ ad', a' = some ad' := by
        rcases hA with ⟨-, rfl⟩ | ⟨-, rfl⟩
        · exact ⟨_, rfl⟩
        · exact ⟨_, rfl⟩
      exact .inr ⟨ad', _, rfl, by rw [h0]; rfl, fun j u hj => by simp [mcells] at hj⟩
    · obtain ⟨x, hx⟩ : ∃ x, P[0]? = some x := ⟨_, List.getElem?_eq_getElem (by omega)⟩
      obtain ⟨g, o, e, -⟩ := h.get hx
      obtain rfl := Option.some.inj e
      have := msrc_drop h hk
      rcases hA with ⟨hc, rfl⟩ | ⟨hc, rfl⟩
      · rw [if_pos hc] at this
        exact this
      · rw [if_neg hc] at this
        show Src w (.slice (some ((⟨g, o, none⟩ : Addr).add (k * 8))) _ _) _ _ _
        rw [addr_off]
        exact this

theorem rObj_cells {x : Xm} {pv bv : Value} {w : World} {q : Nat} (h : w.heap[q]? = some (rObj x pv bv)) : BoxM x pv bv q w := by
  unfold rObj at h
  refine ⟨?_, ?_, ?_, ?_, ?_, ?_, ?_, ?_⟩ <;> (rw [Lib.cell_of_heap h]; rfl)
theorem Try.infoM9 : (Try.prog.info? 36).map (fun i => (i.zero, i.size, i.bytes)) = some (some (.agg #[.string ⟨#[]⟩, .bool false, .bool false, .slice none 0 0, .slice none 0 0, .string ⟨#[]⟩, .int .i64 0, .int .i64 0]), 8, 104) := by kernel_rfl
theorem app_mac {ty : TypeId} {n m : Nat} {v sv : Value} {xs news : List Value} {W w : World} (hd : Up W 36 8 v n xs w) (hs : Src w sv m 8 news) (h1 : ∀ u ∈ news, u.oneCell' = true) (hn : n + m ≤ 1000000) :
    ∃ v' w', (Builtin.append_ #[22, 22] ty #[v, sv]).run Try.prog w = .ok v' w' ∧ (Up W 36 8 v' (n + m) (xs ++ news) w' ∧ w.grownBy w' v.ownBlock) := by
  obtain ⟨i0, hi, hz0, hz1, hz2⟩ := info_parts Try.infoM9
  have hbytes : (n + m) * 104 ≤ 140737488355328 := by omega
  rcases hs with ⟨rfl, rfl, rfl⟩ | ⟨ad, c, rfl, hl, hc⟩
  · rw [List.append_nil]
    exact ⟨v, w, run_append_owned_none (P := Try.prog) (w := w) _ 22 ty _ i0 8 Try.underlying22 hi v n xs hd.1, hd, World.grownBy.refl w _⟩
  · obtain ⟨v', w', hr, h2, h3, -⟩ := run_append_own (P := Try.prog) w _ 22 ty _ i0 _ 8 104 Try.underlying22 hi hz0 hz1 hz2 rfl (by decide) v n xs hd.1 ad m c news hl hc h1 (by unfold maxLen; omega) hbytes hd.2.size
    exact ⟨v', w', hr, ⟨h2, hd.2.grown h3 hd.2.size fun k hk => (World.ownsRow.lt hd.1 k hk).1⟩, h3⟩
theorem src_mac (w : World) (x : Mv) : Src (w.alloc (.cells #[.string x.m.n, .bool x.m.fn, .bool x.m.va, x.pv, x.bv, .string x.m.g, .int .i64 x.m.f, .int .i64 x.m.t] 36)) (.slice (some ⟨w.heap.size, 0, none⟩) 1 1) 1 8 (mcell x) := by
  refine .inr ⟨_, 1, rfl, rfl, fun j u hj => ?_⟩
  unfold mcell at hj
  rw [addr_add]
  have hj8 := (List.getElem?_eq_some_iff.1 hj).1
  simp only [List.length_cons, List.length_nil] at hj8
  have h0 : (w.alloc (.cells #[.string x.m.n, .bool x.m.fn, .bool x.m.va, x.pv, x.bv, .string x.m.g, .int .i64 x.m.f, .int .i64 x.m.t] 36)).heap[w.heap.size]? = some _ := heap_alloc_new w _
  rw [Lib.cell_of_heap h0, ← hj, ← Array.getElem?_toList]

def defL (L : List Xm) (m : Xm) : Bool := if hereM L m.n then (match L[posM L m.n]? with | some y => sameM y m | none => true) else true
def RDefPost (w : World) (q : Nat) (P : List Mv) (x : Mv) (e : Ending) (w' : World) : Prop :=
  e = .returned (.bool (defL (nameL P) x.m)) ∧ ∃ lv' P', nameL P' = putM (nameL P) x.m ∧ w'.heap[q]? = some (docT lv') ∧ MRow P' lv' w' ∧ Turned (fun g => g = q) w w'

end Go.Proofs.Ytmghocfkekggaaa
