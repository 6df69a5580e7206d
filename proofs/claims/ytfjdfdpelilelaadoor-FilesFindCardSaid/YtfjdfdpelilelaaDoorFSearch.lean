/-
  FilesFind: the walk.
-/
import Derived.Test.YtfjdfdpelilelaaDoorFBoth
import Derived.Test.YtfjdfdpelilelaaDoorFLift
namespace Go.Proofs.YtfjdfdpelilelaaDoor
open Go.ChangeShapes Go.WideShapes Go.ChangeAt Go.RowKit Go.ChangeMaps

theorem read_cap {H : Type} {enc : TypeId × Value → H} {W : World} {base : Nat} {sp : Nat → Bool} {held : Bool} {fuel : Nat} {a : Option Addr} {len cap : Nat} {x : DataW H × List MemPlace}
    (h : DataW.trod enc Tryd.prog W base sp held fuel 22 (Value.cells (.slice a len cap)).toList = some x) : a = none → cap = 0 := by
  rcases open_strings Tryd.underlying22 Tryd.underlying9 lift_cell1 h with ⟨hcs, -⟩ | ⟨a0, len', cap', ss, hcs, -⟩
  · simp [Value.cells] at hcs
    intro _
    exact hcs.2.2
  · simp [Value.cells] at hcs
    intro e
    rw [hcs.1] at e
    cases e

section
variable {a b : Option Addr} {cap cap2 : Nat} (xs ys : List (List UInt8)) (f n : ByteArray) (q : Bool) (W : World)

set_option maxRecDepth 100000 in
theorem searchVoid0 (hS : StrsAt a xs W) (hn : xs.length ≤ 9223372036854775807) (hb : ∀ x ∈ xs, x.length ≤ 9223372036854775807) (hS2 : StrsAt b ys W) (hn2 : ys.length ≤ 9223372036854775807) (hb2 : ∀ x ∈ ys, x.length ≤ 9223372036854775807)
    (h0 : shortB xs 200 = false) :
    Calls Tryd.prog 3 #[.slice a xs.length cap, .slice b ys.length cap2, .string f, .string n, .bool q] W fun e w' => e = .returned (.bool true) ∧ Below W.heap.size W w' := by
  have hnot := not_run
  have k1 : Calls Tryd.prog 7 #[.slice a xs.length cap, .int .i64 200] W fun e w' => e = .returned (.bool (shortB xs 200)) ∧ W = w' := short_any (cap := cap) xs W hS 200 (by decide) hn hb
  have k2 : Calls Tryd.prog 7 #[.slice b ys.length cap2, .int .i64 400] W fun e w' => e = .returned (.bool (shortB ys 400)) ∧ W = w' := short_any (cap := cap2) ys W hS2 400 (by decide) hn2 hb2
  have k3 := may_any (cap := cap) xs W hS hn
  rw [h0] at k1
  have K1 := Lib.hid k1
  have K2 := Lib.hid k2
  have K3 := Lib.hid k3
  clear k1 k2 k3 hS hb hS2 hb2 hn hn2 h0
  go_enter Tryd.func3, Tryd.ntmps3
  go_wp2_with (first
    | (go_at_call 7; (with_reducible refine K1.out.mono ?_); rintro e w' ⟨rfl, rfl⟩)
    | (go_at_call 7; (with_reducible refine K2.out.mono ?_); rintro e w' ⟨rfl, rfl⟩)
    | (go_at_call 8; (with_reducible refine K3.out.mono ?_); rintro e w1 ⟨rfl, v1⟩; have V1 := Lib.hid v1; clear v1)
    | (go_at_call 9; refine (fAwake_any _).mono ?_; rintro e w2 ⟨rfl, v2⟩; have V2 := Lib.hid v2; clear v2))
  all_goals go_ret
  all_goals exact ⟨rfl, V2.out⟩

set_option maxRecDepth 100000 in
theorem searchVoid1 (hS : StrsAt a xs W) (hn : xs.length ≤ 9223372036854775807) (hb : ∀ x ∈ xs, x.length ≤ 9223372036854775807) (hS2 : StrsAt b ys W) (hn2 : ys.length ≤ 9223372036854775807) (hb2 : ∀ x ∈ ys, x.length ≤ 9223372036854775807)
    (h0 : shortB xs 200 = true) (h1 : shortB ys 400 = false) :
    Calls Tryd.prog 3 #[.slice a xs.length cap, .slice b ys.length cap2, .string f, .string n, .bool q] W fun e w' => e = .returned (.bool true) ∧ Below W.heap.size W w' := by
  have hnot := not_run
  have k1 : Calls Tryd.prog 7 #[.slice a xs.length cap, .int .i64 200] W fun e w' => e = .returned (.bool (shortB xs 200)) ∧ W = w' := short_any (cap := cap) xs W hS 200 (by decide) hn hb
  have k2 : Calls Tryd.prog 7 #[.slice b ys.length cap2, .int .i64 400] W fun e w' => e = .returned (.bool (shortB ys 400)) ∧ W = w' := short_any (cap := cap2) ys W hS2 400 (by decide) hn2 hb2
  have k3 := may_any (cap := cap) xs W hS hn
  rw [h0] at k1
  rw [h1] at k2
  have K1 := Lib.hid k1
  have K2 := Lib.hid k2
  have K3 := Lib.hid k3
  clear k1 k2 k3 hS hb hS2 hb2 hn hn2 h0 h1
  go_enter Tryd.func3, Tryd.ntmps3
  go_wp2_with (first
    | (go_at_call 7; (with_reducible refine K1.out.mono ?_); rintro e w' ⟨rfl, rfl⟩)
    | (go_at_call 7; (with_reducible refine K2.out.mono ?_); rintro e w' ⟨rfl, rfl⟩)
    | (go_at_call 8; (with_reducible refine K3.out.mono ?_); rintro e w1 ⟨rfl, v1⟩; have V1 := Lib.hid v1; clear v1)
    | (go_at_call 9; refine (fAwake_any _).mono ?_; rintro e w2 ⟨rfl, v2⟩; have V2 := Lib.hid v2; clear v2))
  all_goals go_ret
  all_goals exact ⟨rfl, V2.out⟩

set_option maxRecDepth 100000 in
theorem searchVoid2 (hS : StrsAt a xs W) (hn : xs.length ≤ 9223372036854775807) (hb : ∀ x ∈ xs, x.length ≤ 9223372036854775807) (hS2 : StrsAt b ys W) (hn2 : ys.length ≤ 9223372036854775807) (hb2 : ∀ x ∈ ys, x.length ≤ 9223372036854775807)
    (h0 : shortB xs 200 = true) (h1 : shortB ys 400 = true) (h2 : 40 < ys.length) :
    Calls Tryd.prog 3 #[.slice a xs.length cap, .slice b ys.length cap2, .string f, .string n, .bool q] W fun e w' => e = .returned (.bool true) ∧ Below W.heap.size W w' := by
  have hnot := not_run
  have k1 : Calls Tryd.prog 7 #[.slice a xs.length cap, .int .i64 200] W fun e w' => e = .returned (.bool (shortB xs 200)) ∧ W = w' := short_any (cap := cap) xs W hS 200 (by decide) hn hb
  have k2 : Calls Tryd.prog 7 #[.slice b ys.length cap2, .int .i64 400] W fun e w' => e = .returned (.bool (shortB ys 400)) ∧ W = w' := short_any (cap := cap2) ys W hS2 400 (by decide) hn2 hb2
  have k3 := may_any (cap := cap) xs W hS hn
  rw [h0] at k1
  rw [h1] at k2
  have e2 : (40 : Int) < (ys.length : Int) := by omega
  have K1 := Lib.hid k1
  have K2 := Lib.hid k2
  have K3 := Lib.hid k3
  clear k1 k2 k3 hS hb hS2 hb2 hn hn2 h0 h1 h2
  go_enter Tryd.func3, Tryd.ntmps3
  go_wp2_with (first
    | (go_at_call 7; (with_reducible refine K1.out.mono ?_); rintro e w' ⟨rfl, rfl⟩)
    | (go_at_call 7; (with_reducible refine K2.out.mono ?_); rintro e w' ⟨rfl, rfl⟩)
    | (go_at_call 8; (with_reducible refine K3.out.mono ?_); rintro e w1 ⟨rfl, v1⟩; have V1 := Lib.hid v1; clear v1)
    | (go_at_call 9; refine (fAwake_any _).mono ?_; rintro e w2 ⟨rfl, v2⟩; have V2 := Lib.hid v2; clear v2))
  all_goals go_ret
  all_goals exact ⟨rfl, V2.out⟩

set_option maxRecDepth 100000 in
theorem searchVoid3 (hS : StrsAt a xs W) (hn : xs.length ≤ 9223372036854775807) (hb : ∀ x ∈ xs, x.length ≤ 9223372036854775807) (hS2 : StrsAt b ys W) (hn2 : ys.length ≤ 9223372036854775807) (hb2 : ∀ x ∈ ys, x.length ≤ 9223372036854775807)
    (h0 : shortB xs 200 = true) (h1 : shortB ys 400 = true) (h2 : ¬ 40 < ys.length) (h3 : 200 < f.size) :
    Calls Tryd.prog 3 #[.slice a xs.length cap, .slice b ys.length cap2, .string f, .string n, .bool q] W fun e w' => e = .returned (.bool true) ∧ Below W.heap.size W w' := by
  have hnot := not_run
  have k1 : Calls Tryd.prog 7 #[.slice a xs.length cap, .int .i64 200] W fun e w' => e = .returned (.bool (shortB xs 200)) ∧ W = w' := short_any (cap := cap) xs W hS 200 (by decide) hn hb
  have k2 : Calls Tryd.prog 7 #[.slice b ys.length cap2, .int .i64 400] W fun e w' => e = .returned (.bool (shortB ys 400)) ∧ W = w' := short_any (cap := cap2) ys W hS2 400 (by decide) hn2 hb2
  have k3 := may_any (cap := cap) xs W hS hn
  rw [h0] at k1
  rw [h1] at k2
  have e2 : ¬ ((40 : Int) < (ys.length : Int)) := by omega
  have e3 : (200 : Int) < (f.size : Int) := by omega
  have K1 := Lib.hid k1
  have K2 := Lib.hid k2
  have K3 := Lib.hid k3
  clear k1 k2 k3 hS hb hS2 hb2 hn hn2 h0 h1 h2 h3
  go_enter Tryd.func3, Tryd.ntmps3
  go_wp2_with (first
    | (go_at_call 7; (with_reducible refine K1.out.mono ?_); rintro e w' ⟨rfl, rfl⟩)
    | (go_at_call 7; (with_reducible refine K2.out.mono ?_); rintro e w' ⟨rfl, rfl⟩)
    | (go_at_call 8; (with_reducible refine K3.out.mono ?_); rintro e w1 ⟨rfl, v1⟩; have V1 := Lib.hid v1; clear v1)
    | (go_at_call 9; refine (fAwake_any _).mono ?_; rintro e w2 ⟨rfl, v2⟩; have V2 := Lib.hid v2; clear v2))
  all_goals go_ret
  all_goals exact ⟨rfl, V2.out⟩

set_option maxRecDepth 100000 in
theorem searchVoid4 (hS : StrsAt a xs W) (hn : xs.length ≤ 9223372036854775807) (hb : ∀ x ∈ xs, x.length ≤ 9223372036854775807) (hS2 : StrsAt b ys W) (hn2 : ys.length ≤ 9223372036854775807) (hb2 : ∀ x ∈ ys, x.length ≤ 9223372036854775807)
    (h0 : shortB xs 200 = true) (h1 : shortB ys 400 = true) (h2 : ¬ 40 < ys.length) (h3 : ¬ 200 < f.size) (h4 : 200 < n.size) :
    Calls Tryd.prog 3 #[.slice a xs.length cap, .slice b ys.length cap2, .string f, .string n, .bool q] W fun e w' => e = .returned (.bool true) ∧ Below W.heap.size W w' := by
  have hnot := not_run
  have k1 : Calls Tryd.prog 7 #[.slice a xs.length cap, .int .i64 200] W fun e w' => e = .returned (.bool (shortB xs 200)) ∧ W = w' := short_any (cap := cap) xs W hS 200 (by decide) hn hb
  have k2 : Calls Tryd.prog 7 #[.slice b ys.length cap2, .int .i64 400] W fun e w' => e = .returned (.bool (shortB ys 400)) ∧ W = w' := short_any (cap := cap2) ys W hS2 400 (by decide) hn2 hb2
  have k3 := may_any (cap := cap) xs W hS hn
  rw [h0] at k1
  rw [h1] at k2
  have e2 : ¬ ((40 : Int) < (ys.length : Int)) := by omega
  have e3 : ¬ ((200 : Int) < (f.size : Int)) := by omega
  have e4 : (200 : Int) < (n.size : Int) := by omega
  have K1 := Lib.hid k1
  have K2 := Lib.hid k2
  have K3 := Lib.hid k3
  clear k1 k2 k3 hS hb hS2 hb2 hn hn2 h0 h1 h2 h3 h4
  go_enter Tryd.func3, Tryd.ntmps3
  go_wp2_with (first
    | (go_at_call 7; (with_reducible refine K1.out.mono ?_); rintro e w' ⟨rfl, rfl⟩)
    | (go_at_call 7; (with_reducible refine K2.out.mono ?_); rintro e w' ⟨rfl, rfl⟩)
    | (go_at_call 8; (with_reducible refine K3.out.mono ?_); rintro e w1 ⟨rfl, v1⟩; have V1 := Lib.hid v1; clear v1)
    | (go_at_call 9; refine (fAwake_any _).mono ?_; rintro e w2 ⟨rfl, v2⟩; have V2 := Lib.hid v2; clear v2))
  all_goals go_ret
  all_goals exact ⟨rfl, V2.out⟩

set_option maxRecDepth 100000 in
theorem searchVoid5 (hS : StrsAt a xs W) (hn : xs.length ≤ 9223372036854775807) (hb : ∀ x ∈ xs, x.length ≤ 9223372036854775807) (hS2 : StrsAt b ys W) (hn2 : ys.length ≤ 9223372036854775807) (hb2 : ∀ x ∈ ys, x.length ≤ 9223372036854775807)
    (h0 : shortB xs 200 = true) (h1 : shortB ys 400 = true) (h2 : ¬ 40 < ys.length) (h3 : ¬ 200 < f.size) (h4 : ¬ 200 < n.size) (h5 : mayB xs = false) :
    Calls Tryd.prog 3 #[.slice a xs.length cap, .slice b ys.length cap2, .string f, .string n, .bool q] W fun e w' => e = .returned (.bool true) ∧ Below W.heap.size W w' := by
  have hnot := not_run
  have k1 : Calls Tryd.prog 7 #[.slice a xs.length cap, .int .i64 200] W fun e w' => e = .returned (.bool (shortB xs 200)) ∧ W = w' := short_any (cap := cap) xs W hS 200 (by decide) hn hb
  have k2 : Calls Tryd.prog 7 #[.slice b ys.length cap2, .int .i64 400] W fun e w' => e = .returned (.bool (shortB ys 400)) ∧ W = w' := short_any (cap := cap2) ys W hS2 400 (by decide) hn2 hb2
  have k3 := may_any (cap := cap) xs W hS hn
  rw [h0] at k1
  rw [h1] at k2
  have e2 : ¬ ((40 : Int) < (ys.length : Int)) := by omega
  have e3 : ¬ ((200 : Int) < (f.size : Int)) := by omega
  have e4 : ¬ ((200 : Int) < (n.size : Int)) := by omega
  rw [h5] at k3
  have K1 := Lib.hid k1
  have K2 := Lib.hid k2
  have K3 := Lib.hid k3
  clear k1 k2 k3 hS hb hS2 hb2 hn hn2 h0 h1 h2 h3 h4 h5
  go_enter Tryd.func3, Tryd.ntmps3
  go_wp2_with (first
    | (go_at_call 7; (with_reducible refine K1.out.mono ?_); rintro e w' ⟨rfl, rfl⟩)
    | (go_at_call 7; (with_reducible refine K2.out.mono ?_); rintro e w' ⟨rfl, rfl⟩)
    | (go_at_call 8; (with_reducible refine K3.out.mono ?_); rintro e w1 ⟨rfl, v1⟩; have V1 := Lib.hid v1; clear v1)
    | (go_at_call 9; refine (fAwake_any _).mono ?_; rintro e w2 ⟨rfl, v2⟩; have V2 := Lib.hid v2; clear v2))
  all_goals go_ret
  all_goals exact ⟨rfl, V1.out.trans (V2.out.mono V1.out.size)⟩

end

def SearchRel (W : World) (p m : Nat) (dv : Value) (xs : List (List UInt8)) (n : Nat) (i : Value) (wr : World) : Prop :=
  ∃ k : Nat, i = .int .i64 (k : Int) ∧ k ≤ n ∧ Fin W p m dv xs k wr

theorem searchNew {W w : World} {a : Option Addr} {cap : Nat} {xs : List (List UInt8)} (hS : StrsAt a xs W) (hm : mayB xs = true) (hl : ∀ x ∈ xs, x.length ≤ 200) (hb : Below W.heap.size W w) :
    Calls Tryd.prog 10 #[.slice a xs.length cap] w fun e w' => ∃ p, e = .returned (.tuple #[.pointer (some ⟨p, 0, none⟩), .int .i64 0]) ∧ LS W p (tab0 xs) 0 (fun _ => none) w' := by
  unfold mayB at hm
  rw [Bool.and_eq_true, decide_eq_true_eq] at hm
  refine (newDirs_any (cap := cap) xs w (strsAt_below hS hb) hm.1 (fun x hx => by have := hl x hx; omega)).mono fun e w' hp => ?_
  rcases hp with ⟨-, v, he, hst⟩ | ⟨hno, -⟩
  · exact ⟨_, he, LS.made hb hb.size hst.tbl hst.own hst.below⟩
  · rw [hm.2] at hno
    cases hno

theorem searchStart {W w : World} {p : Nat} {dv : Value} {xs : List (List UInt8)} (h : LS W p (tab0 xs) 0 (fun _ => none) w) :
    Fin W p w.heap.size dv xs 0 (w.alloc (.cells #[dv, .slice none 0 0, .slice none 0 0, .slice none 0 0] 34)) := by
  have hs := h.ended.size
  exact ⟨tab0 xs, 0, _, .slice none 0 0, .slice none 0 0, .slice none 0 0, [], [], [], ⟨h.alloc _, hs, Nat.le_trans hs ((Below.refl w.heap.size w).alloc (Nat.le_refl _) _).size, heap_alloc_new w _, World.ownsRow_nil _ _ _ _, World.ownsRow_nil _ _ _ _, World.ownsRow_nil _ _ _ _, by decide⟩, agree_start xs, rfl⟩

theorem findT_rfind (t : Tab) (f n : List UInt8) (q : Bool) : rfind t n f t.dirs q = findT t f n q := rfl

theorem search_find {W : World} {p m : Nat} {a : Option Addr} {cap : Nat} {xs : List (List UInt8)} {k : Nat} (hS : StrsAt a xs W) (ha : a = none → cap = 0) (f n : ByteArray) (q : Bool) (hf : f.size ≤ 200) (hn : n.size ≤ 200) (hd : ∀ d ∈ xs, d.length ≤ 200) (hl : xs.length ≤ 10) {w0 : World} (h0 : Fin W p m (.slice a xs.length cap) xs k w0) :
    ∃ (s : ByteArray) (y : Bool) (Z : World → Prop), Z w0 ∧ (∀ X, Z X → Below W.heap.size W X) ∧
      (∀ X, Z X → Calls Tryd.prog 13 #[.pointer (some ⟨p, 0, none⟩), .string f, .string n, .bool q] X fun e w' => e = .returned (.tuple #[.string s, .bool y]) ∧ Z w') ∧
      (∀ X, Z X → Calls Tryd.prog 14 #[.pointer (some ⟨m, 0, none⟩), .string f, .string n, .bool q] X fun e w' => e = .returned (.tuple #[.string s, .bool y]) ∧ Z w') := by
  obtain ⟨t, c, M, lv, nv, tv, fs, ns, ts, h2, hag, rfl⟩ := h0
  refine ⟨optS (findT t f.data.toList n.data.toList q), (findT t f.data.toList n.data.toList q).isSome, Two W p m (.slice a t.dirs.length cap) t c M lv nv tv fs ns ts, h2, fun X h => h.ls.ended, fun X h => ?_, fun X h => ?_⟩
  · exact (find_any h.ls.ft f n q (by omega) (by omega) (fun d hd' => by have := hd d hd'; omega) (by omega)).mono fun e w' ⟨he, hb⟩ => ⟨he, h.below hb⟩
  · have hS2 := strsAt_below hS h.ls.ended
    cases q with
    | false => exact (rFind_plain h.rt hS2 ha t hag.at f n (by omega) (by omega) (fun d hd' => by have := hd d hd'; omega) (by omega)).mono fun e w' ⟨he, hb⟩ => ⟨he, h.below hb⟩
    | true => exact (rFind_quote h.rt hS2 ha t hag.at f n (by omega) (by omega) (fun d hd' => by have := hd d hd'; omega) (by omega)).mono fun e w' ⟨he, hb⟩ => ⟨he, h.below hb⟩

set_option maxRecDepth 100000 in
set_option maxHeartbeats 6400000 in
theorem search_main {a b : Option Addr} {cap cap2 : Nat} (xs ys : List (List UInt8)) (f n : ByteArray) (q : Bool) (W : World) (hS : StrsAt a xs W) (hn : xs.length ≤ 9223372036854775807) (hb : ∀ x ∈ xs, x.length ≤ 9223372036854775807) (hS2 : StrsAt b ys W) (hn2 : ys.length ≤ 9223372036854775807) (hb2 : ∀ x ∈ ys, x.length ≤ 9223372036854775807) (ha : a = none → cap = 0)
    (h0 : shortB xs 200 = true) (h1 : shortB ys 400 = true) (h2 : ¬ 40 < ys.length) (h3 : ¬ 200 < f.size) (h4 : ¬ 200 < n.size) (h5 : mayB xs = true) :
    Calls Tryd.prog 3 #[.slice a xs.length cap, .slice b ys.length cap2, .string f, .string n, .bool q] W fun e w' => e = .returned (.bool true) ∧ Below W.heap.size W w' := by
  have hnot := not_run
  have k1 : Calls Tryd.prog 7 #[.slice a xs.length cap, .int .i64 200] W fun e w' => e = .returned (.bool (shortB xs 200)) ∧ W = w' := short_any (cap := cap) xs W hS 200 (by decide) hn hb
  have k2 : Calls Tryd.prog 7 #[.slice b ys.length cap2, .int .i64 400] W fun e w' => e = .returned (.bool (shortB ys 400)) ∧ W = w' := short_any (cap := cap2) ys W hS2 400 (by decide) hn2 hb2
  have k3 := may_any (cap := cap) xs W hS hn
  rw [h0] at k1
  rw [h1] at k2
  rw [h5] at k3
  have e2 : ¬ ((40 : Int) < (ys.length : Int)) := by omega
  have e3 : ¬ ((200 : Int) < (f.size : Int)) := by omega
  have e4 : ¬ ((200 : Int) < (n.size : Int)) := by omega
  have hxl : ∀ x ∈ xs, x.length ≤ 200 := fun x hx => by
    unfold shortB at h0
    simp only [Bool.and_eq_true, decide_eq_true_eq] at h0
    have := sumLen_mem hx
    omega
  have hyl : ∀ x ∈ ys, x.length ≤ 400 := fun x hx => by
    unfold shortB at h1
    simp only [Bool.and_eq_true, decide_eq_true_eq] at h1
    have := sumLen_mem hx
    omega
  have hx10 : xs.length ≤ 10 := by
    unfold mayB at h5
    rw [Bool.and_eq_true, decide_eq_true_eq] at h5
    exact h5.1
  have K1 := Lib.hid k1
  have K2 := Lib.hid k2
  have K3 := Lib.hid k3
  have HNW := Lib.hid (fun w (hw : Below W.heap.size W w) => searchNew (cap := cap) hS h5 hxl hw)
  have HFD := Lib.hid (fun p m k w0 (h : Fin W p m (.slice a xs.length cap) xs k w0) => search_find hS ha f n q (by omega) (by omega) hxl hx10 h)
  have HS := Lib.hid hS2
  have HY := Lib.hid hyl
  clear k1 k2 k3 hS hb hS2 hb2 hn hn2 ha h0 h1 h2 h3 h4 h5 hxl hyl
  go_enter Tryd.func3, Tryd.ntmps3
  go_wp2_with (first
    | (go_at_call 7; (with_reducible refine K1.out.mono ?_); rintro e w' ⟨rfl, rfl⟩)
    | (go_at_call 7; (with_reducible refine K2.out.mono ?_); rintro e w' ⟨rfl, rfl⟩)
    | (go_at_call 8; (with_reducible refine K3.out.mono ?_); rintro e w1 ⟨rfl, v1⟩; have V1 := Lib.hid v1; clear v1)
    | (go_at_call 10; (with_reducible refine (HNW.out w1 V1.out).mono ?_); rintro e w2 ⟨p, rfl, l2⟩; have F0 := Lib.hid (searchStart (dv := .slice a xs.length cap) l2); clear l2))
  obtain ⟨m, hm⟩ : ∃ m, w2.heap.size = m := ⟨_, rfl⟩
  rw [hm] at F0
  simp only [hm]
  go_loopw [14] (SearchRel W p m (.slice a xs.length cap) xs ys.length) (fun i _ => ys.length - (intOf i).toNat)
  case atStart => exact ⟨0, rfl, Nat.zero_le _, F0.out⟩
  case round =>
    obtain ⟨k, rfl, hk, hfin⟩ := hrel
    have HF := Lib.hid hfin
    clear hfin F0
    by_cases hlt : k < ys.length
    · obtain ⟨x, hx⟩ : ∃ x, ys[k]? = some x := ⟨_, List.getElem?_eq_getElem hlt⟩
      obtain ⟨ad, had, hadl, hcell0⟩ := HS.out k x hx
      subst had
      have hxs := HY.out x (List.mem_of_getElem? hx)
      obtain ⟨s, hs⟩ : ∃ s : ByteArray, (⟨x.toArray⟩ : ByteArray) = s := ⟨_, rfl⟩
      rw [hs] at hcell0
      have hss : s.size ≤ 1000 := by
        have : s.size = x.length := by rw [← hs]; rfl
        omega
      have HCW := Lib.hid (fun X (h : Below W.heap.size W X) => (h.cell (p := ad.add k) (by rw [add_block]; exact hadl)).trans hcell0)
      have hcw := HCW.out wr HF.out.ended
      obtain ⟨r, St, Mid, hst, hstd, hmidd, hmb, hc1, hc2⟩ := both_create (by omega) s hss HF.out
      have ST := Lib.hid hst
      have STD := Lib.hid hstd
      have MD := Lib.hid hmidd
      have MB := Lib.hid hmb
      have HC1 := Lib.hid hc1
      have HC2 := Lib.hid hc2
      have hki : (0 : Int) ≤ (k : Int) := by omega
      have hkn : (k : Int) < (ys.length : Int) := by omega
      clear hst hstd hmidd hmb hc1 hc2 hcell0 hs hx
      go_wp2
      go_region_held3 (fun w' => w'.cell? (ad.add k) = some (.string s))
        (first | go_keep)
        (first
          | (go_at_call 11; refine (HC1.out _ ?_).mono ?_
             · (repeat (with_reducible apply STD.out)); (with_reducible exact ST.out)
             rintro e x1 ⟨rfl, m1⟩
             have k1 := HCW.out x1 (MB.out x1 m1)
             have M1 := Lib.hid m1
             clear m1)
          | (go_at_call 12; refine (HC2.out _ ?_).mono ?_
             · (repeat (with_reducible apply MD.out)); (with_reducible exact M1.out)
             rintro e x2 ⟨rfl, f2⟩
             have k2 := HCW.out x2 f2.ended
             have F2 := Lib.hid f2
             clear f2))
      all_goals
        go_wp2
        go_roundw
        case rel => exact ⟨k + 1, by go_num, hlt, F2.out⟩
        case measure => simp [intOf]; omega
    · have hge : ¬ ((k : Int) < (ys.length : Int)) := by omega
      obtain ⟨sF, yF, Z, hz, hzb, hz1, hz2⟩ := HFD.out p m k wr HF.out
      have Z0 := Lib.hid hz
      have ZB := Lib.hid hzb
      have Z1 := Lib.hid hz1
      have Z2 := Lib.hid hz2
      clear hz hzb hz1 hz2
      go_wp2_with (first
        | (go_at_call 13; (with_reducible refine (Z1.out wr Z0.out).mono ?_); rintro e y1 ⟨rfl, z1⟩; have A1 := Lib.hid z1; clear z1)
        | (go_at_call 14; (with_reducible refine (Z2.out y1 A1.out).mono ?_); rintro e y2 ⟨rfl, z2⟩; have A2 := Lib.hid z2; clear z2)
        | (go_at_call 9; refine (fAwake_any _).mono ?_; rintro e y3 ⟨rfl, v3⟩; have A3 := Lib.hid ((ZB.out y2 A2.out).trans (v3.mono (ZB.out y2 A2.out).size)); clear v3))
      all_goals go_ret
      all_goals exact ⟨rfl, A3.out⟩

theorem search_all {a b : Option Addr} {cap cap2 : Nat} (xs ys : List (List UInt8)) (f n : ByteArray) (q : Bool) (W : World) (hS : StrsAt a xs W) (hn : xs.length ≤ 9223372036854775807) (hb : ∀ x ∈ xs, x.length ≤ 9223372036854775807) (hS2 : StrsAt b ys W) (hn2 : ys.length ≤ 9223372036854775807) (hb2 : ∀ x ∈ ys, x.length ≤ 9223372036854775807) (ha : a = none → cap = 0) :
    Calls Tryd.prog 3 #[.slice a xs.length cap, .slice b ys.length cap2, .string f, .string n, .bool q] W fun e w' => e = .returned (.bool true) ∧ Below W.heap.size W w' := by
  cases h0 : shortB xs 200 with
  | false => exact searchVoid0 xs ys f n q W hS hn hb hS2 hn2 hb2 h0
  | true =>
    cases h1 : shortB ys 400 with
    | false => exact searchVoid1 xs ys f n q W hS hn hb hS2 hn2 hb2 h0 h1
    | true =>
      by_cases h2 : 40 < ys.length
      · exact searchVoid2 xs ys f n q W hS hn hb hS2 hn2 hb2 h0 h1 h2
      · by_cases h3 : 200 < f.size
        · exact searchVoid3 xs ys f n q W hS hn hb hS2 hn2 hb2 h0 h1 h2 h3
        · by_cases h4 : 200 < n.size
          · exact searchVoid4 xs ys f n q W hS hn hb hS2 hn2 hb2 h0 h1 h2 h3 h4
          · cases h5 : mayB xs with
            | false => exact searchVoid5 xs ys f n q W hS hn hb hS2 hn2 hb2 h0 h1 h2 h3 h4 h5
            | true => exact search_main xs ys f n q W hS hn hb hS2 hn2 hb2 ha h0 h1 h2 h3 h4 h5

end Go.Proofs.YtfjdfdpelilelaaDoor
