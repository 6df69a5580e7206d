/-
  Texts of the proof, put together: Row, LxC, RTri.
-/
import Derived.Test.YtpnboieppkjfnaaGreatRows
import Derived.WalkKit
import Derived.LoopTactic
import Derived.Lib.Hide
import Derived.Lib.Builder
import Derived.Deep.QuietTactic
import Derived.BigQuiet
import Derived.Laws.AppendOwnNone
import Derived.OwnWalk
import Derived.Test.YtpnboieppkjfnaaGreatG02
import Derived.Test.YtpnboieppkjfnaaGreatG06
import Derived.Test.YtpnboieppkjfnaaGreatG01

/-
  Rows of memory that a call owns, of any length and of elements of any size: read, appended to.
-/
namespace Go.Proofs.YtpnboieppkjfnaaGreat
open Go.RowKit

theorem row_lt {w : World} {b : Nat} {o : Obj} (h : w.heap[b]? = some o) : b < w.heap.size := by
  rcases Nat.lt_or_ge b w.heap.size with h1 | h1
  · exact h1
  · rw [Array.getElem?_eq_none h1] at h
    cases h

theorem Below.of_drews (w : World) (n : Nat) : Below w.heap.size w (w.drewN n) := ⟨rfl, rfl, rfl, Nat.le_refl _, fun _ _ => rfl⟩

theorem row_form {B : Nat} {w : World} {v : Value} {e : TypeId} {size n : Nat} {xs : List Value} (h : w.ownsRow B e size v n xs) : ∃ a cap, v = .slice a n cap ∧ n ≤ cap ∧ cap ≤ maxLen ∧ ∀ j u, xs[j]? = some u → ∃ g, a = some ⟨g, 0, none⟩ ∧ g < w.heap.size ∧ w.cell? ⟨g, j, none⟩ = some u := by
  obtain ⟨h1, ⟨rfl, rfl⟩ | ⟨g, cap, cur, rfl, hg, hh, hc, hm, hs, ht⟩⟩ := h
  · exact ⟨none, 0, rfl, Nat.le_refl _, Nat.zero_le _, fun j u hj => by
      have : xs = [] := List.eq_nil_of_length_eq_zero (by omega)
      rw [this] at hj
      simp at hj⟩
  · refine ⟨_, cap, rfl, hc, hm, fun j u hj => ⟨g, rfl, row_lt hh, ?_⟩⟩
    rw [Lib.cell_of_heap hh, ← Array.getElem?_toList]
    have hjl : j < n * size := by
      rcases Nat.lt_or_ge j xs.length with h | h
      · omega
      · rw [List.getElem?_eq_none h] at hj; cases hj
    have e : (cur.toList.take (n * size))[j]? = xs[j]? := by rw [ht]
    rw [List.getElem?_take_of_lt hjl] at e
    rw [e, hj]

/-- A slice as a source: what its cells hold. -/
def Src (w : World) (sv : Value) (m size : Nat) (news : List Value) : Prop :=
  (sv = .slice none 0 0 ∧ m = 0 ∧ news = []) ∨ ∃ ad c, sv = .slice (some ad) m c ∧ news.length = m * size ∧ ∀ j u, news[j]? = some u → w.cell? (ad.add j) = some u

theorem add_block2 (a : Addr) (i : Nat) : (a.add i).block = a.block := by unfold Addr.add; split <;> rfl

theorem addr_add (g j : Nat) : (⟨g, 0, none⟩ : Addr).add j = ⟨g, j, none⟩ := by
  simp [Addr.add]
  intro h
  exact h.symm

theorem row_src {B : Nat} {w : World} {v : Value} {e : TypeId} {size n : Nat} {xs : List Value} (h : w.ownsRow B e size v n xs) : Src w v n size xs := by
  have h0 := h
  obtain ⟨h1, ⟨rfl, rfl⟩ | ⟨g, cap, cur, rfl, -⟩⟩ := h
  · exact .inl ⟨rfl, rfl, List.eq_nil_of_length_eq_zero (by omega)⟩
  · obtain ⟨a, cap', hv, -, -, hc⟩ := row_form h0
    refine .inr ⟨_, cap, rfl, h1, fun j u hj => ?_⟩
    obtain ⟨g', hg, -, hcell⟩ := hc j u hj
    simp only [Value.slice.injEq] at hv
    rw [hg] at hv
    simp only [Option.some.injEq, Addr.mk.injEq, and_true] at hv
    rw [addr_add, hv.1]
    exact hcell

theorem run_app {t ty e : TypeId} {i0 : TypeInfo} {z : Value} {size bytes : Nat} {B n m : Nat} {v sv : Value} {xs news : List Value} {w : World}
    (ht : Tryz.prog.underlying t = some (.slice e)) (hi : Tryz.prog.info? e = some i0) (hz : i0.zero = some z) (hsz : i0.size = size) (hby : i0.bytes = bytes) (hzs : z.cells.size = size) (hpos : 0 < size) (hbb : bytes ≤ 100)
    (hd : w.ownsRow B e size v n xs) (hs : Src w sv m size news) (h1 : ∀ u ∈ news, u.oneCell' = true) (hn : n + m ≤ 1000000) (hB : B ≤ w.heap.size) :
    ∃ v' w', (Builtin.append_ #[t, t] ty #[v, sv]).run Tryz.prog w = .ok v' w' ∧ (w'.ownsRow B e size v' (n + m) (xs ++ news) ∧ w.grownBy w' v.ownBlock) := by
  have hbytes : (n + m) * bytes ≤ 140737488355328 := by
    have := Nat.mul_le_mul hn hbb
    omega
  rcases hs with ⟨rfl, rfl, rfl⟩ | ⟨ad, c, rfl, hl, hc⟩
  · rw [List.append_nil]
    exact ⟨v, w, run_append_owned_none (P := Tryz.prog) (w := w) B t ty e i0 size ht hi v n xs hd, hd, World.grownBy.refl w _⟩
  · obtain ⟨v', w', hr, h2, h3, -⟩ := run_append_own (P := Tryz.prog) w B t ty e i0 z size bytes ht hi hz hsz hby hzs hpos v n xs hd ad m c news hl hc h1 (by unfold maxLen; omega) hbytes hB
    exact ⟨v', w', hr, h2, h3⟩

/-- An append of which it is known that it goes through. -/
theorem wpList_append_ex {ops : Array Oper} {rest : List Oper} {o : Oper} {a : Act} {w : World} {Q : Exit → Act → World → Prop} (hg : o.guard = none) (s x : Operand) (t : TypeId)
    (ho : o.op = .call { callee := .builtin .append, args := #[s, x], argTypes := #[t, t] }) (R : Value → World → Prop)
    (h : ∃ v' w', (Builtin.append_ #[t, t] o.type #[a.eval s, a.eval x]).run Tryz.prog w = .ok v' w' ∧ R v' w') (hK : ∀ v' w', R v' w' → wpList Tryz.prog ops Q rest (a.put o.dst v') w') : wpList Tryz.prog ops Q (o :: rest) a w := by
  obtain ⟨v', w', hr, hR⟩ := h
  refine wpList_plain hg fun K' hK' => ?_
  unfold Oper.wp
  simp only [execOp, ho, resolve, invoke, builtin, Sem.run_bind, Sem.run_pure, Result.andThen_ok, List.map_toArray, List.map_cons, List.map_nil, hr]
  exact hK' _ _ (hK v' w' hR)

theorem row_empty {B : Nat} {w : World} (e : TypeId) (size : Nat) (hB : B ≤ w.heap.size) : (w.alloc (.cells #[] e)).ownsRow B e size (.slice (some ⟨w.heap.size, 0, none⟩) 0 0) 0 [] :=
  World.ownsRow_made w #[] 0 hB (Nat.zero_le _) (by simp)

/-- A source of one element, just laid. -/
theorem src_one (w : World) (u : Value) (e : TypeId) : Src (w.alloc (.cells #[u] e)) (.slice (some ⟨w.heap.size, 0, none⟩) 1 1) 1 1 [u] :=
  .inr ⟨_, 1, rfl, rfl, fun j x hj => by
    match j, hj with
    | 0, hj => simp at hj; subst hj; simp [Addr.add]⟩

theorem Src.below {w w' : World} {sv : Value} {m size : Nat} {news : List Value} (h : Src w sv m size news) (hlt : ∀ ad m c, sv = .slice (some ad) m c → ad.block < w.heap.size) (b : Below w.heap.size w w') : Src w' sv m size news := by
  rcases h with h | ⟨ad, c, rfl, hl, hc⟩
  · exact .inl h
  · refine .inr ⟨ad, c, rfl, hl, fun j u hj => ?_⟩
    rw [b.cell (by rw [add_block2]; exact hlt ad m c rfl)]
    exact hc j u hj

/-- A row of the call's own, above W. -/
def Up (W : World) (e : TypeId) (size : Nat) (v : Value) (n : Nat) (xs : List Value) (w : World) : Prop :=
  w.ownsRow W.heap.size e size v n xs ∧ Below W.heap.size W w

theorem app_up {t ty e : TypeId} {i0 : TypeInfo} {z : Value} {size bytes : Nat} {n m : Nat} {v sv : Value} {xs news : List Value} {W w : World}
    (ht : Tryz.prog.underlying t = some (.slice e)) (hi : Tryz.prog.info? e = some i0) (hz : i0.zero = some z) (hsz : i0.size = size) (hby : i0.bytes = bytes) (hzs : z.cells.size = size) (hpos : 0 < size) (hbb : bytes ≤ 100)
    (hd : Up W e size v n xs w) (hs : Src w sv m size news) (h1 : ∀ u ∈ news, u.oneCell' = true) (hn : n + m ≤ 1000000) :
    ∃ v' w', (Builtin.append_ #[t, t] ty #[v, sv]).run Tryz.prog w = .ok v' w' ∧ Up W e size v' (n + m) (xs ++ news) w' := by
  obtain ⟨v', w', hr, h2, h3⟩ := run_app (ty := ty) ht hi hz hsz hby hzs hpos hbb hd.1 hs h1 hn hd.2.size
  exact ⟨v', w', hr, h2, hd.2.grown h3 hd.2.size fun k hk => (World.ownsRow.lt hd.1 k hk).1⟩

theorem up_empty (w : World) (e : TypeId) (size : Nat) : Up w e size (.slice (some ⟨w.heap.size, 0, none⟩) 0 0) 0 [] (w.alloc (.cells #[] e)) :=
  ⟨row_empty e size (Nat.le_refl _), (Below.refl _ _).alloc (Nat.le_refl _) _⟩

theorem up_nil (w : World) (e : TypeId) (size : Nat) : Up w e size (.slice none 0 0) 0 [] w := ⟨⟨by simp, .inl ⟨rfl, rfl⟩⟩, Below.refl _ _⟩

theorem Up.alloc {W w : World} {e : TypeId} {size : Nat} {v : Value} {n : Nat} {xs : List Value} (h : Up W e size v n xs w) (o : Obj) : Up W e size v n xs (w.alloc o) :=
  ⟨World.ownsRow.alloc h.1 o, h.2.alloc h.2.size o⟩

/-- A row that was there is a source in any world above. -/
theorem row_src_up {B : Nat} {W w : World} {v : Value} {e : TypeId} {size n : Nat} {xs : List Value} (h : W.ownsRow B e size v n xs) (b : Below W.heap.size W w) : Src w v n size xs :=
  (row_src h).below (fun ad m c e => (World.ownsRow.lt h ad.block (by rw [e]; simp [Value.ownBlock])).2) b

theorem row_low {w : World} {base base' : Nat} {e : TypeId} {size : Nat} {v : Value} {n : Nat} {xs : List Value} (h : w.ownsRow base e size v n xs) (hb : base' ≤ base) : w.ownsRow base' e size v n xs := by
  obtain ⟨h1, h2 | ⟨g, cap, cur, rfl, hg, h3⟩⟩ := h
  · exact ⟨h1, .inl h2⟩
  · exact ⟨h1, .inr ⟨g, cap, cur, rfl, Nat.le_trans hb hg, h3⟩⟩

theorem src_nil (w : World) (size : Nat) : Src w (.slice none 0 0) 0 size [] := .inl ⟨rfl, rfl, rfl⟩

end Go.Proofs.YtpnboieppkjfnaaGreat

/-
  What a byte is: the project's and the document's words, walked.
-/
namespace Go.Proofs.YtpnboieppkjfnaaGreat
open Go.RowKit

def BoolPost (b : Bool) (w : World) (e : Ending) (w' : World) : Prop := e = .returned (.bool b) ∧ w = w'
def NatPost (n : Nat) (w : World) (e : Ending) (w' : World) : Prop := e = .returned (.int .i64 (n : Int)) ∧ w = w'

theorem ret_bool {a b : Bool} (h : a = b) : Ending.returned (.bool a) = .returned (.bool b) := by rw [h]
theorem ret_nat {a b : Int} (h : a = b) : Ending.returned (.int .i64 a) = .returned (.int .i64 b) := by rw [h]

set_option maxRecDepth 100000 in
theorem letter_any (c : UInt8) (w : World) : Calls Tryz.prog 145 #[.int .u8 (c.toNat : Int)] w (BoolPost (isLet c) w) := by
  have hc : (c.toNat : Int) < 256 := by have := c.toNat_lt; omega
  go_enter Tryz.func145, Tryz.ntmps145
  go_wp2
  all_goals
    go_ret
    refine ⟨ret_bool ?_, rfl⟩
    unfold isLet
    rw [Bool.eq_iff_iff]
    simp
    try omega

set_option maxRecDepth 100000 in
theorem digit_any (c : UInt8) (w : World) : Calls Tryz.prog 147 #[.int .u8 (c.toNat : Int)] w (BoolPost (isDig c) w) := by
  have hc : (c.toNat : Int) < 256 := by have := c.toNat_lt; omega
  go_enter Tryz.func147, Tryz.ntmps147
  go_wp2
  all_goals
    go_ret
    refine ⟨ret_bool ?_, rfl⟩
    unfold isDig
    rw [Bool.eq_iff_iff]
    simp
    try omega

set_option maxRecDepth 100000 in
theorem white_any (c : UInt8) (w : World) : Calls Tryz.prog 139 #[.int .u8 (c.toNat : Int)] w (BoolPost (isWhi c) w) := by
  have hc : (c.toNat : Int) < 256 := by have := c.toNat_lt; omega
  go_enter Tryz.func139, Tryz.ntmps139
  go_wp2
  all_goals
    go_ret
    refine ⟨ret_bool ?_, rfl⟩
    unfold isWhi
    rw [Bool.eq_iff_iff]
    simp
    try omega

set_option maxRecDepth 100000 in
theorem rLetter_any (c : UInt8) (w : World) : Calls Tryz.prog 57 #[.int .u8 (c.toNat : Int)] w (BoolPost (isLet c) w) := by
  have hc : (c.toNat : Int) < 256 := by have := c.toNat_lt; omega
  go_enter Tryz.func57, Tryz.ntmps57
  go_wp2
  all_goals
    go_ret
    refine ⟨ret_bool ?_, rfl⟩
    unfold isLet
    rw [Bool.eq_iff_iff]
    simp
    try omega

set_option maxRecDepth 100000 in
theorem rDigit_any (c : UInt8) (w : World) : Calls Tryz.prog 58 #[.int .u8 (c.toNat : Int)] w (BoolPost (isDig c) w) := by
  have hc : (c.toNat : Int) < 256 := by have := c.toNat_lt; omega
  go_enter Tryz.func58, Tryz.ntmps58
  go_wp2
  all_goals
    go_ret
    refine ⟨ret_bool ?_, rfl⟩
    unfold isDig
    rw [Bool.eq_iff_iff]
    simp
    try omega

set_option maxRecDepth 100000 in
theorem rWhite_any (c : UInt8) (w : World) : Calls Tryz.prog 34 #[.int .u8 (c.toNat : Int)] w (BoolPost (isWhi c) w) := by
  have hc : (c.toNat : Int) < 256 := by have := c.toNat_lt; omega
  go_enter Tryz.func34, Tryz.ntmps34
  go_wp2
  all_goals
    go_ret
    refine ⟨ret_bool ?_, rfl⟩
    unfold isWhi
    rw [Bool.eq_iff_iff]
    simp
    try omega

set_option maxRecDepth 100000 in
theorem endless_any (k : Nat) (c : UInt8) (w : World) (_hk : k ≤ 100) : Calls Tryz.prog 141 #[.int .i64 (k : Int), .int .u8 (c.toNat : Int)] w (BoolPost (badN k c) w) := by
  have hc : (c.toNat : Int) < 256 := by have := c.toNat_lt; omega
  go_enter Tryz.func141, Tryz.ntmps141
  go_wp2
  all_goals
    go_ret
    refine ⟨ret_bool ?_, rfl⟩
    unfold badN
    rw [Bool.eq_iff_iff]
    simp
    try omega

theorem letter_is {c : UInt8} {b : Bool} (h : isLet c = b) (W : World) : Calls Tryz.prog 145 #[.int .u8 (c.toNat : Int)] W (BoolPost b W) := h ▸ letter_any c W
theorem digit_is {c : UInt8} {b : Bool} (h : isDig c = b) (W : World) : Calls Tryz.prog 147 #[.int .u8 (c.toNat : Int)] W (BoolPost b W) := h ▸ digit_any c W
theorem white_is {c : UInt8} {b : Bool} (h : isWhi c = b) (W : World) : Calls Tryz.prog 139 #[.int .u8 (c.toNat : Int)] W (BoolPost b W) := h ▸ white_any c W

theorem rLetter_is {c : UInt8} {b : Bool} (h : isLet c = b) (W : World) : Calls Tryz.prog 57 #[.int .u8 (c.toNat : Int)] W (BoolPost b W) := h ▸ rLetter_any c W
theorem rDigit_is {c : UInt8} {b : Bool} (h : isDig c = b) (W : World) : Calls Tryz.prog 58 #[.int .u8 (c.toNat : Int)] W (BoolPost b W) := h ▸ rDigit_any c W
theorem rWhite_is {c : UInt8} {b : Bool} (h : isWhi c = b) (W : World) : Calls Tryz.prog 34 #[.int .u8 (c.toNat : Int)] W (BoolPost b W) := h ▸ rWhite_any c W

theorem endless_is {k : Nat} {c : UInt8} {b : Bool} (hk : k ≤ 100) (h : badN k c = b) (W : World) : Calls Tryz.prog 141 #[.int .i64 (k : Int), .int .u8 (c.toNat : Int)] W (BoolPost b W) := h ▸ endless_any k c W hk

end Go.Proofs.YtpnboieppkjfnaaGreat

/-
  The document's own Trigraph, walked.
-/
namespace Go.Proofs.YtpnboieppkjfnaaGreat
open Go.RowKit

def TriPost (c : UInt8) (w : World) (e : Ending) (w' : World) : Prop :=
  e = .returned (.tuple #[.int .u8 ((triB c).toNat : Int), .bool (isTri c)]) ∧ w = w'

theorem triPost_sign {c : UInt8} {w : World} (k : Nat) (hk : k < 9) (x : Int) (h1 : signL.getD k 0 = c) (h2 : ((standL.getD k 0).toNat : Int) = x) : TriPost c w (.returned (.tuple #[.int .u8 x, .bool true])) w := by
  have h := tri_sign k hk
  rw [h1] at h
  refine ⟨?_, rfl⟩
  rw [h.1, h.2, h2]

theorem triPost_none {c : UInt8} {w : World} (h : ∀ j < 9, signL.getD j 0 ≠ c) : TriPost c w (.returned (.tuple #[.int .u8 0, .bool false])) w := by
  have h := tri_none h
  refine ⟨?_, rfl⟩
  unfold triB isTri
  rw [h]
  rfl

def RTriRel (c : UInt8) (i : Value) : Prop := ∃ k : Nat, i = .int .i64 (k : Int) ∧ k ≤ 9 ∧ ∀ j < k, signL.getD j 0 ≠ c

theorem sign_ne {c : UInt8} {n : Nat} (k : Nat) (h : ((n : Int) == (c.toNat : Int)) = false) (hn : (signL.getD k 0).toNat = n) : signL.getD k 0 ≠ c := by
  rintro rfl
  subst hn
  simp at h
theorem sign_eq {c : UInt8} {n : Nat} (k : Nat) (h : ((n : Int) == (c.toNat : Int)) = true) (hn : (signL.getD k 0).toNat = n) : signL.getD k 0 = c := by
  subst hn
  rw [beq_iff_eq] at h
  exact UInt8.toNat_inj.1 (by omega)
theorem sign_next {c : UInt8} {k : Nat} (h : ∀ j < k, signL.getD j 0 ≠ c) (h1 : signL.getD k 0 ≠ c) : ∀ j < k + 1, signL.getD j 0 ≠ c := by
  intro j hj
  by_cases e : j = k
  · rw [e]
    exact h1
  · exact h j (by omega)

set_option maxRecDepth 100000 in
set_option maxHeartbeats 1600000 in
theorem rTri_any (c : UInt8) (w : World) : Calls Tryz.prog 77 #[.int .u8 (c.toNat : Int)] w (TriPost c w) := by
  have hc : (c.toNat : Int) < 256 := by have := c.toNat_lt; omega
  go_enter Tryz.func77, Tryz.ntmps77
  go_wp2
  go_loop [4] (RTriRel c) (fun i => 9 - (intOf i).toNat)
  case atStart => exact ⟨0, rfl, by omega, fun j hj => by omega⟩
  case round =>
    obtain ⟨k, rfl, hk, hall⟩ := hrel
    have HA := Lib.hid hall
    clear hall
    obtain rfl | rfl | rfl | rfl | rfl | rfl | rfl | rfl | rfl | rfl : k = 0 ∨ k = 1 ∨ k = 2 ∨ k = 3 ∨ k = 4 ∨ k = 5 ∨ k = 6 ∨ k = 7 ∨ k = 8 ∨ k = 9 := by omega
    · go_wp2
      · go_ret2
        exact triPost_sign 0 (by omega) _ (sign_eq 0 ‹_› rfl) rfl
      · go_round
        case rel => exact ⟨1, rfl, by omega, sign_next HA.out (sign_ne 0 ‹_› rfl)⟩
        case measure => decide
    · go_wp2
      · go_ret2
        exact triPost_sign 1 (by omega) _ (sign_eq 1 ‹_› rfl) rfl
      · go_round
        case rel => exact ⟨2, rfl, by omega, sign_next HA.out (sign_ne 1 ‹_› rfl)⟩
        case measure => decide
    · go_wp2
      · go_ret2
        exact triPost_sign 2 (by omega) _ (sign_eq 2 ‹_› rfl) rfl
      · go_round
        case rel => exact ⟨3, rfl, by omega, sign_next HA.out (sign_ne 2 ‹_› rfl)⟩
        case measure => decide
    · go_wp2
      · go_ret2
        exact triPost_sign 3 (by omega) _ (sign_eq 3 ‹_› rfl) rfl
      · go_round
        case rel => exact ⟨4, rfl, by omega, sign_next HA.out (sign_ne 3 ‹_› rfl)⟩
        case measure => decide
    · go_wp2
      · go_ret2
        exact triPost_sign 4 (by omega) _ (sign_eq 4 ‹_› rfl) rfl
      · go_round
        case rel => exact ⟨5, rfl, by omega, sign_next HA.out (sign_ne 4 ‹_› rfl)⟩
        case measure => decide
    · go_wp2
      · go_ret2
        exact triPost_sign 5 (by omega) _ (sign_eq 5 ‹_› rfl) rfl
      · go_round
        case rel => exact ⟨6, rfl, by omega, sign_next HA.out (sign_ne 5 ‹_› rfl)⟩
        case measure => decide
    · go_wp2
      · go_ret2
        exact triPost_sign 6 (by omega) _ (sign_eq 6 ‹_› rfl) rfl
      · go_round
        case rel => exact ⟨7, rfl, by omega, sign_next HA.out (sign_ne 6 ‹_› rfl)⟩
        case measure => decide
    · go_wp2
      · go_ret2
        exact triPost_sign 7 (by omega) _ (sign_eq 7 ‹_› rfl) rfl
      · go_round
        case rel => exact ⟨8, rfl, by omega, sign_next HA.out (sign_ne 7 ‹_› rfl)⟩
        case measure => decide
    · go_wp2
      · go_ret2
        exact triPost_sign 8 (by omega) _ (sign_eq 8 ‹_› rfl) rfl
      · go_round
        case rel => exact ⟨9, rfl, by omega, sign_next HA.out (sign_ne 8 ‹_› rfl)⟩
        case measure => decide
    · go_wp2
      go_ret2
      exact triPost_none HA.out

end Go.Proofs.YtpnboieppkjfnaaGreat
