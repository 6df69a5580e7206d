/-
  Texts of the proof, put together: RPlain, LxW.
-/
import Derived.Test.YtpnboieppkjfnaaGreatG11

/-
  The document's own walk over bytes, trigraphs as one, in memory.
-/
namespace Go.Proofs.YtpnboieppkjfnaaGreat
open Go.RowKit

/-- The cells of characters. -/
def rcell (r : Rn) : List Value := [.int .u8 (r.c.toNat : Int), .int .i64 (r.f : Int), .int .i64 (r.t : Int)]
def rcells (L : List Rn) : List Value := L.flatMap rcell

theorem rcells_append (a b : List Rn) : rcells (a ++ b) = rcells a ++ rcells b := by simp [rcells]
theorem rcells_len (L : List Rn) : (rcells L).length = L.length * 3 := by
  induction L with
  | nil => rfl
  | cons a r ih => simp [rcells, rcell] at ih ⊢; omega
theorem rcell_one (r : Rn) : ∀ u ∈ rcell r, u.oneCell' = true := by
  intro u hu
  simp only [rcell, List.mem_cons, List.not_mem_nil, or_false] at hu
  rcases hu with rfl | rfl | rfl <;> rfl
theorem rcells_get : ∀ (L : List Rn) (i : Nat) (r : Rn), L[i]? = some r → (rcells L)[i * 3]? = some (.int .u8 (r.c.toNat : Int)) ∧ (rcells L)[i * 3 + 1]? = some (.int .i64 (r.f : Int)) ∧ (rcells L)[i * 3 + 2]? = some (.int .i64 (r.t : Int))
  | [], i, r, h => by simp at h
  | a :: q, 0, r, h => by
    simp at h
    subst h
    exact ⟨rfl, rfl, rfl⟩
  | a :: q, i + 1, r, h => by
    have := rcells_get q i r (by simpa using h)
    show (rcell a ++ rcells q)[(i + 1) * 3]? = _ ∧ (rcell a ++ rcells q)[(i + 1) * 3 + 1]? = _ ∧ (rcell a ++ rcells q)[(i + 1) * 3 + 2]? = _
    have hl : (rcell a).length = 3 := rfl
    rw [show (i + 1) * 3 = 3 + i * 3 from by omega, show 3 + i * 3 + 1 = 3 + (i * 3 + 1) from by omega, show 3 + i * 3 + 2 = 3 + (i * 3 + 2) from by omega, List.getElem?_append_right (by omega), List.getElem?_append_right (by omega), List.getElem?_append_right (by omega), hl]
    simpa using this

theorem src_three (w : World) (x y z : Int) (e : TypeId) : Src (w.alloc (.cells #[.int .u8 x, .int .i64 y, .int .i64 z] e)) (.slice (some ⟨w.heap.size, 0, none⟩) 1 1) 1 3 [.int .u8 x, .int .i64 y, .int .i64 z] :=
  .inr ⟨_, 1, rfl, rfl, fun j u hj => by
    match j, hj with
    | 0, hj => simp at hj; subst hj; simp [Addr.add]
    | 1, hj => simp at hj; subst hj; simp [Addr.add]
    | 2, hj => simp at hj; subst hj; simp [Addr.add]⟩

theorem three_one {x y z : Int} : ∀ u ∈ [Value.int .u8 x, .int .i64 y, .int .i64 z], u.oneCell' = true := by
  intro u hu
  simp only [List.mem_cons, List.not_mem_nil, or_false] at hu
  rcases hu with rfl | rfl | rfl <;> rfl

theorem rcells_push {L : List Rn} {r : Rn} {x y z : Int} (hx : x = (r.c.toNat : Int)) (hy : y = (r.f : Int)) (hz : z = (r.t : Int)) : rcells L ++ [.int .u8 x, .int .i64 y, .int .i64 z] = rcells (L ++ [r]) := by
  rw [rcells_append, hx, hy, hz]
  simp [rcells, rcell]

theorem Tryz.infoRRune : (Tryz.prog.info? 97).map (fun i => (i.zero, i.size, i.bytes)) = some (some (.agg #[.int .u8 0, .int .i64 0, .int .i64 0]), 3, 24) := by kernel_rfl

theorem get_byte (s : ByteArray) (i : Nat) (h : i < s.size) : s.data.toList.getD i 0 = s[i] := by
  obtain ⟨d⟩ := s
  have h' : i < d.size := h
  show d.toList.getD i 0 = d[i]
  simp [List.getD, h']

theorem len_byte (s : ByteArray) : s.data.toList.length = s.size := by
  obtain ⟨d⟩ := s
  simp [ByteArray.size]

/-- A row of the document's characters. -/
def RRow (W : World) (v : Value) (L : List Rn) (w : World) : Prop := Up W 97 3 v L.length (rcells L) w

theorem RRow.push {W : World} {v : Value} {L : List Rn} {w : World} {x y z : Int} (r : Rn) (h : Up W 97 3 v (L.length + 1) (rcells L ++ [.int .u8 x, .int .i64 y, .int .i64 z]) w) (hx : x = (r.c.toNat : Int)) (hy : y = (r.f : Int)) (hz : z = (r.t : Int)) : RRow W v (L ++ [r]) w := by
  rw [rcells_push hx hy hz] at h
  unfold RRow
  rw [List.length_append]
  exact h

theorem one_tri {s : ByteArray} {k : Nat} (h2 : k + 2 < s.size) (ha : ((s[k].toNat : Nat) : Int) = 63) (hb : (((s[k + 1].toNat : Nat) : Int) == 63) = true) (ht : isTri s[k + 2] = true) : one s.data.toList k = ⟨triB s[k + 2], k, k + 3⟩ := by
  rw [beq_iff_eq] at hb
  have e1 : s.data.toList.getD k 0 = 63 := by rw [get_byte s k (by omega)]; exact UInt8.toNat_inj.1 (by show _ = 63; omega)
  have e2 : s.data.toList.getD (k + 1) 0 = 63 := by rw [get_byte s (k + 1) (by omega)]; exact UInt8.toNat_inj.1 (by show _ = 63; omega)
  have e3 : triAt s.data.toList k = tri s[k + 2] := by
    unfold triAt
    rw [if_pos ⟨by rw [len_byte]; exact h2, e1, e2⟩, get_byte s (k + 2) h2]
  unfold one
  unfold isTri at ht
  unfold triB
  rw [e3]
  cases hq : tri s[k + 2] with
  | none => rw [hq] at ht; cases ht
  | some d => rfl

theorem one_not {s : ByteArray} {k : Nat} (hk : k < s.size) (h : triAt s.data.toList k = none) : one s.data.toList k = ⟨s[k], k, k + 1⟩ := by
  unfold one
  rw [h, get_byte s k hk]

theorem one_short {s : ByteArray} {k : Nat} (hk : k < s.size) (h : ¬ k + 2 < s.size) : one s.data.toList k = ⟨s[k], k, k + 1⟩ := by
  apply one_not hk
  unfold triAt
  rw [if_neg]
  rw [len_byte]
  exact fun h1 => h h1.1

theorem one_a {s : ByteArray} {k : Nat} (hk : k < s.size) (h : ¬ ((s[k].toNat : Nat) : Int) = 63) : one s.data.toList k = ⟨s[k], k, k + 1⟩ := by
  apply one_not hk
  apply triAt_not
  rw [get_byte s k hk]
  intro e
  rw [e] at h
  exact h rfl

theorem one_b {s : ByteArray} {k : Nat} (hk : k + 1 < s.size) (h : (((s[k + 1].toNat : Nat) : Int) == 63) = false) : one s.data.toList k = ⟨s[k], k, k + 1⟩ := by
  apply one_not (by omega)
  apply triAt_not2
  rw [get_byte s (k + 1) hk]
  intro e
  rw [e] at h
  exact absurd h (by decide)

theorem one_no {s : ByteArray} {k : Nat} (hk : k + 2 < s.size) (h : isTri s[k + 2] = false) : one s.data.toList k = ⟨s[k], k, k + 1⟩ := by
  apply one_not (by omega)
  unfold triAt
  split
  · rw [get_byte s (k + 2) hk]
    unfold isTri at h
    simpa using h
  · rfl

def RPlainRel (W : World) (l : List UInt8) (o i : Value) (w : World) : Prop :=
  ∃ (k : Nat) (L : List Rn) (a : Option Addr) (n cap : Nat), i = .int .i64 (k : Int) ∧ k ≤ l.length ∧ L.length ≤ k ∧ o = .slice a n cap ∧ n = L.length ∧ L ++ pls l k = pls l 0 ∧ RRow W o L w

def RRowPost (W : World) (L : List Rn) (e : Ending) (w' : World) : Prop :=
  ∃ (a : Option Addr) (n cap : Nat), n = L.length ∧ e = .returned (.slice a n cap) ∧ RRow W (.slice a n cap) L w'

theorem pls_push {l : List UInt8} {k : Nat} {L : List Rn} {r : Rn} (hk : k < l.length) (h : L ++ pls l k = pls l 0) (ho : one l k = r) : (L ++ [r]) ++ pls l r.t = pls l 0 := by
  rw [← h, pls_step hk, ho, List.append_assoc]
  rfl

theorem rplain_next {W : World} {s : ByteArray} {k : Nat} {L : List Rn} {w : World} {a : Option Addr} {cap : Nat} {r : Rn} {x : Int} (hx : x = (r.t : Int)) (hk : k < s.size) (hLk : L.length ≤ k) (ho : one s.data.toList k = r) (hL : L ++ pls s.data.toList k = pls s.data.toList 0) (hU : RRow W (.slice a (L.length + 1) cap) (L ++ [r]) w) :
    RPlainRel W s.data.toList (.slice a (L.length + 1) cap) (.int .i64 x) w := by
  have h1 := one_t s.data.toList k
  have hl := len_byte s
  rw [ho] at h1
  refine ⟨r.t, L ++ [r], a, L.length + 1, cap, by rw [hx], by have := h1.2.2 (by omega); omega, by simp; omega, rfl, by simp, pls_push (by omega) hL ho, hU⟩

set_option maxRecDepth 100000 in
set_option maxHeartbeats 1600000 in
theorem rPlain_any (s : ByteArray) (w : World) (hs : s.size ≤ 100000) : Calls Tryz.prog 53 #[.string s] w (RRowPost w (pls s.data.toList 0)) := by
  obtain ⟨i0, hi, hz0, hz1, hz2⟩ := info_parts Tryz.infoRRune
  have R0 : Up w 97 3 (.slice none 0 0) 0 [] w := up_nil w _ 3
  have HR0 := Lib.hid R0
  clear R0
  have hlen := len_byte s
  have HL := Lib.hid hlen
  clear hlen
  go_enter Tryz.func53, Tryz.ntmps53
  go_wp2
  go_loopw [3, 4] (fun o i w' => RPlainRel w s.data.toList o i w') (fun _ i _ => s.size - (intOf i).toNat)
  case atStart => exact ⟨0, [], none, 0, 0, rfl, Nat.zero_le _, Nat.le_refl _, rfl, rfl, rfl, HR0.out⟩
  case round =>
    obtain ⟨k, L, a, n, cap, rfl, hk, hLk, rfl, rfl, hL, hU⟩ := hrel
    rw [HL.out] at hk
    have HU := Lib.hid hU
    have HLL := Lib.hid hL
    clear hU hL
    by_cases hlt : k < s.size
    · by_cases h2 : k + 2 < s.size
      · go_wp2_with (first
          | (go_at_call 77; (with_reducible refine (rTri_any (s[k + 2]'h2) _).mono ?_); rintro e w1 ⟨rfl, rfl⟩)
          | (at_builtin; refine wpList_append_ex rfl (.tmp 48) (.tmp 56) 94 rfl _ (app_up Tryz.underlying94 hi hz0 hz1 hz2 rfl (by decide) (by decide) (HU.out.alloc _) (src_three _ _ _ _ _) three_one (by omega)) ?_; intro v2 w2 hu2; obtain ⟨a2, cap2, rfl, -, -, -⟩ := row_form hu2.1; have U2 := Lib.hid (RRow.push ⟨s[k], k, k + 1⟩ hu2 (by first | rfl | (show _ = ((s[k].toNat : Nat) : Int); omega)) rfl (by simp)); clear hu2)
          | (at_builtin; refine wpList_append_ex rfl (.tmp 38) (.tmp 44) 94 rfl _ (app_up Tryz.underlying94 hi hz0 hz1 hz2 rfl (by decide) (by decide) (HU.out.alloc _) (src_three _ _ _ _ _) three_one (by omega)) ?_; intro v2 w2 hu2; obtain ⟨a2, cap2, rfl, -, -, -⟩ := row_form hu2.1; have U2 := Lib.hid (RRow.push ⟨triB s[k + 2], k, k + 3⟩ hu2 (by first | rfl | (show _ = ((s[k].toNat : Nat) : Int); omega)) rfl (by simp)); clear hu2))
        all_goals go_roundw
        all_goals (first
          | (case rel => exact rplain_next (by simp) hlt hLk (by first | exact one_tri h2 ‹_› ‹_› ‹_› | exact one_a hlt ‹_› | exact one_b (by omega) ‹_› | exact one_no h2 ‹_›) HLL.out U2.out)
          | (case measure => simp [intOf]; omega))
      · go_wp2_with (at_builtin; refine wpList_append_ex rfl (.tmp 48) (.tmp 56) 94 rfl _ (app_up Tryz.underlying94 hi hz0 hz1 hz2 rfl (by decide) (by decide) (HU.out.alloc _) (src_three _ _ _ _ _) three_one (by omega)) ?_; intro v2 w2 hu2; obtain ⟨a2, cap2, rfl, -, -, -⟩ := row_form hu2.1; have U2 := Lib.hid (RRow.push ⟨s[k], k, k + 1⟩ hu2 (by first | rfl | (show _ = ((s[k].toNat : Nat) : Int); omega)) rfl (by simp)); clear hu2)
        go_roundw
        case rel => exact rplain_next (by simp) hlt hLk (one_short hlt h2) HLL.out U2.out
        case measure => simp [intOf]; omega
    · go_wp2
      go_ret
      have e : pls s.data.toList k = [] := pls_end (by rw [HL.out]; omega)
      have h3 := HLL.out
      rw [e, List.append_nil] at h3
      rw [← h3]
      exact ⟨a, _, cap, rfl, rfl, HU.out⟩

end Go.Proofs.YtpnboieppkjfnaaGreat

/-
  Words and numbers, of the project: how long they are.
-/
namespace Go.Proofs.YtpnboieppkjfnaaGreat
open Go.RowKit

theorem quiet_bool {f : FuncId} {args : Array Value} {w : World} {n : Nat} {b : Bool} (h : Calls Tryz.prog f args (w.drewN n) (BoolPost b (w.drewN n))) :
    Calls Tryz.prog f args (w.drewN n) fun e w'' => e = .returned (.bool b) ∧ ∃ m, w'' = w.drewN m :=
  h.mono fun _ _ ⟨he, hm⟩ => ⟨he, n, hm.symm⟩
theorem quiet_nat {f : FuncId} {args : Array Value} {w : World} {n : Nat} {b : Nat} (h : Calls Tryz.prog f args (w.drewN n) (NatPost b (w.drewN n))) :
    Calls Tryz.prog f args (w.drewN n) fun e w'' => e = .returned (.int .i64 (b : Int)) ∧ ∃ m, w'' = w.drewN m :=
  h.mono fun _ _ ⟨he, hm⟩ => ⟨he, n, hm.symm⟩
/-- A natural number, in a world that may have drawn. -/
def NatDrew (b : Nat) (w : World) (e : Ending) (w' : World) : Prop := e = .returned (.int .i64 (b : Int)) ∧ ∃ n, w' = w.drewN n
theorem quiet_ndrew {f : FuncId} {args : Array Value} {w : World} {n : Nat} {b : Nat} (h : Calls Tryz.prog f args (w.drewN n) (NatDrew b (w.drewN n))) :
    Calls Tryz.prog f args (w.drewN n) fun e w'' => e = .returned (.int .i64 (b : Int)) ∧ ∃ m, w'' = w.drewN m :=
  h.mono fun _ _ ⟨he, m, hm⟩ => ⟨he, n + m, by rw [hm, World.drewN_drewN]⟩

/-- A list that ends with a byte 10. -/
def Nl (l : List UInt8) : Prop := 0 < l.length ∧ l.getD (l.length - 1) 0 = 10

theorem Nl.drop {l : List UInt8} (h : Nl l) {i : Nat} (hi : i < l.length) : Nl (l.drop i) := by
  refine ⟨by rw [List.length_drop]; omega, ?_⟩
  rw [getD_drop, List.length_drop, show i + (l.length - i - 1) = l.length - 1 from by omega]
  exact h.2
theorem Nl.two {l : List UInt8} (h : Nl l) (h0 : l.getD 0 0 ≠ 10) : 1 < l.length := by
  rcases Nat.lt_or_ge 1 l.length with h1 | h1
  · exact h1
  · have e : l.length - 1 = 0 := by omega
    have := h.2
    rw [e] at this
    exact absurd this h0
theorem Nl.word {l : List UInt8} (h : Nl l) : wordN l < l.length := by
  have h1 := wordN_le l
  rcases Nat.lt_or_ge (wordN l) l.length with h2 | h2
  · exact h2
  · have h3 := wordN_in l (l.length - 1) (by have := h.1; omega)
    rw [h.2] at h3
    exact absurd h3 (by decide)
theorem Nl.num {l : List UInt8} (h : Nl l) (p : UInt8) : numN p l < l.length := by
  have h1 := numN_le p l
  rcases Nat.lt_or_ge (numN p l) l.length with h2 | h2
  · exact h2
  · exact absurd h.2 (numN_in p l (l.length - 1) (by have := h.1; omega))

theorem wordN_step {l : List UInt8} {k : Nat} (hk : k < l.length) : wordN (l.drop k) = if isWord (l.getD k 0) then wordN (l.drop (k + 1)) + 1 else 0 := by
  rw [drop_cons hk]
  rfl
theorem numN_step {l : List UInt8} {k : Nat} (p : UInt8) (hk : k < l.length) : numN p (l.drop k) = if numC p (l.getD k 0) then numN (l.getD k 0) (l.drop (k + 1)) + 1 else 0 := by
  rw [drop_cons hk]
  rfl

theorem exp_index (c : UInt8) : (0 ≤ Lib.indexByte [101, 69, 112, 80] c) = (isExp c = true) := by
  apply propext
  have e : ∀ n : Nat, n < 256 → ((UInt8.ofNat n == c) = true ↔ c.toNat = n) := by
    intro n hn
    rw [beq_iff_eq]
    constructor
    · rintro rfl
      simp
      omega
    · intro h
      apply UInt8.toNat_inj.1
      simp
      omega
  have e1 := e 101 (by omega)
  have e2 := e 69 (by omega)
  have e3 := e 112 (by omega)
  have e4 := e 80 (by omega)
  unfold isExp
  simp only [Bool.or_eq_true, decide_eq_true_eq, ← e1, ← e2, ← e3, ← e4, Lib.indexByte]
  by_cases h1 : (UInt8.ofNat 101 == c) = true
  · simp [show ((101 : UInt8) == c) = true from h1]
  · by_cases h2 : (UInt8.ofNat 69 == c) = true
    · simp [show ((69 : UInt8) == c) = true from h2, show ((101 : UInt8) == c) = false from by simpa using h1]
    · by_cases h3 : (UInt8.ofNat 112 == c) = true
      · simp [show ((112 : UInt8) == c) = true from h3, show ((101 : UInt8) == c) = false from by simpa using h1, show ((69 : UInt8) == c) = false from by simpa using h2]
      · by_cases h4 : (UInt8.ofNat 80 == c) = true
        · simp [show ((80 : UInt8) == c) = true from h4, show ((101 : UInt8) == c) = false from by simpa using h1, show ((69 : UInt8) == c) = false from by simpa using h2, show ((112 : UInt8) == c) = false from by simpa using h3]
        · simp [show ((101 : UInt8) == c) = false from by simpa using h1, show ((69 : UInt8) == c) = false from by simpa using h2, show ((112 : UInt8) == c) = false from by simpa using h3, show ((80 : UInt8) == c) = false from by simpa using h4]

set_option maxRecDepth 100000 in
theorem signed_any (a c : UInt8) (w : World) : Calls Tryz.prog 155 #[.int .u8 (a.toNat : Int), .int .u8 (c.toNat : Int)] w (BoolPost (isExp a && isSign c) w) := by
  have hc : (c.toNat : Int) < 256 := by have := c.toNat_lt; omega
  have hx := exp_index a
  have HI : ∀ W : World, Calls Tryz.prog 154 #[.string ⟨#[101, 69, 112, 80]⟩, .int .u8 (a.toNat : Int)] W fun e w' => e = .returned (.int .i64 (Lib.indexByte [101, 69, 112, 80] a)) ∧ W = w' := by
    intro W
    refine (Tryz.strings_IndexByte ⟨#[101, 69, 112, 80]⟩ (a.toNat : Int) W).mono ?_
    rintro e w' ⟨rfl, rfl⟩
    refine ⟨?_, rfl⟩
    simp
  obtain ⟨n, hn⟩ : ∃ n, Lib.indexByte [101, 69, 112, 80] a = n := ⟨_, rfl⟩
  rw [hn] at HI hx
  have HI := Lib.hid HI
  cases he : isExp a with
  | true =>
    rw [he] at hx
    have h0 : 0 ≤ n := by rw [hx]
    clear hx hn
    go_enter Tryz.func155, Tryz.ntmps155
    go_wp2_with (go_at_call 154; (with_reducible refine (HI.out _).mono ?_); rintro e w' ⟨rfl, rfl⟩)
    all_goals
      go_ret
      refine ⟨ret_bool ?_, rfl⟩
      unfold isSign
      rw [Bool.eq_iff_iff]
      simp
      try omega
  | false =>
    rw [he] at hx
    have h0 : ¬ 0 ≤ n := by rw [hx]; simp
    clear hx hn
    go_enter Tryz.func155, Tryz.ntmps155
    go_wp2_with (go_at_call 154; (with_reducible refine (HI.out _).mono ?_); rintro e w' ⟨rfl, rfl⟩)
    go_ret
    exact ⟨ret_bool rfl, rfl⟩

theorem signed_is {a c : UInt8} {b : Bool} (h : (isExp a && isSign c) = b) (W : World) : Calls Tryz.prog 155 #[.int .u8 (a.toNat : Int), .int .u8 (c.toNat : Int)] W (BoolPost b W) := h ▸ signed_any a c W

/-- Does a character go on with a name (1) or a number (2)? -/
def goOn (k : Int) (a c : UInt8) : Bool := if k = 1 then isWord c else if k = 2 then numC a c else false
/-- A truth, in a world that may have drawn. -/
def BoolDrew (b : Bool) (w : World) (e : Ending) (w' : World) : Prop := e = .returned (.bool b) ∧ ∃ n, w' = w.drewN n
theorem quiet_bdrew {f : FuncId} {args : Array Value} {w : World} {n : Nat} {b : Bool} (h : Calls Tryz.prog f args (w.drewN n) (BoolDrew b (w.drewN n))) :
    Calls Tryz.prog f args (w.drewN n) fun e w'' => e = .returned (.bool b) ∧ ∃ m, w'' = w.drewN m :=
  h.mono fun _ _ ⟨he, m, hm⟩ => ⟨he, n + m, by rw [hm, World.drewN_drewN]⟩

set_option maxRecDepth 100000 in
set_option maxHeartbeats 1600000 in
theorem goesOn_any (k : Int) (a c : UInt8) (w : World) : Calls Tryz.prog 152 #[.int .i64 k, .int .u8 (a.toNat : Int), .int .u8 (c.toNat : Int)] w (BoolDrew (goOn k a c) w) := by
  have HLE := Lib.hid (letter_is (c := c) rfl)
  have HDI := Lib.hid (digit_is (c := c) rfl)
  have HSI := Lib.hid (signed_is (a := a) (c := c) rfl)
  have h46 : ((c.toNat : Int) == 46) = decide (c.toNat = 46) := by
    rw [Bool.eq_iff_iff, beq_iff_eq, decide_eq_true_iff]
    omega
  by_cases h1 : k = 1
  · subst h1
    have HG : Hid (goOn 1 a c = (isLet c || isDig c)) := Lib.hid rfl
    cases hl : isLet c <;> cases hd : isDig c <;> rw [hl] at HLE HG <;> rw [hd] at HDI HG <;> clear hl hd h46 HSI
    all_goals
      go_enter Tryz.func152, Tryz.ntmps152
      go_wp2_with (first
        | (go_at_call 145; (with_reducible refine (HLE.out _).mono ?_); rintro e w' ⟨rfl, rfl⟩)
        | (go_at_call 147; (with_reducible refine (HDI.out _).mono ?_); rintro e w' ⟨rfl, rfl⟩))
      go_ret
      exact ⟨by rw [HG.out]; rfl, 0, rfl⟩
  · have hk1 : (k == 1) = false := by simpa using h1
    by_cases h2 : k = 2
    · subst h2
      have HG : Hid (goOn 2 a c = (((isLet c || isDig c) || decide (c.toNat = 46)) || (isExp a && isSign c))) := Lib.hid rfl
      obtain ⟨b46, hb46⟩ : ∃ b, decide (c.toNat = 46) = b := ⟨_, rfl⟩
      obtain ⟨bs, hbs⟩ : ∃ b, (isExp a && isSign c) = b := ⟨_, rfl⟩
      rw [hb46] at h46 HG
      rw [hbs] at HSI HG
      clear hb46 hbs h1
      cases hl : isLet c <;> cases hd : isDig c <;> cases b46 <;> cases bs <;> rw [hl] at HLE HG <;> rw [hd] at HDI HG <;> clear hl hd
      all_goals
        go_enter Tryz.func152, Tryz.ntmps152
        go_wp2_with (first
          | (go_at_call 145; (with_reducible refine (HLE.out _).mono ?_); rintro e w' ⟨rfl, rfl⟩)
          | (go_at_call 147; (with_reducible refine (HDI.out _).mono ?_); rintro e w' ⟨rfl, rfl⟩)
          | (go_at_call 155; (with_reducible refine (HSI.out _).mono ?_); rintro e w' ⟨rfl, rfl⟩))
        go_ret
        exact ⟨by rw [HG.out]; rfl, 0, rfl⟩
    · have hk2 : (k == 2) = false := by simpa using h2
      have HG : Hid (goOn k a c = false) := Lib.hid (by unfold goOn; rw [if_neg h1, if_neg h2])
      clear HLE HDI HSI h46
      go_enter Tryz.func152, Tryz.ntmps152
      go_wp2
      go_ret
      exact ⟨by rw [HG.out]; rfl, 0, rfl⟩
theorem goesOn_is {k : Int} {a c : UInt8} {b : Bool} (h : goOn k a c = b) (W : World) : Calls Tryz.prog 152 #[.int .i64 k, .int .u8 (a.toNat : Int), .int .u8 (c.toNat : Int)] W (BoolDrew b W) := h ▸ goesOn_any k a c W

/-- How long it is, from a place on. -/
def lenF (k : Int) (p : UInt8) (l : List UInt8) : Nat := if k = 1 then wordN l else numN p l
theorem lenF_step {k : Int} (hk : k = 1 ∨ k = 2) {l : List UInt8} {i : Nat} (p : UInt8) (hi : i < l.length) : lenF k p (l.drop i) = if goOn k p (l.getD i 0) then lenF k (l.getD i 0) (l.drop (i + 1)) + 1 else 0 := by
  rcases hk with rfl | rfl
  · exact wordN_step hi
  · exact numN_step p hi
theorem Nl.lenF {l : List UInt8} (h : Nl l) (k : Int) (p : UInt8) : lenF k p l < l.length := by
  unfold Proofs.YtpnboieppkjfnaaGreat.lenF
  split
  · exact h.word
  · exact h.num p
def LenRel (k : Int) (s : ByteArray) (i : Value) : Prop := ∃ j : Nat, i = .int .i64 (j : Int) ∧ 1 ≤ j ∧ j < s.size ∧ lenF k (s.data.toList.getD 0 0) (s.data.toList.drop 1) + 1 = lenF k (s.data.toList.getD (j - 1) 0) (s.data.toList.drop j) + j
theorem len_fin {k : Int} (h12 : k = 1 ∨ k = 2) {s : ByteArray} {j m n : Nat} {w wr : World} {hj : j < s.size} (hN : Nl s.data.toList) (hw : wr = w.drewN m) (hk : j + 1 < s.size) (h : lenF k (s.data.toList.getD 0 0) (s.data.toList.drop 1) + 1 = lenF k s[j] (s.data.toList.drop (j + 1)) + (j + 1)) (hx : goOn k s[j] s[j + 1] = true) :
    LenRel k s (.int .i64 ((j : Int) + 1 + 1)) ∧ ∃ n', wr.drewN n = w.drewN n' := by
  have hl := len_byte s
  refine ⟨?_, m + n, by rw [hw, World.drewN_drewN]⟩
  rw [lenF_step h12 (i := j + 1) _ (by omega), get_byte s (j + 1) hk, if_pos hx] at h
  refine ⟨j + 2, rfl, by omega, ?_, ?_⟩
  · have := (hN.drop (i := 1) (by omega)).lenF k (s.data.toList.getD 0 0)
    rw [List.length_drop] at this
    omega
  · rw [show j + 2 - 1 = j + 1 from rfl, get_byte s (j + 1) hk]
    rw [show j + 1 + 1 = j + 2 from rfl] at h
    omega
theorem len_done {k : Int} (h12 : k = 1 ∨ k = 2) {s : ByteArray} {j m n : Nat} {w wr : World} {hj : j < s.size} (hw : wr = w.drewN m) (hk : j + 1 < s.size) (h : lenF k (s.data.toList.getD 0 0) (s.data.toList.drop 1) + 1 = lenF k s[j] (s.data.toList.drop (j + 1)) + (j + 1)) (hx : goOn k s[j] s[j + 1] = false) :
    NatDrew (lenF k (s.data.toList.getD 0 0) (s.data.toList.drop 1) + 1) w (.returned (.int .i64 ((j : Int) + 1))) (wr.drewN n) := by
  have hl := len_byte s
  refine ⟨ret_nat ?_, m + n, by rw [hw, World.drewN_drewN]⟩
  rw [lenF_step h12 (i := j + 1) _ (by omega), get_byte s (j + 1) hk, if_neg (by rw [hx]; simp)] at h
  omega

set_option maxRecDepth 100000 in
set_option maxHeartbeats 1600000 in
theorem lengthOf_any (k : Int) (h12 : k = 1 ∨ k = 2) (s : ByteArray) (w : World) (hs : s.size ≤ 1000000) (hN : Nl s.data.toList) (h2 : 1 < s.size) : Calls Tryz.prog 146 #[.int .i64 k, .string s] w (NatDrew (lenF k (s.data.toList.getD 0 0) (s.data.toList.drop 1) + 1) w) := by
  have HN := Lib.hid hN
  have H12 := Lib.hid h12
  clear hN h12
  go_enter Tryz.func146, Tryz.ntmps146
  go_wp2
  go_loopw [5] (fun i w' => LenRel k s i ∧ ∃ n, w' = w.drewN n) (fun i _ => s.size - (intOf i).toNat)
  case atStart => exact ⟨⟨1, rfl, by omega, h2, rfl⟩, 0, rfl⟩
  case round =>
    obtain ⟨⟨q, rfl, hk1, hk, hw⟩, m, hwr⟩ := hrel
    have HWR := Lib.hid hwr
    clear hwr
    obtain ⟨j, rfl⟩ : ∃ j, q = j + 1 := ⟨q - 1, by omega⟩
    have hki : ((j : Int) + 1) < (s.size : Int) := by omega
    have hk0 : (0 : Int) ≤ (j : Int) + 1 := by omega
    have htn : ((j : Int) + 1).toNat = j + 1 := by omega
    have hsub : IntKind.i64.wrap (j : Int) = (j : Int) := IntWalk.i64_in _ (by omega)
    have hj : j < s.size := by omega
    have hp : s.data.toList.getD j 0 = s[j] := get_byte s j hj
    rw [show j + 1 - 1 = j from rfl, hp] at hw
    have HW := Lib.hid hw
    clear hw hp
    cases hx : goOn k s[j] s[j + 1] with
    | true =>
      have HGO := Lib.hid (goesOn_is hx)
      have HX := Lib.hid hx
      clear hx
      go_wp2_with (fail)
      go_quiet ((go_at_call 152; exact quiet_bdrew (HGO.out _)))
      go_wp2
      go_roundw
      case rel => exact len_fin H12.out HN.out HWR.out hk HW.out HX.out
      case measure => simp [intOf]; omega
    | false =>
      have HGO := Lib.hid (goesOn_is hx)
      have HX := Lib.hid hx
      clear hx
      go_wp2_with (fail)
      go_quiet ((go_at_call 152; exact quiet_bdrew (HGO.out _)))
      go_wp2
      go_ret
      exact len_done H12.out HWR.out hk HW.out HX.out
theorem wordLen_any (s : ByteArray) (w : World) (hs : s.size ≤ 1000000) (hN : Nl s.data.toList) (h2 : 1 < s.size) : Calls Tryz.prog 146 #[.int .i64 1, .string s] w (NatDrew (wordN (s.data.toList.drop 1) + 1) w) := lengthOf_any 1 (.inl rfl) s w hs hN h2
theorem numberLen_any (s : ByteArray) (w : World) (hs : s.size ≤ 1000000) (hN : Nl s.data.toList) (h2 : 1 < s.size) : Calls Tryz.prog 146 #[.int .i64 2, .string s] w (NatDrew (numN (s.data.toList.getD 0 0) (s.data.toList.drop 1) + 1) w) := lengthOf_any 2 (.inr rfl) s w hs hN h2

end Go.Proofs.YtpnboieppkjfnaaGreat
