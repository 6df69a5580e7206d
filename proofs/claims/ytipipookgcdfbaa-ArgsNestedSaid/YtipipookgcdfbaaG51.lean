/-
  Texts of the proof, put together: AgNes.
-/
import Derived.Test.YtipipookgcdfbaaG50
import Derived.Test.YtipipookgcdfbaaG45
import Derived.Test.YtipipookgcdfbaaG46

/-
  Brackets in brackets: what the law's text is, and what is collected of it.
-/
namespace Go.Proofs.Ytipipookgcdfbaa
open Go.RowKit

/-- Round, as a number. -/
def rd6 (a : Int) : Nat := ((a.tmod 6 + 6) % 6).toNat
theorem rd6_lt (a : Int) : rd6 a < 6 := by
  have r1 := Int.emod_nonneg (a.tmod 6 + 6) (b := 6) (by omega)
  have r2 := Int.emod_lt_of_pos (a.tmod 6 + 6) (b := 6) (by omega)
  unfold rd6
  omega
theorem round6_any (a : Int) (w : World) : Calls Try.prog 26 #[.int .i64 a, .int .i64 6] w fun e w' => e = .returned (.int .i64 (rd6 a : Int)) ∧ w = w' := by
  obtain ⟨m, hm⟩ : ∃ m, a.tmod 6 = m := ⟨_, rfl⟩
  have hm1 : m < 6 := by rw [← hm]; exact Int.tmod_lt_of_pos _ (by omega)
  have hm2 : -6 < m := by
    rw [← hm]
    have := Int.lt_tmod_of_pos a (b := 6) (by omega)
    omega
  have hr : rd6 a = ((m + 6) % 6).toNat := by unfold rd6; rw [hm]
  go_enter Try.func26, Try.ntmps26
  go_wp2
  go_ret
  have r1 := Int.emod_nonneg (m + 6) (b := 6) (by omega)
  exact ⟨by rw [hr]; exact ret_nat (by omega), rfl⟩

theorem opB_len : ∀ d, (opB d).length = 2 * d
  | 0 => rfl
  | d + 1 => by show (opB d).length + 1 + 1 = _; rw [opB_len d]; omega
theorem clB_len : ∀ d, (clB d).length = 2 * d
  | 0 => rfl
  | d + 1 => by show (clB d).length + 1 + 1 = _; rw [clB_len d]; omega
theorem rowB_len : ∀ (ds : List Nat), (∀ d ∈ ds, d < 6) → (rowB ds).length ≤ 22 * ds.length
  | [], _ => Nat.zero_le _
  | [d], h => by
    have := h d (by simp)
    show (argB d).length ≤ _
    rw [argB_len]
    simp
    omega
  | d :: e :: r, h => by
    have hd := h d (by simp)
    have ih := rowB_len (e :: r) fun x hx => h x (List.mem_cons_of_mem _ hx)
    show (argB d ++ 44 :: rowB (e :: r)).length ≤ _
    rw [List.length_append, List.length_cons, argB_len]
    simp only [List.length_cons] at ih ⊢
    omega
def Br (l : List UInt8) : Prop := ∀ c ∈ l, c = 40 ∨ c = 41 ∨ c = 44 ∨ c = 120 ∨ c = 32 ∨ c = 121
theorem Br.app {x y : List UInt8} (hx : Br x) (hy : Br y) : Br (x ++ y) := fun c hc => by
  rcases List.mem_append.1 hc with h | h
  · exact hx c h
  · exact hy c h
theorem Br.cons {a : UInt8} {y : List UInt8} (h : a = 40 ∨ a = 41 ∨ a = 44 ∨ a = 120 ∨ a = 32 ∨ a = 121) (hy : Br y) : Br (a :: y) := fun c hc => by
  rcases List.mem_cons.1 hc with rfl | hc
  · exact h
  · exact hy c hc
theorem br_nil : Br [] := (fun c hc => by cases hc)
theorem opB_br : ∀ d, Br (opB d)
  | 0 => br_nil
  | d + 1 => Br.cons (by simp) (Br.cons (by simp) (opB_br d))
theorem clB_br : ∀ d, Br (clB d)
  | 0 => br_nil
  | d + 1 => Br.cons (by simp) (Br.cons (by simp) (clB_br d))
theorem argB_br (d : Nat) : Br (argB d) := (opB_br d).app (Br.cons (by simp) (clB_br d))
theorem rowB_br : ∀ ds, Br (rowB ds)
  | [] => br_nil
  | [d] => argB_br d
  | d :: e :: r => (argB_br d).app (Br.cons (by simp) (rowB_br (e :: r)))
theorem Br.plb {l : List UInt8} (h : Br l) : PlB l := fun c hc => by
  rcases h c hc with rfl | rfl | rfl | rfl | rfl | rfl <;> decide
theorem Br.non {l : List UInt8} (h : Br l) : NoN l := fun c hc => by
  rcases h c hc with rfl | rfl | rfl | rfl | rfl | rfl <;> decide

def ky : Int × List UInt8 × Bool := ki (1, [121], true)
def nesL (ds : List Nat) (shut : Bool) : List UInt8 := 40 :: (rowB ds ++ if shut then [41] else [])
theorem nes_br (ds : List Nat) (shut : Bool) : Br (nesL ds shut) := Br.cons (by simp) ((rowB_br ds).app (by
  cases shut
  · exact br_nil
  · exact Br.cons (by simp) br_nil))
theorem nq_sp : NQ [32, 121, 10] := fun c hc => by
  simp only [List.mem_cons, List.not_mem_nil, or_false] at hc
  rcases hc with rfl | rfl | rfl <;> decide
theorem nq_sh : NQ [41, 32, 121, 10] := NQ.cons (by decide) nq_sp
theorem nq_s1 : NQ [41, 10] := fun c hc => by
  simp only [List.mem_cons, List.not_mem_nil, or_false] at hc
  rcases hc with rfl | rfl <;> decide
theorem e_sp : E10 [32, 121, 10] := ⟨by simp, rfl⟩
theorem kt_sp : (kt false [32, 121, 10]).map ki = [ky] := by rfl
theorem kt_nil10 : kt false [10] = [] := by rfl
theorem map_tk1 (l : List UInt8) : (l.map tk1).map ki = l.map k1 := by rw [List.map_map]; rfl
/-- The text, lexed, and a word behind it. -/
theorem nes_toks {ds : List Nat} (hd : ds ≠ []) {s : ByteArray} (shut : Bool) (hs : s.data.toList = nesL ds shut ++ [32, 121]) : (lexT s).map kxX = (nesL ds shut).map k1 ++ [ky] := by
  have hb : Br (nesL ds shut ++ [32, 121]) := (nes_br ds shut).app (Br.cons (by simp) (Br.cons (by simp) br_nil))
  rw [lexT_kt hs hb.plb hb.non]
  cases shut with
  | false =>
    have e : nesL ds false ++ [32, 121] ++ [10] = 40 :: (rowB ds ++ [32, 121, 10]) := by simp [nesL]
    rw [e, kt_sign (.inl rfl) (e10_app _ e_sp), kt_rowB ds hd rfl nq_sp e_sp, List.map_cons, List.map_append, kt_sp, map_tk1]
    simp [nesL, k1, tk1]
  | true =>
    have e : nesL ds true ++ [32, 121] ++ [10] = 40 :: (rowB ds ++ [41, 32, 121, 10]) := by simp [nesL]
    rw [e, kt_sign (.inl rfl) (e10_app _ (e10_cons 41 e_sp)), kt_rowB ds hd rfl nq_sh (e10_cons 41 e_sp), kt_sign (.inr (.inl rfl)) e_sp, List.map_cons, List.map_append, List.map_cons, kt_sp, map_tk1]
    simp [nesL, k1, tk1]
/-- Without the word: as many tokens as bytes. -/
theorem nes_many {ds : List Nat} (hd : ds ≠ []) {s : ByteArray} (hs : s.data.toList = nesL ds true) : (lexT s).length = (rowB ds).length + 2 := by
  have hb := nes_br ds true
  have h := lexT_kt hs hb.plb hb.non
  have e : nesL ds true ++ [10] = 40 :: (rowB ds ++ [41, 10]) := by simp [nesL]
  have e1 : E10 [10] := ⟨by simp, rfl⟩
  rw [e, kt_sign (.inl rfl) (e10_app _ (e10_cons 41 e1)), kt_rowB ds hd rfl nq_s1 (e10_cons 41 e1), kt_sign (.inr (.inl rfl)) e1, kt_nil10] at h
  have := congrArg List.length h
  simpa using this
theorem isX_y {t : Xt} (h : kxX t = ky) (s : UInt8) : isX t ⟨[s].toArray⟩ = false := by
  rw [isX_kx (h : kxX t = ki (1, [121], true)) [s]]
  rfl
theorem nes_open {ds : List Nat} (hd : ds ≠ []) {T : List Xt} (h : T.map kxX = (nesL ds false).map k1 ++ [ky]) : collectL T = none := by
  have h : T.map kxX = k1 40 :: ((rowB ds ++ []).map k1 ++ [ky]) := h
  rw [List.append_nil] at h
  obtain ⟨t, q, rfl, ht, hq⟩ := cons_of h
  obtain ⟨A, Y, rfl, hA, hY⟩ := List.map_eq_append_iff.1 hq
  obtain ⟨y, Z, rfl, hy, hZ⟩ := cons_of hY
  obtain rfl : Z = [] := by simpa using hZ
  obtain ⟨ls', cs', now, g1, -, -⟩ := col_row ds A [y] [] [] 1 hd hA rfl
  have ho : isX t oB = true := by rw [show oB = ⟨[40].toArray⟩ from rfl, isX_sign ht (by decide) 40]; rfl
  show (if isX t oB then colL 0 (A ++ [y]) [] [] [] 1 else none) = none
  rw [if_pos ho, g1]
  show (if decide (0 = 0) && isX y cB then _ else if decide (0 = 0) && isX y kB then _ else colL _ [] _ _ _ _) = none
  rw [show cB = ⟨[41].toArray⟩ from rfl, show kB = ⟨[44].toArray⟩ from rfl, isX_y hy, isX_y hy]
  rfl
theorem nes_shut {ds : List Nat} (hd : ds ≠ []) {T : List Xt} (h : T.map kxX = (nesL ds true).map k1 ++ [ky]) : ∃ A C, collectL T = some (A, C, (rowB ds).length + 2) ∧ A.length = ds.length ∧ C.length + 1 = ds.length ∧ A.map List.length = ds.map fun d => 1 + 4 * d := by
  have h : T.map kxX = k1 40 :: ((rowB ds ++ [41]).map k1 ++ [ky]) := h
  rw [List.map_append, List.append_assoc] at h
  obtain ⟨t, q, rfl, ht, hq⟩ := cons_of h
  obtain ⟨A, Y, rfl, hA, hY⟩ := List.map_eq_append_iff.1 hq
  obtain ⟨c, Z, rfl, hc, hZ⟩ := cons_of (hY : Y.map kxX = k1 41 :: [ky])
  obtain ⟨ls', cs', now, g1, g2, g3⟩ := col_row ds A (c :: Z) [] [] 1 hd hA rfl
  have ho : isX t oB = true := by rw [show oB = ⟨[40].toArray⟩ from rfl, isX_sign ht (by decide) 40]; rfl
  have hcc : isX c cB = true := by rw [show cB = ⟨[41].toArray⟩ from rfl, isX_sign hc (by decide) 41]; rfl
  have hAl : A.length = (rowB ds).length := by have := congrArg List.length hA; simpa using this
  have hll : (ls' ++ [now]).length = ds.length := by have := congrArg List.length g3; simpa using this
  refine ⟨ls' ++ [now], cs', ?_, hll, by rw [← g2, ← hll]; simp, g3⟩
  show (if isX t oB then colL 0 (A ++ c :: Z) [] [] [] 1 else none) = _
  rw [if_pos ho, g1]
  show (if decide (0 = 0) && isX c cB then some _ else _) = _
  rw [hcc]
  simp only [decide_true, Bool.and_self, if_true, List.nil_append]
  rw [show 1 + A.length + 1 = (rowB ds).length + 2 from by omega]

/-- What is ahead of the i-th argument. -/
def preN (ds : List Nat) (i : Nat) : List UInt8 := if i = 0 then [] else rowB (ds.take i) ++ [44]
theorem preN_row {ds : List Nat} {i d : Nat} (h : ds[i]? = some d) : rowB (ds.take (i + 1)) = preN ds i ++ argB d := by
  have hi := (List.getElem?_eq_some_iff.1 h).1
  rw [List.take_add_one, h]
  unfold preN
  split
  · rename_i h0
    subst h0
    rfl
  · have hne : ds.take i ≠ [] := by
      intro e
      have := congrArg List.length e
      rw [List.length_take, List.length_nil] at this
      omega
    show rowB (ds.take i ++ [d]) = _
    rw [rowB_snoc _ d hne, List.append_assoc, List.singleton_append]

def TxN (l : List UInt8) (sv : Value) : Prop := ∃ S : ByteArray, sv = .string S ∧ S.data.toList = l ∧ S.size = l.length
theorem txN_mk {l l' : List UInt8} {S x : ByteArray} (hS : S.data.toList = l) (h : l ++ x.data.toList = l') : TxN l' (.string (S ++ x)) := by
  have e : (S ++ x).data.toList = l' := by rw [append_data, hS, h]
  exact ⟨S ++ x, rfl, e, by rw [← e]; exact (bytes_len _).symm⟩
theorem txN_of {l : List UInt8} {S : ByteArray} (hS : S.data.toList = l) : TxN l (.string S) := ⟨S, rfl, hS, by rw [← hS]; exact (bytes_len _).symm⟩
def NesO (ks : List Nat) (n : Nat) (sv iv : Value) : Prop := ∃ i : Nat, iv = .int .i64 (i : Int) ∧ i ≤ n ∧ TxN (40 :: rowB (ks.take i)) sv
def NesI (p : List UInt8) (f : Nat → List UInt8) (d : Nat) (sv jv : Value) : Prop := ∃ j : Nat, jv = .int .i64 (j : Int) ∧ j ≤ d ∧ TxN (p ++ f j) sv
theorem nesO_mk {ks : List Nat} {n i : Nat} {sv : Value} {iv : Int} (h : iv = (i : Int)) (hi : i ≤ n) (hx : TxN (40 :: rowB (ks.take i)) sv) : NesO ks n sv (.int .i64 iv) := ⟨i, by rw [h], hi, hx⟩
theorem nesI_mk {p : List UInt8} {f : Nat → List UInt8} {d j : Nat} {sv : Value} {jv : Int} (h : jv = (j : Int)) (hj : j ≤ d) (hx : TxN (p ++ f j) sv) : NesI p f d sv (.int .i64 jv) := ⟨j, by rw [h], hj, hx⟩

end Go.Proofs.Ytipipookgcdfbaa
