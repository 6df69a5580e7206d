/-
  Texts of the proof, put together: GrOrdC, LGOrder.
-/
import Derived.Test.YtlnlpahmfpjjdaaDoorG41
import Derived.Test.YtlnlpahmfpjjdaaDoorG48
import Derived.Test.YtlnlpahmfpjjdaaDoorG38
import Derived.Test.YtlnlpahmfpjjdaaDoorG18

/-
  Each line that is left in stands once, and in order; what is out of place is told: a round of the law, over lists.
-/
namespace Go.Proofs.YtlnlpahmfpjjdaaDoor

theorem kept_app : ∀ (a b : List (Nat × Bool)) (s : Bs) (i : Nat), keptL s i (a ++ b) = keptL s i a ++ keptL (runB s i a) (i + a.length) b
  | [], _, _, _ => rfl
  | (k, ne) :: r, b, s, i => by
    rw [List.cons_append, keptL, keptL, runB, kept_app r b, List.append_assoc, List.length_cons, show i + 1 + r.length = i + (r.length + 1) from by omega]
theorem odd_app : ∀ (a b : List (Nat × Bool)) (s : Bs) (i : Nat), oddN s i (a ++ b) = oddN s i a + oddN (runB s i a) (i + a.length) b
  | [], b, _, _ => by simp [oddN, runB]
  | (k, ne) :: r, b, s, i => by
    rw [List.cons_append, oddN, oddN, runB, odd_app r b, List.length_cons, show i + 1 + r.length = i + (r.length + 1) from by omega]
    omega
theorem end_app : ∀ (a b : List (Nat × Bool)), endN (a ++ b) = endN a + endN b
  | [], b => by simp [endN]
  | (k, ne) :: r, b => by
    rw [List.cons_append, endN, endN, end_app r b]
    omega

def keptN (K : List (Nat × Bool)) (k : Nat) : Nat := (keptL bs0 0 (K.take k)).length
def oddK (K : List (Nat × Bool)) (k : Nat) : Nat := oddN bs0 0 (K.take k)
def endK (K : List (Nat × Bool)) (k : Nat) : Nat := endN (K.take k)
section
variable {K : List (Nat × Bool)} {k kd : Nat} {ne : Bool}

theorem kept_one (h : K[k]? = some (kd, ne)) : keptL bs0 0 (K.take (k + 1)) = keptL bs0 0 (K.take k) ++ (if keptB (runB bs0 0 (K.take k)) kd ne then [(k : Int)] else []) := by
  have hk := (List.getElem?_eq_some_iff.1 h).1
  rw [take_one h, kept_app, List.length_take, Nat.min_eq_left (by omega), Nat.zero_add, keptL, keptL, List.append_nil]
theorem odd_one (h : K[k]? = some (kd, ne)) : oddK K (k + 1) = oddK K k + (if keptB (runB bs0 0 (K.take k)) kd ne = false ∧ (kd = 5 ∨ kd = 6) then 1 else 0) := by
  have hk := (List.getElem?_eq_some_iff.1 h).1
  unfold oddK
  rw [take_one h, odd_app, List.length_take, Nat.min_eq_left (by omega), Nat.zero_add, oddN, oddN]
  omega
theorem end_one (h : K[k]? = some (kd, ne)) : endK K (k + 1) = endK K k + (if kd = 7 then 1 else 0) := by
  unfold endK
  rw [take_one h, end_app, endN, endN]
  omega
theorem kept_split (k : Nat) (hk : k ≤ K.length) : keptL bs0 0 K = keptL bs0 0 (K.take k) ++ keptL (runB bs0 0 (K.take k)) k (K.drop k) := by
  have := kept_app (K.take k) (K.drop k) bs0 0
  rw [List.take_append_drop, List.length_take, Nat.min_eq_left hk, Nat.zero_add] at this
  exact this
/-- A line that is left in: the next one of the flat list. -/
theorem keptN_in (h : K[k]? = some (kd, ne)) (hb : keptB (runB bs0 0 (K.take k)) kd ne = true) : (keptL bs0 0 K)[keptN K k]? = some (k : Int) ∧ keptN K (k + 1) = keptN K k + 1 ∧ oddK K (k + 1) = oddK K k ∧ endK K (k + 1) = endK K k := by
  have hk := (List.getElem?_eq_some_iff.1 h).1
  have h1 := kept_one h
  rw [hb, if_pos rfl] at h1
  have h7 : kd ≠ 7 := by
    intro e
    subst e
    have h2 : keptB (runB bs0 0 (K.take k)) 7 ne = false := by
      unfold keptB
      rw [if_neg (by omega)]
      split
      · rfl
      · rw [if_neg (by simp), if_neg (by omega), if_pos rfl]
    rw [h2] at hb
    cases hb
  refine ⟨?_, by unfold keptN; rw [h1, List.length_append]; rfl, by rw [odd_one h, hb, if_neg (by simp)]; rfl, by rw [end_one h, if_neg h7]; rfl⟩
  rw [kept_split (k + 1) hk, h1]
  unfold keptN
  rw [List.getElem?_append_left (by simp), List.getElem?_append_right (Nat.le_refl _), Nat.sub_self]
  rfl
/-- A line that is not. -/
theorem keptN_out (h : K[k]? = some (kd, ne)) (hb : keptB (runB bs0 0 (K.take k)) kd ne = false) : (∀ x, (keptL bs0 0 K)[keptN K k]? = some x → x ≠ (k : Int)) ∧ keptN K (k + 1) = keptN K k ∧ oddK K (k + 1) = oddK K k + (if kd = 5 ∨ kd = 6 then 1 else 0) ∧ endK K (k + 1) = endK K k + (if kd = 7 then 1 else 0) := by
  have hk := (List.getElem?_eq_some_iff.1 h).1
  have h1 := kept_one h
  rw [hb, if_neg (by simp), List.append_nil] at h1
  refine ⟨fun x hx => ?_, by unfold keptN; rw [h1], ?_, end_one h⟩
  · rw [kept_split (k + 1) hk, h1] at hx
    unfold keptN at hx
    rw [List.getElem?_append_right (Nat.le_refl _)] at hx
    have := kept_ge _ _ _ x (List.mem_of_getElem? hx)
    omega
  · rw [odd_one h, hb]
    by_cases h5 : kd = 5 ∨ kd = 6
    · rw [if_pos h5, if_pos ⟨rfl, h5⟩]
    · rw [if_neg h5, if_neg fun h => h5 h.2]
end
theorem kept_all (K : List (Nat × Bool)) : keptN K K.length = (keptL bs0 0 K).length := by unfold keptN; rw [List.take_length]
theorem kept_le (K : List (Nat × Bool)) (k : Nat) : keptN K k ≤ k := by
  have h1 := kept_few (K.take k) bs0 0
  rw [List.length_take] at h1
  unfold keptN
  omega
theorem odd_few : ∀ (K : List (Nat × Bool)) (s : Bs) (i : Nat), oddN s i K ≤ K.length
  | [], _, _ => Nat.le_refl _
  | (k, ne) :: r, s, i => by
    have := odd_few r (stepB s i k ne) (i + 1)
    rw [oddN, List.length_cons]
    split <;> omega
theorem end_few : ∀ (K : List (Nat × Bool)), endN K ≤ K.length
  | [] => Nat.le_refl _
  | (k, ne) :: r => by
    have := end_few r
    rw [endN, List.length_cons]
    split <;> omega
theorem odd_le (K : List (Nat × Bool)) (k : Nat) : oddK K k ≤ k := by
  have h1 := odd_few (K.take k) bs0 0
  rw [List.length_take] at h1
  unfold oddK
  omega
theorem end_le (K : List (Nat × Bool)) (k : Nat) : endK K k ≤ k := by
  have h1 := end_few (K.take k)
  rw [List.length_take] at h1
  unfold endK
  omega

/-- How many lines are told to stand out of place. -/
def outN (T : List Dg) : Nat := (T.filter fun d => d.c == 12).length
theorem out_app (a b : List Dg) : outN (a ++ b) = outN a + outN b := by unfold outN; rw [List.filter_append, List.length_append]
theorem out_map {α : Type} (l : List α) (d : Dg) : outN (l.map fun _ => d) = if d.c = 12 then l.length else 0 := by
  induction l with
  | nil => unfold outN; split <;> rfl
  | cons a r ih =>
    rw [List.map_cons, show (d :: r.map fun _ => d) = [d] ++ r.map fun _ => d from rfl, out_app, ih, List.length_cons]
    unfold outN
    by_cases h : d.c = 12
    · rw [if_pos h, if_pos h]
      simp [h]
      omega
    · rw [if_neg h, if_neg h]
      simp [h]
theorem below_one (l : List Nat) (n : Nat) : (l.filter (· < n + 1)).length = (l.filter (· < n)).length + (l.filter (· == n)).length := by
  induction l with
  | nil => rfl
  | cons a r ih =>
    rcases Nat.lt_trichotomy a n with h | h | h
    · rw [List.filter_cons, List.filter_cons, List.filter_cons, if_pos (by simp; omega), if_pos (by simp; omega), if_neg (by simp; omega), List.length_cons, List.length_cons, ih]
      omega
    · rw [List.filter_cons, List.filter_cons, List.filter_cons, if_pos (by simp; omega), if_neg (by simp; omega), if_pos (by simp; omega), List.length_cons, List.length_cons, ih]
      omega
    · rw [List.filter_cons, List.filter_cons, List.filter_cons, if_neg (by simp; omega), if_neg (by simp; omega), if_neg (by simp; omega), ih]
theorem out_doc (bad opn : List Nat) (lines : List Ln) (n : Nat) : outN (docD bad opn lines n) = (bad.filter (· < n)).length := by
  induction n with
  | zero =>
    have e : bad.filter (· < 0) = [] := List.filter_eq_nil_iff.2 fun b _ => by simp
    rw [e]
    rfl
  | succ n ih =>
    rw [doc_snoc, out_app, out_app, ih, below_one]
    unfold tellB
    have e1 : (dgOf 12 (lnD lines n)).c = 12 := rfl
    have e2 : ¬ (dgOf 13 (lnD lines n)).c = 12 := by
      show ¬ (13 : Int).toNat = 12
      decide
    rw [out_map, out_map, if_pos e1, if_neg e2]
    rfl
theorem out_tells (lines : List Ln) : outN (tells lines) = (runB bs0 0 (ksOf lines)).bad.length := by
  have hf := fine_run (ksOf lines) bs0 0 fine_zero
  rw [← doc_tells, out_doc, List.filter_eq_self.2]
  intro b hb
  have := hf.bad b hb
  have e : (ksOf lines).length = lines.length := by unfold ksOf; rw [List.length_map]
  simp
  omega
theorem out_between (lines : List Ln) : oddK (ksOf lines) lines.length ≤ outN (tells lines) ∧ outN (tells lines) ≤ oddK (ksOf lines) lines.length + endK (ksOf lines) lines.length := by
  obtain ⟨b, h1, h2, h3⟩ := bad_run (ksOf lines) bs0 0
  have e : (ksOf lines).length = lines.length := by unfold ksOf; rw [List.length_map]
  unfold oddK endK
  rw [out_tells, ← e, List.take_length, h1]
  have e0 : bs0.bad.length = 0 := rfl
  omega

end Go.Proofs.YtlnlpahmfpjjdaaDoor

/-
  GroupsOrder, walked.
-/
namespace Go.Proofs.YtlnlpahmfpjjdaaDoor
open Go.RowKit

theorem line_x {lines : List Ln} {la : Option Addr} {n lc k : Nat} {ln : Ln} {w : World} (h : LinesAt fB lines (.slice la n lc) w) (hk : lines[k]? = some ln) :
    ∃ g ta tn tc, la = some ⟨g, 0, none⟩ ∧ g < w.heap.size ∧ w.cell? ⟨g, k * 4, none⟩ = some (.slice ta tn tc) ∧ ToksX (ln.toks.map (xtOf fB)) (.slice ta tn tc) w := by
  obtain ⟨a, cap, hv, -, -, h3⟩ := h
  simp only [Value.slice.injEq] at hv
  obtain ⟨rfl, -, -⟩ := hv
  obtain ⟨g, tv, ha, hg, l0, -, -, -, ht⟩ := h3 k ln hk
  obtain ⟨ta, tn, tc, rfl⟩ := (ToksAt.x ht).form
  exact ⟨g, ta, tn, tc, ha, hg, l0, ToksAt.x ht⟩
theorem lines_cap {lines : List Ln} {la : Option Addr} {n lc : Nat} {w : World} (h : LinesAt fB lines (.slice la n lc) w) : n ≤ lc ∧ lc ≤ maxLen := by
  obtain ⟨a, cap, hv, h1, h2, -⟩ := h
  simp only [Value.slice.injEq] at hv
  obtain ⟨-, rfl, rfl⟩ := hv
  exact ⟨h1, h2⟩
theorem ints_at {xs : List Int} {a : Option Addr} {n c : Nat} {w : World} (h : IntsR xs (.slice a n c) w) : n ≤ c ∧ c ≤ maxLen ∧ ∀ j x, xs[j]? = some x → ∃ g o, a = some ⟨g, o, none⟩ ∧ g < w.heap.size ∧ w.cell? ⟨g, o + j, none⟩ = some (.int .i64 x) := by
  obtain ⟨a', cap, hv, h1, h2, h3⟩ := h
  simp only [Value.slice.injEq] at hv
  obtain ⟨rfl, rfl, rfl⟩ := hv
  exact ⟨h1, h2, h3⟩
theorem diags_at {F : ByteArray} {D : List Dg} {a : Option Addr} {n c : Nat} {w : World} (h : DiagsAt F D (.slice a n c) w) : n = D.length ∧ n ≤ c ∧ c ≤ maxLen ∧ ∀ j d, D[j]? = some d → ∃ g, a = some ⟨g, 0, none⟩ ∧ g < w.heap.size ∧ w.cell? ⟨g, j * 4, none⟩ = some (.int .i64 (d.c : Int)) := by
  obtain ⟨a', cap, hv, h1, h2, h3⟩ := h
  simp only [Value.slice.injEq] at hv
  obtain ⟨rfl, rfl, rfl⟩ := hv
  refine ⟨rfl, h1, h2, fun j d hd => ?_⟩
  obtain ⟨g, ha, hg, hc, -⟩ := h3 j d hd
  exact ⟨g, ha, hg, hc⟩

def OrdR (w0 : World) (K : List (Nat × Bool)) (n : Nat) (p en od i : Value) (w : World) : Prop :=
  ∃ k : Nat, i = .int .i64 (k : Int) ∧ k ≤ n ∧ p = .int .i64 (keptN K k : Int) ∧ en = .int .i64 (endK K k : Int) ∧ od = .int .i64 (oddK K k : Int) ∧ Below w0.heap.size w0 w
theorem ordR_mk {w0 w : World} {K : List (Nat × Bool)} {n k : Nat} {p en od i : Int} (hi : i = ((k : Nat) : Int)) (hk : k ≤ n) (hp : p = (keptN K k : Int)) (he : en = (endK K k : Int)) (ho : od = (oddK K k : Int)) (hb : Below w0.heap.size w0 w) : OrdR w0 K n (.int .i64 p) (.int .i64 en) (.int .i64 od) (.int .i64 i) w := by
  subst hi hp he ho
  exact ⟨k, rfl, hk, rfl, rfl, rfl, hb⟩

set_option maxRecDepth 100000 in
set_option maxHeartbeats 12800000 in
theorem order_law (s : ByteArray) (W : World) (hs : s.size ≤ maxLen) (hW : WordsAt 0 W) (h0 : 0 < W.heap.size) :
    Calls Tryd.prog 7 #[.string s] W (TruePost W) := by
  unfold maxLen at hs
  have HA : Hid (∀ X : World, Below W.heap.size W X → Calls Tryd.prog 21 #[] X (TruePost X)) := Lib.hid (fun X b => awake8_any (hW.next b h0) (Nat.lt_of_lt_of_le h0 b.size))
  have HW : Hid (∀ X : World, Below W.heap.size W X → WordsAt 0 X ∧ 0 < X.heap.size) := Lib.hid (fun X b => ⟨hW.next b h0, Nat.lt_of_lt_of_le h0 b.size⟩)
  clear hW
  by_cases hs3 : s.size ≤ 3000
  · have HL8 : Hid (Calls Tryd.prog 24 #[.string s] W (LiPost W (linesA (charsL s.data.toList) s.size).lines)) := Lib.hid (lines8_any s W (by omega))
    have hfew := lines_few s hs3
    obtain ⟨L, hL⟩ : ∃ L, (linesA (charsL s.data.toList) s.size).lines = L := ⟨_, rfl⟩
    rw [hL] at HL8 hfew
    have hn2 : L.length ≤ 20000 := by omega
    have hbf := built_few L
    have HGB : Hid (∀ (X : World) (v : Value), LinesAt fB L v X → Below W.heap.size W X → Calls Tryd.prog 23 #[v] X (BuiltP X (buildL (ksOf L)).1 (tells L))) := Lib.hid (fun X v h b => gbuild_any h hn2 (HW.out X b).1 (HW.out X b).2)
    obtain ⟨n, hn⟩ : ∃ n, L.length = n := ⟨_, rfl⟩
    have HN := Lib.hid hn
    have HKN : Hid ((ksOf L).length = n) := Lib.hid (by unfold ksOf; rw [List.length_map]; exact hn)
    have HBT := Lib.hid (out_between L)
    have HFK := Lib.hid (flat_build (ksOf L))
    have HKG : Hid (∀ k ln, L[k]? = some ln → (ksOf L)[k]? = some (lnK ln)) := Lib.hid (fun k ln h => by unfold ksOf; rw [List.getElem?_map, h]; rfl)
    obtain ⟨K, hK⟩ : ∃ K, ksOf L = K := ⟨_, rfl⟩
    obtain ⟨I, hI⟩ : ∃ I, (buildL (ksOf L)).1 = I := ⟨_, rfl⟩
    obtain ⟨T, hT⟩ : ∃ T, tells L = T := ⟨_, rfl⟩
    rw [hI] at HGB hbf HFK
    rw [hT] at HGB HBT
    rw [hK] at HKN HBT HFK HKG
    rw [hn] at hn2 hbf HBT
    have hi5 : (flatIts I).length ≤ 20000 := by omega
    have HFI : Hid ((flatIts I).length ≤ 20000) := Lib.hid hi5
    obtain ⟨J, hJ⟩ : ∃ J, flatIts I = J := ⟨_, rfl⟩
    have HJ := Lib.hid hJ
    rw [hJ] at HFK hbf hi5
    obtain ⟨q, hq⟩ : ∃ q, J.length = q := ⟨_, rfl⟩
    have HQ := Lib.hid hq
    rw [hq] at hi5
    clear hL hfew hbf hK hI hT hn hJ hq
    go_enter Tryd.func7, Tryd.ntmps7
    go_wp2_with (first
      | (go_at_call 24; (with_reducible refine HL8.out.mono ?_); rintro e w2 ⟨la, ln, lc, rfl, hln, hl⟩; have HL2 : Hid (LinesAt fB L (.slice la ln lc) w2 ∧ Below W.heap.size W w2) := Lib.hid ⟨hl.at, hl.low⟩; (obtain rfl : n = ln := (hln.trans HN.out).symm); clear hl hln)
      | (go_at_call 23; (with_reducible refine (HGB.out _ _ HL2.out.1 HL2.out.2).mono ?_); rintro e w3 ⟨ia, im, ic, da, dn, dc, rfl, ⟨⟨dep, hdep, hi⟩, hdn, hd⟩⟩; have HB3 : Hid (Below W.heap.size W w3) := Lib.hid (below_up HL2.out.2 hd.2); have HL3 := Lib.hid (HL2.out.1.next hd.2); have HI3 := Lib.hid hi; have HD3 := Lib.hid hd; have HDP := Lib.hid hdep; have HDN := Lib.hid hdn; clear hi hd hdn hdep)
      | (go_at_call 30; (with_reducible refine (gflat_any HI3.out (by have := HDP.out; omega) (by have := HFI.out; omega)).mono ?_); rintro e w8 ⟨fa, fn, fc, rfl, hfn, hu⟩; have HB8 : Hid (Below W.heap.size W w8) := Lib.hid (below_up HB3.out hu.2); have HL8' := Lib.hid (HL3.out.next hu.2); have HD8 := Lib.hid (DRow.over HD3.out hu.2); have HF8 : Hid (IntsR J (.slice fa fn fc) w8) := Lib.hid (HJ.out ▸ ints_read hu); (obtain rfl : q = fn := by rw [hfn, HJ.out, HQ.out]); clear hu hfn))
    have hlcap := lines_cap HL8'.out
    have hfcap := ints_at HF8.out
    obtain ⟨hlc1, hlc2⟩ := hlcap
    obtain ⟨hfc1, hfc2, hfcell⟩ := hfcap
    have HFC := Lib.hid hfcell
    unfold maxLen at hlc2 hfc2
    clear hfcell
    go_loopw [7, 8, 9, 10] (fun p en od i wr => OrdR w8 K n p en od i wr) (fun _ _ _ i _ => n - (intOf i).toNat)
    case atStart => exact ordR_mk (k := 0) rfl (Nat.zero_le _) rfl rfl rfl (Below.refl _ _)
    case round =>
      obtain ⟨k, rfl, hk, rfl, rfl, rfl, hb⟩ := hrel
      have HBR := Lib.hid hb
      clear hb
      have hpl := kept_le K k
      have hel := end_le K k
      have hol := odd_le K k
      by_cases hlt : k < n
      · obtain ⟨ln, hlk⟩ : ∃ ln, L[k]? = some ln := ⟨_, List.getElem?_eq_getElem (by rw [HN.out]; exact hlt)⟩
        obtain ⟨g, ta, tn, tc, rfl, hg, l0, hx⟩ := line_x HL8'.out hlk
        have hKk := HKG.out k ln hlk
        obtain ⟨X, hX⟩ : ∃ X, ln.toks.map (xtOf fB) = X := ⟨_, rfl⟩
        obtain ⟨kd, hkd⟩ : ∃ kd, kindL X = kd := ⟨_, rfl⟩
        have hKk' : K[k]? = some (kd, decide (X ≠ [])) := by
          rw [hKk]
          unfold lnK
          rw [hX, hkd]
        rw [hX] at hx
        have htn := hx.len
        have HKI : Hid (∀ Y : World, Below w8.heap.size w8 Y → Calls Tryd.prog 13 #[.slice ta tn tc] Y (IntNew (kd : Nat) Y)) := Lib.hid (fun Y b => hkd ▸ rKind_any (hx.over b))
        have e0 := bcell HBR.out l0 hg
        have HL0 := Lib.hid l0
        have HG := Lib.hid hg
        have hkI : (k : Int) < (n : Int) := by omega
        have hk0 : (0 : Int) ≤ (k : Int) := by omega
        obtain ⟨p, hp⟩ : ∃ p, keptN K k = p := ⟨_, rfl⟩
        obtain ⟨ek, hek⟩ : ∃ ek, endK K k = ek := ⟨_, rfl⟩
        obtain ⟨ok, hok⟩ : ∃ ok, oddK K k = ok := ⟨_, rfl⟩
        have hp0 : (0 : Int) ≤ (p : Int) := by omega
        have hJK : J = keptL bs0 0 K := HFK.out
        by_cases hb : keptB (runB bs0 0 (K.take k)) kd (decide (X ≠ [])) = true
        · obtain ⟨h1, h2, h3, h4⟩ := keptN_in hKk' hb
          rw [← hJK, hp] at h1
          rw [hp] at h2
          rw [hok] at h3
          rw [hek] at h4
          obtain ⟨gf, of, rfl, hgf, f0⟩ := HFC.out p _ h1
          have f1 := bcell HBR.out f0 hgf
          have hpq : (p : Int) < (q : Int) := by
            have := (List.getElem?_eq_some_iff.1 h1).1
            rw [HQ.out] at this
            omega
          have H2 := Lib.hid h2
          have H3 := Lib.hid h3
          have H4 := Lib.hid h4
          rw [hp, hek, hok]
          rw [hp] at hpl
          rw [hek] at hel
          rw [hok] at hol
          clear hlk hKk hKk' hx hX hkd htn l0 hJK hb h1 h2 h3 h4 f0 hgf hp hek hok
          go_wp2
          go_roundw
          case rel => exact ordR_mk (k := k + 1) (by go_num) hlt (by rw [H2.out]; go_num) (by rw [H4.out]) (by rw [H3.out]) HBR.out
          case measure => simp [intOf]; omega
        · have hbf : keptB (runB bs0 0 (K.take k)) kd (decide (X ≠ [])) = false := by simpa using hb
          obtain ⟨h1, h2, h3, h4⟩ := keptN_out hKk' hbf
          rw [← hJK, hp] at h1
          rw [hp] at h2
          rw [hok] at h3
          rw [hek] at h4
          have hnot := kept_not hbf
          have hcell : (¬ (p : Int) < (q : Int)) ∨ ((p : Int) < (q : Int) ∧ ∃ gf of x, fa = some ⟨gf, of, none⟩ ∧ wr.cell? ⟨gf, of + p, none⟩ = some (.int .i64 x) ∧ (x == (k : Int)) = false) := by
            by_cases hpq : p < q
            · right
              obtain ⟨x, hxj⟩ : ∃ x, J[p]? = some x := ⟨_, List.getElem?_eq_getElem (by rw [HQ.out]; exact hpq)⟩
              obtain ⟨gf, of, hfa, hgf, f0⟩ := HFC.out p _ hxj
              exact ⟨by omega, gf, of, x, hfa, bcell HBR.out f0 hgf, by simpa using h1 x hxj⟩
            · left
              omega
          have H2 := Lib.hid h2
          have hkind : (kd = 0 ∧ tn = 0) ∨ kd = 5 ∨ kd = 6 ∨ kd = 7 := by
            rcases hnot with ⟨h5, h6⟩ | h5
            · left
              refine ⟨h5, ?_⟩
              have h7 : X = [] := by simpa using h6
              rw [htn.1, h7]
              rfl
            · exact .inr h5
          obtain ⟨-, htc1, htc2⟩ := htn
          unfold maxLen at htc2
          have H3 := Lib.hid h3
          have H4 := Lib.hid h4
          rw [hp, hek, hok]
          rw [hp] at hpl
          rw [hek] at hel
          rw [hok] at hol
          clear hlk hKk hKk' hx hX hkd l0 hJK hb hbf h1 h2 h3 h4 hp hek hok hnot
          rcases hcell with hpq | ⟨hpq, gf, of, x, rfl, f1, hxk⟩
          all_goals
            rcases hkind with ⟨rfl, rfl⟩ | rfl | rfl | rfl
            all_goals
              go_wp2_with (go_at_call 13; (with_reducible refine (HKI.out _ HBR.out).mono ?_); rintro e w9 ⟨rfl, hb9⟩; have HB9 := Lib.hid (below_up HBR.out hb9); (have e9 := bcell HB9.out HL0.out HG.out); clear hb9)
              go_roundw
              case rel => exact ordR_mk (k := k + 1) (by go_num) hlt (by rw [H2.out]) (by rw [H4.out]; simp) (by rw [H3.out]; simp) HB9.out
              case measure => simp [intOf]; omega
      · have hkI : ¬ (k : Int) < (n : Int) := by omega
        have HKE : Hid (keptN K k = q) := Lib.hid (by
          have h1 := kept_all K
          rw [HKN.out, ← HFK.out, HQ.out] at h1
          rw [show k = n from by omega]
          exact h1)
        have hbt1 : oddK K k ≤ outN T := by
          have := HBT.out.1
          rw [show k = n from by omega]
          exact this
        have hbt2 : outN T ≤ oddK K k + endK K k := by
          have := HBT.out.2
          rw [show k = n from by omega]
          exact this
        rw [HKE.out]
        obtain ⟨ek, hek⟩ : ∃ ek, endK K k = ek := ⟨_, rfl⟩
        obtain ⟨ok, hok⟩ : ∃ ok, oddK K k = ok := ⟨_, rfl⟩
        rw [hek] at hel hbt2
        rw [hok] at hol hbt1 hbt2
        rw [hek, hok]
        clear hek hok
        have hda := diags_at (DRow.at (DRow.over HD8.out HBR.out))
        obtain ⟨hdn, hdc1, hdc2, hdcell⟩ := hda
        have HDC := Lib.hid hdcell
        have HDL := Lib.hid hdn
        unfold maxLen at hdc2
        have HX := Lib.hid (below_up HB8.out HBR.out)
        clear hdn hdcell
        go_wp2
        go_loop [11, 12] (fun o i => ∃ j : Nat, i = .int .i64 (j : Int) ∧ j ≤ dn ∧ o = .int .i64 (outN (T.take j) : Int)) (fun _ i => dn - (intOf i).toNat)
        case atStart => exact ⟨0, rfl, Nat.zero_le _, rfl⟩
        case round =>
          obtain ⟨j, rfl, hj, rfl⟩ := hrel
          have hoj : outN (T.take j) ≤ j := by
            have h1 := List.length_filter_le (fun d : Dg => d.c == 12) (T.take j)
            rw [List.length_take] at h1
            unfold outN
            omega
          by_cases hlj : j < dn
          · obtain ⟨d, hd⟩ : ∃ d, T[j]? = some d := ⟨_, List.getElem?_eq_getElem (by rw [← HDL.out]; exact hlj)⟩
            obtain ⟨gd, rfl, hgd, d0⟩ := HDC.out j d hd
            have hjI : (j : Int) < (dn : Int) := by omega
            have hj0 : (0 : Int) ≤ (j : Int) := by omega
            have hone : outN (T.take (j + 1)) = outN (T.take j) + outN [d] := by rw [take_one hd, out_app]
            obtain ⟨oj, hoe⟩ : ∃ oj, outN (T.take j) = oj := ⟨_, rfl⟩
            rw [hoe] at hoj hone ⊢
            by_cases hd12 : d.c = 12
            · have hde : ((d.c : Int) == 12) = true := by rw [hd12]; rfl
              have H1 : Hid (outN (T.take (j + 1)) = oj + 1) := Lib.hid (by rw [hone]; unfold outN; simp [hd12])
              clear hd hgd hone hoe hd12
              go_wp2
              go_round
              case rel => exact ⟨j + 1, by go_num, hlj, by rw [H1.out]; go_num⟩
              case measure => simp [intOf]; omega
            · have hde : ((d.c : Int) == 12) = false := by simp; omega
              have H1 : Hid (outN (T.take (j + 1)) = oj) := Lib.hid (by rw [hone]; unfold outN; simp [hd12])
              clear hd hgd hone hoe hd12
              go_wp2
              go_round
              case rel => exact ⟨j + 1, by go_num, hlj, by rw [H1.out]⟩
              case measure => simp [intOf]; omega
          · have hjI : ¬ (j : Int) < (dn : Int) := by omega
            have hje : outN (T.take j) = outN T := by rw [List.take_of_length_le (by rw [← HDL.out]; omega)]
            rw [hje] at hoj ⊢
            obtain ⟨ot, hot⟩ : ∃ ot, outN T = ot := ⟨_, rfl⟩
            rw [hot] at hoj hbt1 hbt2 ⊢
            have ho1 : (ok : Int) ≤ (ot : Int) := by omega
            have ho2 : (ot : Int) ≤ (ok : Int) + (ek : Int) := by omega
            clear hot hje
            go_wp2_with (go_at_call 21; (with_reducible refine (HA.out _ HX.out).mono ?_); rintro e w1 ⟨rfl, hb⟩; have HB1 := Lib.hid (below_up HX.out hb); clear hb)
            go_ret
            exact ⟨rfl, HB1.out⟩
  · have hI : (3000 : Int) < (s.size : Int) := by omega
    go_enter Tryd.func7, Tryd.ntmps7
    go_wp2_with (go_at_call 21; (with_reducible refine (HA.out _ (Below.refl _ _)).mono ?_); rintro e w1 ⟨rfl, hb⟩; have HB1 := Lib.hid hb; clear hb)
    go_ret
    exact ⟨rfl, HB1.out⟩

end Go.Proofs.YtlnlpahmfpjjdaaDoor
