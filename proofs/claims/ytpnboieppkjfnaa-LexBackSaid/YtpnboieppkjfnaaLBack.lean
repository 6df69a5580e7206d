/-
  LexBack, walked.
-/
import Derived.Test.YtpnboieppkjfnaaBackL
import Derived.Test.YtpnboieppkjfnaaLLong
import Derived.BigRegion
namespace Go.Proofs.Ytpnboieppkjfnaa
open Go.RowKit

/-- No byte there that the law passes over. -/
def PB (l : List UInt8) (j : Nat) : Prop := l.getD j 0 ≠ 92 ∧ l.getD j 0 ≠ 63 ∧ (0 < j → ¬ (l.getD (j - 1) 0 = 47 ∧ (l.getD j 0 = 42 ∨ l.getD j 0 = 47)))
theorem cl_of {l : List UInt8} (h : ∀ j, j < l.length → PB l j) : Cl l := fun i hi => ⟨(h i hi).1, (h i hi).2.1, by
  rintro ⟨a, b⟩
  have h1 : i + 1 < l.length := by rcases b with b | b <;> exact getD_lt (by rw [b]; decide)
  exact (h (i + 1) h1).2.2 (by omega) ⟨by simpa using a, b.symm⟩⟩
theorem pb_next {l : List UInt8} {j q : Nat} (h : ∀ q, q < j → PB l q) (hj : PB l j) (hq : q < j + 1) : PB l q := by
  by_cases e : q = j
  · rw [e]
    exact hj
  · exact h q (by omega)

set_option maxRecDepth 100000 in
theorem back_long (s : ByteArray) (W : World) (hs : s.size ≤ maxLen) (hl : 2000 < s.size) : Calls Try.prog 4 #[.string s] W (AwakePost W) := by
  unfold maxLen at hs
  have hli : (2000 : Int) < (s.size : Int) := by omega
  go_enter Try.func4, Try.ntmps4
  go_wp2_with (go_at_call 8; (with_reducible refine (awake_any _).mono ?_); rintro e w1 ⟨rfl, b1⟩)
  go_ret
  exact ⟨rfl, b1⟩

/-- What lex.Lines answers. -/
def LinesR (F : ByteArray) (lines : List Ln) (W : World) (e : Ending) (w' : World) : Prop := ∃ la lc da m dc, e = .returned (.tuple #[.slice la lines.length lc, .slice da m dc]) ∧ LinesAt F lines (.slice la lines.length lc) w' ∧ Below W.heap.size W w'
theorem lines_R {F s : ByteArray} {W : World} {lines : List Ln} (hs : s.size ≤ 100000) (hF : F.size ≤ 1000000) (hl : (linesA (charsL s.data.toList) s.size).lines = lines) : Calls Try.prog 9 #[.string F, .string s] W (LinesR F lines W) := by
  subst hl
  refine (lines_any F s W hs hF).mono ?_
  rintro e w' ⟨la, n, lc, da, m, dc, rfl, hn, -, hr, -⟩
  subst hn
  exact ⟨la, lc, da, m, dc, rfl, hr.at, hr.low⟩

/-- One line of so many tokens. -/
def OneLineM (F : ByteArray) (T : List Tk) (n : Nat) (X : World) (e : Ending) (w' : World) : Prop :=
  ∃ g lc da dc tg tc, e = .returned (.tuple #[.slice (some ⟨g, 0, none⟩) 1 lc, .slice da 0 dc]) ∧ 1 ≤ lc ∧ lc ≤ maxLen ∧ g < w'.heap.size ∧ w'.cell? ⟨g, 0, none⟩ = some (.slice tg n tc) ∧ ToksAt F T (.slice tg n tc) w' ∧ Below X.heap.size X w'
theorem one_lineM {F s : ByteArray} {X : World} {T : List Tk} {f t n : Nat} (hs : s.size ≤ 100000) (hF : F.size ≤ 1000000) (hl : (linesA (charsL s.data.toList) s.size).lines = [⟨T, f, t, false⟩]) (hd : (linesA (charsL s.data.toList) s.size).diags = []) (hn : T.length = n) : Calls Try.prog 9 #[.string F, .string s] X (OneLineM F T n X) := by
  subst hn
  exact one_line hs hF hl hd

def B3Rel (T : List Tk) (sv jv : Value) : Prop := ∃ (j : Nat) (S : ByteArray), jv = .int .i64 (j : Int) ∧ j ≤ T.length ∧ sv = .string S ∧ S.data.toList = tbText (T.take j) ∧ ∀ t ∈ T.take j, t.k ≠ 6
theorem b3_on {T : List Tk} {j : Nat} {S X : ByteArray} {t : Tk} {i : Int} (ht : T[j]? = some t) (hX : X.data.toList = t.x) (h6 : t.k ≠ 6) (hS : S.data.toList = tbText (T.take j)) (hk : ∀ t ∈ T.take j, t.k ≠ 6) (hj : j < T.length) (hi : i = ((j + 1 : Nat) : Int)) : B3Rel T (.string (S ++ X ++ ⟨#[32]⟩)) (.int .i64 i) := by
  subst hi
  refine ⟨j + 1, _, rfl, hj, rfl, ?_, fun u hu => ?_⟩
  · rw [append_data, append_data, hS, hX, tbText_take ht]
  · rw [List.take_add_one, ht] at hu
    rcases List.mem_append.1 hu with hu | hu
    · exact hk u hu
    · simp at hu
      rw [hu]
      exact h6

/-- Told and lexed again, it is the same line. -/
theorem tb_bytes {T : List Tk} {S : ByteArray} (hS : S.data.toList = tbText T) (hT : ∀ t ∈ T, TkB t) (h6 : ∀ t ∈ T, t.k ≠ 6) (h0 : T ≠ []) : ∃ U, U.length = T.length ∧ (∀ (j : Nat) (t u : Tk), T[j]? = some t → U[j]? = some u → u.k = t.k ∧ u.x = t.x ∧ u.sp = (if j = 0 then false else true)) ∧ (linesA (charsL S.data.toList) S.size).lines = [⟨U, 0, S.size, false⟩] ∧ (linesA (charsL S.data.toList) S.size).diags = [] := by
  obtain ⟨U, hU, hl, hd⟩ := tb_again (fun t ht => ⟨hT t ht, h6 t ht⟩) h0
  obtain ⟨h1, h2⟩ := hU.get
  refine ⟨U, h1, h2, ?_⟩
  rw [← len_byte, hS]
  exact ⟨hl, hd⟩

theorem below_al2 {w2 wr : World} (h : Below w2.heap.size w2 wr) (o1 o2 : Obj) : Below w2.heap.size w2 ((wr.alloc o1).alloc o2).drew :=
  ((h.alloc h.size o1).alloc (Nat.le_trans h.size (by simp)) o2).drew

set_option maxRecDepth 100000 in
set_option maxHeartbeats 6400000 in
theorem back_short (s : ByteArray) (W : World) (hl : s.size ≤ 2000) : Calls Try.prog 4 #[.string s] W (AwakePost W) := by
  have hli : ¬ (2000 : Int) < (s.size : Int) := by omega
  go_enter Try.func4, Try.ntmps4
  go_wp2
  go_loop [3] (fun iv => ∃ j : Nat, iv = .int .i64 (j : Int) ∧ j ≤ s.size ∧ ∀ q, q < j → PB s.data.toList q) (fun iv => s.size - (intOf iv).toNat)
  case atStart => exact ⟨0, rfl, Nat.zero_le _, fun q hq => by omega⟩
  case round =>
    obtain ⟨j, rfl, hj, hall⟩ := hrel
    have HA := Lib.hid hall
    clear hall
    by_cases hjs : j < s.size
    · have hjI : (j : Int) < (s.size : Int) := by omega
      have g0 := get_byte s j hjs
      by_cases c92 : s[j] = 92
      · have b92 : (((s[j].toNat : Nat) : Int) == 92) = true := by rw [c92]; rfl
        clear g0 c92
        go_wp2_with (go_at_call 8; (with_reducible refine (awake_any _).mono ?_); rintro e w1 ⟨rfl, b1⟩)
        go_ret
        exact ⟨rfl, b1⟩
      · have b92 : (((s[j].toNat : Nat) : Int) == 92) = false := byte_neB (n := 92) (by omega) c92
        by_cases c63 : s[j] = 63
        · have b63 : (((s[j].toNat : Nat) : Int) == 63) = true := by rw [c63]; rfl
          clear g0 c92 c63
          go_wp2_with (go_at_call 8; (with_reducible refine (awake_any _).mono ?_); rintro e w1 ⟨rfl, b1⟩)
          go_ret
          exact ⟨rfl, b1⟩
        · have b63 : (((s[j].toNat : Nat) : Int) == 63) = false := byte_neB (n := 63) (by omega) c63
          by_cases j0 : 0 < j
          · obtain ⟨q, rfl⟩ : ∃ q, j = q + 1 := ⟨j - 1, by omega⟩
            have hqs : q < s.size := by omega
            have g1 := get_byte s q hqs
            have ec : ((q + 1 : Nat) : Int) = (q : Int) + 1 := by omega
            rw [ec] at hjI ⊢
            clear ec
            have hpos : (0 : Int) < (q : Int) + 1 := by omega
            by_cases p47 : s[q] = 47
            · have d47 : (((s[q].toNat : Nat) : Int) == 47) = true := by rw [p47]; rfl
              by_cases c42 : s[q + 1] = 42
              · have b42 : (((s[q + 1].toNat : Nat) : Int) == 42) = true := by rw [c42]; rfl
                clear g0 g1 c92 c63 p47 c42
                go_wp2_with (go_at_call 8; (with_reducible refine (awake_any _).mono ?_); rintro e w1 ⟨rfl, b1⟩)
                go_ret
                exact ⟨rfl, b1⟩
              · have b42 : (((s[q + 1].toNat : Nat) : Int) == 42) = false := byte_neB (n := 42) (by omega) c42
                by_cases c47 : s[q + 1] = 47
                · have b47 : (((s[q + 1].toNat : Nat) : Int) == 47) = true := by rw [c47]; rfl
                  clear g0 g1 c92 c63 p47 c42 c47
                  go_wp2_with (go_at_call 8; (with_reducible refine (awake_any _).mono ?_); rintro e w1 ⟨rfl, b1⟩)
                  go_ret
                  exact ⟨rfl, b1⟩
                · have b47 : (((s[q + 1].toNat : Nat) : Int) == 47) = false := byte_neB (n := 47) (by omega) c47
                  have HP : Hid (PB s.data.toList (q + 1)) := Lib.hid ⟨by rw [g0]; exact c92, by rw [g0]; exact c63, fun _ => by rw [g0]; rintro ⟨-, h | h⟩; exact c42 h; exact c47 h⟩
                  clear g0 g1 c92 c63 p47 c42 c47
                  go_wp2
                  go_round
                  case rel => exact ⟨q + 1 + 1, by go_num, by omega, fun p hp => pb_next HA.out HP.out hp⟩
                  case measure => simp [intOf]; omega
            · have d47 : (((s[q].toNat : Nat) : Int) == 47) = false := byte_neB (n := 47) (by omega) p47
              have HP : Hid (PB s.data.toList (q + 1)) := Lib.hid ⟨by rw [g0]; exact c92, by rw [g0]; exact c63, fun _ => by rw [Nat.add_sub_cancel, g1]; rintro ⟨h, -⟩; exact p47 h⟩
              clear g0 g1 c92 c63 p47
              go_wp2
              go_round
              case rel => exact ⟨q + 1 + 1, by go_num, by omega, fun p hp => pb_next HA.out HP.out hp⟩
              case measure => simp [intOf]; omega
          · have hpos : ¬ (0 : Int) < (j : Int) := by omega
            have HP : Hid (PB s.data.toList j) := Lib.hid ⟨by rw [g0]; exact c92, by rw [g0]; exact c63, fun h => absurd h j0⟩
            clear g0 c92 c63
            go_wp2
            go_round
            case rel => exact ⟨j + 1, by go_num, by omega, fun p hp => pb_next HA.out HP.out hp⟩
            case measure => simp [intOf]; omega
    · have hjI : ¬ (j : Int) < (s.size : Int) := by omega
      have HCL : Hid (Cl s.data.toList) := Lib.hid (cl_of fun i hi => HA.out i (by rw [len_byte] at hi; omega))
      obtain ⟨lines, hlines⟩ : ∃ lines, (linesA (charsL s.data.toList) s.size).lines = lines := ⟨_, rfl⟩
      have hLB := tb_first HCL.out
      rw [len_byte, hlines] at hLB
      have HLB := Lib.hid hLB
      have HLN := Lib.hid (fun X => lines_R (W := X) (F := ⟨#[102]⟩) (by omega) (by decide) hlines)
      clear hLB hlines
      go_wp2_with (go_at_call 9; (with_reducible refine (HLN.out _).mono ?_); rintro e w1 ⟨la, lc, da, m, dc, rfl, hat, b1⟩; have HAT := Lib.hid hat; have B1 := Lib.hid b1; clear hat b1)
      go_loopw [6] (fun iv wr => ∃ k : Nat, iv = .int .i64 (k : Int) ∧ k ≤ lines.length ∧ Below w1.heap.size w1 wr) (fun iv _ => lines.length - (intOf iv).toNat)
      case atStart => exact ⟨0, rfl, Nat.zero_le _, Below.refl _ _⟩
      case round =>
        obtain ⟨k, rfl, hk, hb⟩ := hrel
        obtain ⟨a', cap, hv, c1, c2, hln⟩ := HAT.out.next hb
        simp only [Value.slice.injEq] at hv
        obtain ⟨rfl, -, rfl⟩ := hv
        unfold maxLen at c2
        have HBB := Lib.hid hb
        clear hb
        by_cases hlt : k < lines.length
        · obtain ⟨ln, hl⟩ : ∃ ln, lines[k]? = some ln := ⟨_, List.getElem?_eq_getElem hlt⟩
          obtain ⟨g, tv, rfl, hg, kc0, kc1, kc2, kc3, htks⟩ := hln k ln hl
          have htks2 := htks
          obtain ⟨ta, tc, rfl, d1, d2, htk⟩ := htks2
          unfold maxLen at d2
          obtain ⟨ho, hTB, hle⟩ := HLB.out ln (List.mem_of_getElem? hl)
          rw [ho] at kc3
          have HTB := Lib.hid hTB
          have HTK := Lib.hid htk
          have HTA := Lib.hid htks
          have hki : (k : Int) < (lines.length : Int) := by omega
          clear hln hl ho hTB htks htk
          obtain ⟨wo, hwo⟩ : ∃ wo : World, wr = wo := ⟨_, rfl⟩
          rw [hwo] at kc0 kc1 kc2 kc3 HTK HTA HBB hg ⊢
          clear hwo
          go_wp2
          go_loop [7, 8] (fun sv jv => B3Rel ln.toks sv jv) (fun _ jv => ln.toks.length - (intOf jv).toNat)
          case atStart => exact ⟨0, ⟨#[]⟩, rfl, Nat.zero_le _, rfl, rfl, (by intro t ht; simp at ht)⟩
          case round =>
            obtain ⟨jn, S, rfl, hj, rfl, hS, h6⟩ := hrel
            have HSD := Lib.hid hS
            have H6 := Lib.hid h6
            have hSz : S.size ≤ 4002 := by
              have := tbText_le ln.toks jn
              rw [← len_byte, hS]
              omega
            clear hS h6
            by_cases hjlt : jn < ln.toks.length
            · obtain ⟨t, ht⟩ : ∃ t, ln.toks[jn]? = some t := ⟨_, List.getElem?_eq_getElem hjlt⟩
              obtain ⟨gt, rfl, hgt, hta⟩ := HTK.out jn t ht
              obtain ⟨x0, x1, -, -, -, -, -, -⟩ := hta
              obtain ⟨X, hX⟩ : ∃ X : ByteArray, (⟨t.x.toArray⟩ : ByteArray) = X := ⟨_, rfl⟩
              have HXD : Hid (X.data.toList = t.x) := Lib.hid (by rw [← hX])
              have HTT := Lib.hid ht
              rw [hX] at x1
              have hji : (jn : Int) < (ln.toks.length : Int) := by omega
              have hSX : S.size + X.size + 1 ≤ 4002 := by
                have h1 := tbText_le ln.toks (jn + 1)
                rw [tbText_take ht, List.length_append, List.length_append, ← HXD.out, ← HSD.out, len_byte, len_byte] at h1
                simp only [List.length_cons, List.length_nil] at h1
                omega
              clear hX ht
              by_cases h6 : t.k = 6
              · have b6 : ((t.k : Int) == 6) = true := by rw [h6]; rfl
                clear h6
                go_wp2
                go_roundw
                case rel => exact ⟨k + 1, by go_num, hlt, HBB.out⟩
                case measure => simp [intOf]; omega
              · have b6 : ((t.k : Int) == 6) = false := by rw [beq_eq_false_iff_ne]; omega
                have HN6 := Lib.hid h6
                clear h6
                go_wp2
                go_round
                case rel => exact b3_on HTT.out HXD.out HN6.out HSD.out H6.out hjlt (by simp)
                case measure => simp [intOf]; omega
            · have hji : ¬ (jn : Int) < (ln.toks.length : Int) := by omega
              have hje : jn = ln.toks.length := by omega
              have HSA : Hid (S.data.toList = tbText ln.toks) := Lib.hid (by have := HSD.out; rw [hje, List.take_length] at this; exact this)
              have H6A : Hid (∀ t ∈ ln.toks, t.k ≠ 6) := Lib.hid (by have := H6.out; rw [hje, List.take_length] at this; exact this)
              clear hje
              by_cases hS0 : 0 < S.size
              · have he1 := empty_no hS0
                have hne : ln.toks ≠ [] := by
                  intro e
                  have h1 := HSA.out
                  rw [e] at h1
                  have h2 : S.size = 0 := by rw [← len_byte, h1]; rfl
                  omega
                obtain ⟨U, hUl, hUg, hUn, hUd⟩ := tb_bytes HSA.out HTB.out H6A.out hne
                have HL := Lib.hid (fun X => one_lineM (X := X) (F := ⟨#[103]⟩) (by omega) (by decide) hUn hUd hUl)
                have HUL := Lib.hid hUl
                have HUG := Lib.hid hUg
                clear hUn hUd hUl hUg hne
                go_wp2_with (go_at_call 9; (with_reducible refine (HL.out _).mono ?_); rintro e w2 ⟨g2, lc2, da2, dc2, tg, tc2, rfl, hc1, hc2, hg2, hk0, hta2, hb2⟩; have HTA2 := Lib.hid hta2; have HB2 := Lib.hid hb2; clear hta2 hb2)
                unfold maxLen at hc2
                have kd0 := bcell HB2.out kc0 hg
                have hg' : g < w2.heap.size := Nat.lt_of_lt_of_le hg HB2.out.size
                go_quiet (fail)
                go_wp2
                go_loopw [11] (fun iv wx => ∃ q : Nat, iv = .int .i64 (q : Int) ∧ q ≤ ln.toks.length ∧ Below w2.heap.size w2 wx) (fun iv _ => ln.toks.length - (intOf iv).toNat)
                case atStart => exact ⟨0, rfl, Nat.zero_le _, Below.of_drews _ _⟩
                case round =>
                  obtain ⟨q, rfl, hq, hbx⟩ := hrel
                  have e0 := bcell hbx hk0 hg2
                  have kd1 := bcell hbx kd0 hg'
                  have HBX := Lib.hid hbx
                  clear kd0
                  by_cases hqt : q < ln.toks.length
                  · have hqU : q < U.length := by rw [HUL.out]; exact hqt
                    have hqI : (q : Int) < (ln.toks.length : Int) := by omega
                    obtain ⟨t, ht⟩ : ∃ t, ln.toks[q]? = some t := ⟨_, List.getElem?_eq_getElem hqt⟩
                    obtain ⟨u, hu⟩ : ∃ u, U[q]? = some u := ⟨_, List.getElem?_eq_getElem hqU⟩
                    obtain ⟨huk, hux, hus⟩ := HUG.out q t u ht hu
                    obtain ⟨ta2, tcap2, hv, d3, d4, h3⟩ := HTA2.out
                    simp only [Value.slice.injEq] at hv
                    obtain ⟨rfl, -, rfl⟩ := hv
                    obtain ⟨gu, rfl, hgu, hau⟩ := h3 q u hu
                    unfold maxLen at d4
                    rw [HUL.out] at d3
                    obtain ⟨gt, rfl, hgt, hat⟩ := HTK.out q t ht
                    obtain ⟨f0, f1, f2, f3, f4, f5, f6, f7⟩ := hau.next hbx hgu
                    obtain ⟨x0, x1, x2, x3, x4, x5, x6, x7⟩ := hat.next (below_up HB2.out hbx) hgt
                    rw [huk] at f0
                    rw [hux] at f1
                    obtain ⟨bs, hbs⟩ : ∃ bs, decide (0 < q) = bs := ⟨_, rfl⟩
                    have hus2 : u.sp = bs := by
                      rw [hus, ← hbs]
                      by_cases h0 : q = 0
                      · rw [if_pos h0, h0]; rfl
                      · rw [if_neg h0]
                        exact (decide_eq_true (by omega)).symm
                    rw [hus2] at f2
                    obtain ⟨X, hX⟩ : ∃ X : ByteArray, (⟨t.x.toArray⟩ : ByteArray) = X := ⟨_, rfl⟩
                    rw [hX] at f1 x1
                    have hgx : g < wr.heap.size := Nat.lt_of_lt_of_le hg' hbx.size
                    have hg2x : g2 < wr.heap.size := Nat.lt_of_lt_of_le hg2 hbx.size
                    have hgtx : gt < wr.heap.size := Nat.lt_of_lt_of_le hgt (below_up HB2.out hbx).size
                    have hgux : gu < wr.heap.size := Nat.lt_of_lt_of_le hgu hbx.size
                    clear hX ht hu huk hux hus hus2 h3 hau hat hbx hqU
                    have n1 : g ≠ wr.heap.size := by omega
                    have n2 : g2 ≠ wr.heap.size := by omega
                    have n3 : gt ≠ wr.heap.size := by omega
                    have n4 : gu ≠ wr.heap.size := by omega
                    have m1 : wr.heap.size ≠ g := by omega
                    have m2 : wr.heap.size ≠ g2 := by omega
                    have m3 : wr.heap.size ≠ gt := by omega
                    have m4 : wr.heap.size ≠ gu := by omega
                    go_wp2
                    go_region
                    all_goals go_wp2
                    all_goals go_roundw
                    all_goals first
                      | exact ⟨q + 1, by go_num, hqt, below_al2 HBX.out _ _⟩
                      | (simp [intOf] <;> omega)
                  · have hqI : ¬ (q : Int) < (ln.toks.length : Int) := by omega
                    clear hbx
                    go_wp2
                    go_roundw
                    case rel => exact ⟨k + 1, by go_num, hlt, below_up (below_up HBB.out HB2.out) HBX.out⟩
                    case measure => simp [intOf]; omega
              · have he1 := empty_yes (s := S) hS0
                go_wp2
                go_roundw
                case rel => exact ⟨k + 1, by go_num, hlt, HBB.out⟩
                case measure => simp [intOf]; omega
        · have hki : ¬ (k : Int) < (lines.length : Int) := by omega
          clear hln
          go_wp2_with (go_at_call 8; (with_reducible refine (awake_any _).mono ?_); rintro e w6 ⟨rfl, b6⟩; have B6 := Lib.hid b6; clear b6)
          go_ret
          exact ⟨rfl, below_up (below_up B1.out HBB.out) B6.out⟩

theorem law_back (s : ByteArray) (W : World) (hs : s.size ≤ maxLen) : Calls Try.prog 4 #[.string s] W fun e W' => e = .returned (.bool true) ∧ Below W.heap.size W W' := by
  by_cases hl : s.size ≤ 2000
  · exact back_short s W hl
  · exact back_long s W hs (by omega)

end Go.Proofs.Ytpnboieppkjfnaa
