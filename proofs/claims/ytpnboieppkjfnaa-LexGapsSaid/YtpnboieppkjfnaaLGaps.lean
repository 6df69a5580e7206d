/-
  LexGaps, walked.
-/
import Derived.Test.YtpnboieppkjfnaaGapsW
import Derived.SliceStrings
namespace Go.Proofs.Ytpnboieppkjfnaa
open Go.RowKit Go.ChangeShapes Go.WideShapes

set_option maxRecDepth 100000 in
theorem gaps_void {a b : Option Addr} {n cap m bcap : Nat} (W : World) (h : 12 < n ∨ 20 < m) (_hn : n ≤ 9223372036854775807) (_hm : m ≤ 9223372036854775807) : Calls Try.prog 7 #[.slice a n cap, .slice b m bcap] W (AwakePost W) := by
  by_cases h1 : 12 < n
  · have h1 : (12 : Int) < (n : Int) := by omega
    go_enter Try.func7, Try.ntmps7
    go_wp2_with (go_at_call 8; (with_reducible refine (awake_any _).mono ?_); rintro e w1 ⟨rfl, b1⟩)
    go_ret
    exact ⟨rfl, b1⟩
  · have h1 : ¬ (12 : Int) < (n : Int) := by omega
    have h2 : (20 : Int) < (m : Int) := by omega
    go_enter Try.func7, Try.ntmps7
    go_wp2_with (go_at_call 8; (with_reducible refine (awake_any _).mono ?_); rintro e w1 ⟨rfl, b1⟩)
    go_ret
    exact ⟨rfl, b1⟩

theorem GK_each : ∀ g ∈ GK, g.length ≤ 11 := by decide
theorem gap_get {j : Nat} (h : j < 6) : ∃ g, GK[j]? = some g := ⟨_, List.getElem?_eq_getElem (by show j < 6; exact h)⟩
/-- The row of the gaps. -/
def GapsAt (g : Nat) (w : World) : Prop := g < w.heap.size ∧ ∀ k x, GK[k]? = some x → w.cell? ⟨g, k, none⟩ = some (.string ⟨x.toArray⟩)
theorem GapsAt.next {g : Nat} {w w' : World} (h : GapsAt g w) (b : Below w.heap.size w w') : GapsAt g w' := ⟨Nat.lt_of_lt_of_le h.1 b.size, fun k x hk => bcell b (h.2 k x hk) h.1⟩
theorem GapsAt.get {g : Nat} {w : World} (h : GapsAt g w) {j : Nat} (hj : j < 6) : ∃ G : ByteArray, w.cell? ⟨g, j, none⟩ = some (.string G) ∧ G.data.toList ∈ GK ∧ G.size ≤ 11 := by
  obtain ⟨x, hx⟩ := gap_get hj
  refine ⟨⟨x.toArray⟩, h.2 j x hx, ?_, ?_⟩
  · show x ∈ GK
    exact List.mem_of_getElem? hx
  · rw [← len_byte]
    exact GK_each x (List.mem_of_getElem? hx)
theorem gaps_cells (w : World) {cs : Array Value} {T : TypeId} (h : cs.toList = GK.map fun p => .string ⟨p.toArray⟩) : GapsAt w.heap.size (w.alloc (.cells cs T)) := by
  refine ⟨by simp, fun k p hp => bcell_new (Below.refl _ _) ?_⟩
  rw [← Array.getElem?_toList, h, List.getElem?_map, hp]
  rfl

def G1Rel (wk : World) (ws : List (List UInt8)) (sv i : Value) (wr : World) : Prop := ∃ (k : Nat) (S : ByteArray), i = .int .i64 (k : Int) ∧ k ≤ ws.length ∧ sv = .string S ∧ S.size ≤ k * 40 ∧ GapRel ws k S ∧ Below wk.heap.size wk wr
theorem g1_on {wk wr : World} {ws : List (List UInt8)} {k : Nat} {S G X : ByteArray} {i : Int} (h : GapRel ws k S) (hx : ws[k]? = some X.data.toList) (hg : G.data.toList ∈ GK) (hw : LowW X.data.toList) (hS : S.size ≤ k * 40) (hGs : G.size ≤ 11) (hXs : X.size ≤ 20) (hk : k < ws.length) (b : Below wk.heap.size wk wr) (hi : i = ((k + 1 : Nat) : Int)) : G1Rel wk ws (.string (S ++ G ++ X)) (.int .i64 i) wr := by
  subst hi
  exact ⟨k + 1, _, rfl, hk, rfl, (by rw [ByteArray.size_append, ByteArray.size_append]; omega), h.on hx hg hw, b⟩

/-- All words are lexed so. -/
theorem GapRel.done {ws : List (List UInt8)} {S : ByteArray} (h : GapRel ws ws.length S) : ∃ T : List Tk, T.length = ws.length ∧ (∀ (j : Nat) (t : Tk), T[j]? = some t → t.k = 1 ∧ t.sp = true ∧ ws[j]? = some t.x) ∧ ∀ Z : ByteArray, Z.data.toList = tailG → ∃ n, (linesA (charsL (S ++ Z).data.toList) (S ++ Z).size).lines = [⟨T, 0, n, false⟩] ∧ (linesA (charsL (S ++ Z).data.toList) (S ++ Z).size).diags = [] := by
  obtain ⟨P, h1, h2, h3⟩ := h
  rw [List.take_length] at h1
  obtain ⟨T, hT, hl, hd⟩ := gaps_lines h2
  obtain ⟨hlen, hget⟩ := hT.get
  refine ⟨T, by rw [hlen, ← h1, List.length_map], fun j t ht => ?_, fun Z hZ => ?_⟩
  · obtain ⟨a, b, c⟩ := hget j t ht
    rw [h1] at c
    exact ⟨a, b, c⟩
  · have e : (S ++ Z).data.toList = gText P := by rw [append_data, h3, hZ, gText_is]
    rw [← len_byte, e]
    exact ⟨_, hl, hd⟩

/-- One line of so many tokens. -/
def OneLineN (F : ByteArray) (T : List Tk) (n : Nat) (X : World) (e : Ending) (w' : World) : Prop :=
  ∃ g lc da dc tg tc, e = .returned (.tuple #[.slice (some ⟨g, 0, none⟩) 1 lc, .slice da 0 dc]) ∧ 1 ≤ lc ∧ lc ≤ maxLen ∧ g < w'.heap.size ∧ w'.cell? ⟨g, 0, none⟩ = some (.slice tg n tc) ∧ ToksAt F T (.slice tg n tc) w' ∧ Below X.heap.size X w'
theorem one_lineN {F s : ByteArray} {X : World} {T : List Tk} {f t n : Nat} (hs : s.size ≤ 100000) (hF : F.size ≤ 1000000) (hl : (linesA (charsL s.data.toList) s.size).lines = [⟨T, f, t, false⟩]) (hd : (linesA (charsL s.data.toList) s.size).diags = []) (hn : T.length = n) : Calls Try.prog 9 #[.string F, .string s] X (OneLineN F T n X) := by
  subst hn
  exact one_line hs hF hl hd

theorem low_snoc {l : List UInt8} {j : Nat} {c : UInt8} (h : ∀ c ∈ l.take j, isLow c = true) (hj : l[j]? = some c) (hc : isLow c = true) : ∀ c ∈ l.take (j + 1), isLow c = true := by
  intro d hd
  rw [List.take_add_one, hj] at hd
  rcases List.mem_append.1 hd with hd | hd
  · exact h d hd
  · simp at hd
    rw [hd]
    exact hc
theorem low_of {c : UInt8} (h1 : ¬ (c.toNat : Int) < 97) (h2 : ¬ (122 : Int) < (c.toNat : Int)) : isLow c = true := by
  unfold isLow
  simp only [Bool.and_eq_true, decide_eq_true_eq]
  omega
theorem get_some (s : ByteArray) (j : Nat) (h : j < s.size) : s.data.toList[j]? = some s[j] := by
  have hl : j < s.data.toList.length := by rw [len_byte]; exact h
  rw [List.getElem?_eq_getElem hl]
  rfl

set_option maxRecDepth 100000 in
set_option maxHeartbeats 6400000 in
theorem gaps_main {a b : Option Addr} {cap bcap : Nat} (ws : List (List UInt8)) (ks : List Int) (W : World) (hS : StrsAt a ws W) (hI : IntsAt b ks W) (hz : ∀ y ∈ ws, y.length ≤ 9223372036854775807) (hn : ws.length ≤ 12) (hm : ks.length ≤ 20) : Calls Try.prog 7 #[.slice a ws.length cap, .slice b ks.length bcap] W (AwakePost W) := by
  have h1 : ¬ (12 : Int) < (ws.length : Int) := by omega
  have h2 : ¬ (20 : Int) < (ks.length : Int) := by omega
  have HS := Lib.hid hS
  have HI := Lib.hid hI
  have HZ := Lib.hid hz
  clear hS hI hz
  have HK := Lib.hid (gaps_cells W (cs := #[.string ⟨#[32]⟩, .string ⟨#[9]⟩, .string ⟨#[47, 42, 42, 47]⟩, .string ⟨#[47, 42, 32, 97, 32, 10, 32, 98, 32, 42, 47]⟩, .string ⟨#[32, 47, 42, 32, 42, 32, 47, 32, 42, 47, 32]⟩, .string ⟨#[11, 12]⟩]) (T := 9) rfl)
  have HB0 : Hid (Below W.heap.size W (W.alloc (.cells #[.string ⟨#[32]⟩, .string ⟨#[9]⟩, .string ⟨#[47, 42, 42, 47]⟩, .string ⟨#[47, 42, 32, 97, 32, 10, 32, 98, 32, 42, 47]⟩, .string ⟨#[32, 47, 42, 32, 42, 32, 47, 32, 42, 47, 32]⟩, .string ⟨#[11, 12]⟩] 9))) := Lib.hid ((Below.refl _ _).alloc (Nat.le_refl _) _)
  go_enter Try.func7, Try.ntmps7
  go_wp2
  obtain ⟨wk, hwk⟩ : ∃ wk, W.alloc (.cells #[.string ⟨#[32]⟩, .string ⟨#[9]⟩, .string ⟨#[47, 42, 42, 47]⟩, .string ⟨#[47, 42, 32, 97, 32, 10, 32, 98, 32, 42, 47]⟩, .string ⟨#[32, 47, 42, 32, 42, 32, 47, 32, 42, 47, 32]⟩, .string ⟨#[11, 12]⟩] 9) = wk := ⟨_, rfl⟩
  rw [hwk] at HK HB0 ⊢
  clear hwk
  obtain ⟨kb, hkb⟩ : ∃ kb, W.heap.size = kb := ⟨_, rfl⟩
  rw [hkb] at HK ⊢
  clear hkb
  go_loopw [6, 7] (fun sv i wr => G1Rel wk ws sv i wr) (fun _ i _ => ws.length - (intOf i).toNat)
  case atStart => exact ⟨0, ⟨#[]⟩, rfl, Nat.zero_le _, rfl, Nat.zero_le _, GapRel.zero ws, Below.refl _ _⟩
  case round =>
    obtain ⟨k, S, rfl, hk, rfl, hSs, hrelS, hb⟩ := hrel
    have HR := Lib.hid hrelS
    have HB := Lib.hid hb
    have HSS := Lib.hid hSs
    have hS500 : S.size ≤ 500 := by omega
    clear hrelS hb hSs
    by_cases hlt : k < ws.length
    · obtain ⟨x, hx⟩ : ∃ x, ws[k]? = some x := ⟨_, List.getElem?_eq_getElem hlt⟩
      obtain ⟨ad, rfl, hadl, hac⟩ := HS.out k x hx
      obtain ⟨X, hX⟩ : ∃ X : ByteArray, (⟨x.toArray⟩ : ByteArray) = X := ⟨_, rfl⟩
      have hXd : X.data.toList = x := by rw [← hX]
      rw [hX] at hac
      have hac2 : wr.cell? (ad.add k) = some (.string X) := (HB.out.cell (Nat.lt_of_lt_of_le (by rw [add_block2]; exact hadl) HB0.out.size)).trans ((HB0.out.cell (by rw [add_block2]; exact hadl)).trans hac)
      have HX : Hid (ws[k]? = some X.data.toList) := Lib.hid (by rw [hXd]; exact hx)
      have hXz : X.size ≤ 9223372036854775807 := by rw [← len_byte, hXd]; exact HZ.out x (List.mem_of_getElem? hx)
      have hkI : (k : Int) < (ws.length : Int) := by omega
      clear hac hx hX hXd
      go_wp2
      go_loop [8] (fun jv => ∃ j : Nat, jv = .int .i64 (j : Int) ∧ j ≤ X.size ∧ ∀ c ∈ X.data.toList.take j, isLow c = true) (fun jv => X.size - (intOf jv).toNat)
      case atStart => exact ⟨0, rfl, Nat.zero_le _, (by intro c hc; simp at hc)⟩
      case round =>
        obtain ⟨j, rfl, hj, hlow⟩ := hrel
        have HL := Lib.hid hlow
        clear hlow
        by_cases hjs : j < X.size
        · have hjI : (j : Int) < (X.size : Int) := by omega
          by_cases h97 : ((X[j].toNat : Nat) : Int) < 97
          · go_wp2_with (go_at_call 8; (with_reducible refine (awake_any _).mono ?_); rintro e w1 ⟨rfl, b1⟩; have B1 := Lib.hid b1; clear b1)
            go_ret
            exact ⟨rfl, below_up (below_up HB0.out HB.out) B1.out⟩
          · by_cases h122 : (122 : Int) < ((X[j].toNat : Nat) : Int)
            · go_wp2_with (go_at_call 8; (with_reducible refine (awake_any _).mono ?_); rintro e w1 ⟨rfl, b1⟩; have B1 := Lib.hid b1; clear b1)
              go_ret
              exact ⟨rfl, below_up (below_up HB0.out HB.out) B1.out⟩
            · have HLN : Hid (∀ c ∈ X.data.toList.take (j + 1), isLow c = true) := Lib.hid (low_snoc HL.out (get_some X j hjs) (low_of h97 h122))
              go_wp2
              go_round
              case rel => exact ⟨j + 1, by go_num, hjs, HLN.out⟩
              case measure => simp [intOf]; omega
        · have hjI : ¬ (j : Int) < (X.size : Int) := by omega
          have hje : j = X.size := by omega
          have HLA : Hid (∀ c ∈ X.data.toList, isLow c = true) := Lib.hid (by
            have := HL.out
            rw [hje, ← len_byte, List.take_length] at this
            exact this)
          clear hje
          by_cases hx0 : 0 < X.size
          · have hx1 := empty_no hx0
            by_cases hx20 : 20 < X.size
            · have hx2 : (20 : Int) < (X.size : Int) := by omega
              go_wp2_with (go_at_call 8; (with_reducible refine (awake_any _).mono ?_); rintro e w1 ⟨rfl, b1⟩; have B1 := Lib.hid b1; clear b1)
              go_ret
              exact ⟨rfl, below_up (below_up HB0.out HB.out) B1.out⟩
            · have hx2 : ¬ (20 : Int) < (X.size : Int) := by omega
              have HLW : Hid (LowW X.data.toList) := Lib.hid ⟨by rw [len_byte]; exact hx0, HLA.out⟩
              by_cases hkk : k < ks.length
              · have hkI2 : (k : Int) < (ks.length : Int) := by omega
                obtain ⟨q, hq⟩ : ∃ q, ks[k]? = some q := ⟨_, List.getElem?_eq_getElem hkk⟩
                obtain ⟨ai, rfl, hail, hqc⟩ := HI.out k q hq
                have hqc2 : wr.cell? (ai.add k) = some (.int .i64 q) := (HB.out.cell (Nat.lt_of_lt_of_le (by rw [add_block2]; exact hail) HB0.out.size)).trans ((HB0.out.cell (by rw [add_block2]; exact hail)).trans hqc)
                have HRD : Hid (∀ X : World, Calls Try.prog 15 #[.int .i64 q, .int .i64 6] X fun e w' => (∃ k : Nat, k < 6 ∧ e = .returned (.int .i64 (k : Int))) ∧ X = w') := Lib.hid (fun X => roundL_any q 6 (by omega) (by omega) X)
                have HKR : Hid (GapsAt kb wr) := Lib.hid (HK.out.next HB.out)
                clear hqc hq
                go_wp2_with (go_at_call 15; ((with_reducible refine (HRD.out _).mono ?_); rintro e w' ⟨⟨p, hp, rfl⟩, rfl⟩; obtain ⟨G, hG, hGm, hGs⟩ := HKR.out.get hp; have HGM := Lib.hid hGm; have hpI : (p : Int) < 6 := (by omega); clear hGm))
                go_roundw
                case rel => exact g1_on HR.out HX.out HGM.out HLW.out HSS.out hGs (by omega) hlt HB.out (by simp)
                case measure => simp [intOf]; omega
              · have hkI2 : ¬ (k : Int) < (ks.length : Int) := by omega
                go_wp2
                go_roundw
                case rel => exact g1_on (G := ⟨#[32]⟩) HR.out HX.out (by decide) HLW.out HSS.out (by decide) (by omega) hlt HB.out (by simp)
                case measure => simp [intOf]; omega
          · have hx1 := empty_yes (s := X) hx0
            go_wp2_with (go_at_call 8; (with_reducible refine (awake_any _).mono ?_); rintro e w1 ⟨rfl, b1⟩; have B1 := Lib.hid b1; clear b1)
            go_ret
            exact ⟨rfl, below_up (below_up HB0.out HB.out) B1.out⟩
    · have hkI : ¬ (k : Int) < (ws.length : Int) := by omega
      have hke : k = ws.length := by omega
      subst hke
      obtain ⟨T, hTl, hTg, hTd⟩ := HR.out.done
      obtain ⟨Z, hZ⟩ : ∃ Z : ByteArray, (⟨#[32, 47, 47, 32, 99, 32, 47, 42, 32, 100, 10]⟩ : ByteArray) = Z := ⟨_, rfl⟩
      have hZs : Z.size ≤ 11 := by rw [← hZ]; decide
      obtain ⟨nn, hl, hd⟩ := hTd Z (by rw [← hZ]; rfl)
      have HL := Lib.hid (fun X => one_lineN (X := X) (F := ⟨#[102]⟩) (by rw [ByteArray.size_append]; omega) (by decide) hl hd hTl)
      have HT := Lib.hid hTg
      have HTL := Lib.hid hTl
      clear hl hd hTg hTd hTl
      go_wp2_with (go_at_call 9; (with_reducible refine (HL.out _).mono ?_); rintro e w1 ⟨g, lc, da, dc, tg, tc, rfl, hc1, hc2, hg, hk0, hta, hb1⟩; have HTA := Lib.hid hta; have HB1 := Lib.hid hb1; clear hta hb1)
      clear hZ
      unfold maxLen at hc2
      have HBA : Hid (Below W.heap.size W w1) := Lib.hid (below_up (below_up HB0.out HB.out) HB1.out)
      go_loopw [12] (fun iv wx => ∃ j : Nat, iv = .int .i64 (j : Int) ∧ j ≤ ws.length ∧ Below w1.heap.size w1 wx) (fun iv _ => ws.length - (intOf iv).toNat)
      case atStart => exact ⟨0, rfl, Nat.zero_le _, Below.refl _ _⟩
      case round =>
        obtain ⟨j, rfl, hj, hbx⟩ := hrel
        have e0 := bcell hbx hk0 hg
        have HBX := Lib.hid hbx
        by_cases hjt : j < ws.length
        · have hjT : j < T.length := by rw [HTL.out]; exact hjt
          obtain ⟨t, ht⟩ : ∃ t, T[j]? = some t := ⟨_, List.getElem?_eq_getElem hjT⟩
          obtain ⟨hk1, hsp, hws⟩ := HT.out j t ht
          obtain ⟨ta, tcap, hv, d1, d2, h3⟩ := HTA.out
          simp only [Value.slice.injEq] at hv
          obtain ⟨rfl, -, rfl⟩ := hv
          obtain ⟨gt, rfl, hgt, hat⟩ := h3 j t ht
          unfold maxLen at d2
          rw [HTL.out] at d1
          obtain ⟨f0, f1, f2, f3, f4, f5, f6, f7⟩ := hat.next hbx hgt
          obtain ⟨X, hX⟩ : ∃ X : ByteArray, (⟨t.x.toArray⟩ : ByteArray) = X := ⟨_, rfl⟩
          obtain ⟨ad, rfl, hadl, hac⟩ := HS.out j t.x hws
          rw [hX] at f1 hac
          rw [hk1] at f0
          rw [hsp] at f2
          have hac2 : wr.cell? (ad.add j) = some (.string X) := (below_up HBA.out HBX.out).cell (by rw [add_block2]; exact hadl) |>.trans hac
          have hjI : (j : Int) < (ws.length : Int) := by omega
          clear hac hk1 hsp hX ht hat h3 hws hbx
          have hadr : (ad.add j).block < wr.heap.size := Nat.lt_of_lt_of_le (by rw [add_block2]; exact hadl) (below_up HBA.out HBX.out).size
          go_wp2
          obtain ⟨w3, hw3⟩ : ∃ w3, wr.alloc (.cells #[.int .i64 1, .string X, .bool true, .string ⟨#[102]⟩, .int .i64 (t.f : Int), .int .i64 (t.t : Int), .bool false, .slice none 0 0] 41) = w3 := ⟨_, rfl⟩
          have b3 : Below wr.heap.size wr w3 := by rw [← hw3]; exact (Below.refl _ _).alloc (Nat.le_refl _) _
          have y0 : w3.cell? ⟨wr.heap.size, 0, none⟩ = some (.int .i64 1) := by rw [← hw3]; exact bcell_new (Below.refl _ _) rfl
          have y1 : w3.cell? ⟨wr.heap.size, 1, none⟩ = some (.string X) := by rw [← hw3]; exact bcell_new (Below.refl _ _) rfl
          have y2 : w3.cell? ⟨wr.heap.size, 2, none⟩ = some (.bool true) := by rw [← hw3]; exact bcell_new (Below.refl _ _) rfl
          have hac3 : w3.cell? (ad.add j) = some (.string X) := (b3.cell hadr).trans hac2
          have HB3 : Hid (Below w1.heap.size w1 w3) := Lib.hid (below_up HBX.out b3)
          rw [hw3]
          clear hw3 b3 hac2 f0 f1 f2 f3 f4 f5 f6 f7 e0
          obtain ⟨bt, hbt⟩ : ∃ bt, wr.heap.size = bt := ⟨_, rfl⟩
          rw [hbt] at y0 y1 y2 hadr ⊢
          clear hbt
          go_quiet (fail)
          go_wp2
          go_roundw
          case rel => exact ⟨j + 1, by go_num, hjt, below_up HB3.out (Below.of_drews _ _)⟩
          case measure => simp [intOf]; omega
        · have hjI : ¬ (j : Int) < (ws.length : Int) := by omega
          clear hbx
          go_wp2_with (go_at_call 8; (with_reducible refine (awake_any _).mono ?_); rintro e w9 ⟨rfl, b9⟩; have B9 := Lib.hid b9; clear b9)
          go_ret
          exact ⟨rfl, below_up (below_up HBA.out HBX.out) B9.out⟩

theorem law_gaps {a b : Option Addr} {cap bcap : Nat} (ws : List (List UInt8)) (ks : List Int) (W : World) (hS : StrsAt a ws W) (hn : ws.length ≤ 9223372036854775807) (hz : ∀ y ∈ ws, y.length ≤ 9223372036854775807) (hI : IntsAt b ks W) (hm : ks.length ≤ 9223372036854775807) (_ : True) :
    Calls Try.prog 7 #[.slice a ws.length cap, .slice b ks.length bcap] W fun e W' => e = .returned (.bool true) ∧ Below W.heap.size W W' := by
  by_cases h1 : 12 < ws.length ∨ 20 < ks.length
  · exact gaps_void W h1 hn hm
  · exact gaps_main ws ks W hS hI hz (by omega) (by omega)

theorem lift_cellS : Try.prog.cellsOf 9 = 1 := by kernel_rfl

theorem read_strs {H : Type} {enc : TypeId × Value → H} {W : World} {base : Nat} {sp : Nat → Bool} {held : Bool} {fuel : Nat} {a : Option Addr} {len cap : Nat} {x : DataW H × List MemPlace}
    (h : DataW.trod enc Try.prog W base sp held fuel 50 (Value.cells (.slice a len cap)).toList = some x) :
    ∃ xs : List (List UInt8), xs.length = len ∧ StrsAt a xs W ∧ len ≤ 9223372036854775807 ∧ ∀ y ∈ xs, y.length ≤ 9223372036854775807 := by
  rcases open_strings Try.underlying50 Try.underlying9 lift_cellS h with ⟨hcs, -⟩ | ⟨a0, len', cap', ss, hcs, -, hl, hm, hz, -, hcell, hsz⟩
  · simp [Value.cells] at hcs
    obtain ⟨rfl, rfl, rfl⟩ := hcs
    exact ⟨[], rfl, fun i x hx => by simp at hx, by decide, fun y hy => by cases hy⟩
  · simp [Value.cells] at hcs
    obtain ⟨rfl, rfl, rfl⟩ := hcs
    have hlen : len ≤ ss.length := by
      rw [hz]
      split <;> omega
    unfold maxLen at hm hsz
    refine ⟨(ss.take len).map fun s => s.data.toList, by rw [List.length_map, List.length_take]; omega, ?_, by omega, ?_⟩
    · intro i x hx
      rw [List.getElem?_map] at hx
      obtain ⟨s, hs, rfl⟩ := Option.map_eq_some_iff.1 hx
      have hi : i < len := by
        rcases Nat.lt_or_ge i len with h | h
        · exact h
        · rw [List.getElem?_eq_none (by rw [List.length_take]; omega)] at hs; cases hs
      rw [List.getElem?_take_of_lt hi] at hs
      have hc := hcell i (by omega)
      rw [List.getD, hs] at hc
      have hlt := World.block_lt_of_cell? W _ hc
      rw [add_block3] at hlt
      refine ⟨_, rfl, hlt, ?_⟩
      rw [hc]
      simp
    · intro y hy
      obtain ⟨s, hs, rfl⟩ := List.mem_map.1 hy
      have := hsz s (List.mem_of_mem_take hs)
      simpa using this

end Go.Proofs.Ytpnboieppkjfnaa
