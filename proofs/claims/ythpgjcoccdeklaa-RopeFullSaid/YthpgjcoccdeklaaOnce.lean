/-
  sync.Once.Do in one goroutine, for a closure of which a contract is handed in.
-/
import Derived.Test.YthpgjcoccdeklaaSmall
import Derived.Tactics
import Derived.Tactics2
import Derived.Defers
import Derived.Laws.Pointers
import Derived.Laws.LoneSync
import Derived.RegionTactic
import Derived.RegionCalls
import Derived.ChangeAlike
namespace Go.Proofs.Ythpgjcoccdeklaa
open Go.RowKit

theorem disable (w : World) : (callFunc 72 #[]).run Try.prog w = .ok (.value (.tuple #[])) w := run_call_mark0 Try.func72 (by kernel_rfl) (by kernel_rfl) (by kernel_rfl) .disable (by kernel_rfl) w
theorem enable (w : World) : (callFunc 74 #[]).run Try.prog w = .ok (.value (.tuple #[])) w := run_call_mark0 Try.func74 (by kernel_rfl) (by kernel_rfl) (by kernel_rfl) .enable (by kernel_rfl) w
theorem acquire (a : Addr) (w : World) : (callFunc 75 #[.pointer (some a)]).run Try.prog w = .ok (.value (.tuple #[])) w := run_call_marked Try.func75 (by kernel_rfl) (by kernel_rfl) (by kernel_rfl) .acquire (by kernel_rfl) a w
theorem releaseMerge (a : Addr) (w : World) : (callFunc 77 #[.pointer (some a)]).run Try.prog w = .ok (.value (.tuple #[])) w := run_call_marked Try.func77 (by kernel_rfl) (by kernel_rfl) (by kernel_rfl) .releaseMerge (by kernel_rfl) a w

theorem store_deferred (a : Addr) (x : Value) (u : FrameMode) (w : World) (hc : w.cell? a = some x) (hz : w.frozen? a = false) :
    CallsD Try.prog 61 #[.pointer (some a), .bool true] u w fun e u' w' => u' = u ∧ (e = .returned (.tuple #[]) ∧ w' = w.drew.setCell a (.int .u32 1)) := by
  have hc' : w.drew.cell? a = some x := by go_simp
  have hz' : w.drew.frozen? a = false := by go_simp
  have hst := run_call_store (P := Try.prog) Try.func69 (by kernel_rfl) (by kernel_rfl) (by kernel_rfl) (by kernel_rfl) (k := .u32) (y := 1) hc' hz'
  go_enter_d Try.func61, Try.ntmps61
  go_wp2
  go_region_calls
  all_goals (go_end0; exact ⟨rfl, rfl⟩)

set_option maxRecDepth 100000 in
theorem unlock_deferred (a : Addr) (u : FrameMode) (w : World) (hc : w.cell? a = some (.int .i32 1)) (hz : w.frozen? a = false) :
    CallsD Try.prog 60 #[.pointer (some a)] u w fun e u' w' => u' = u ∧ (e = .returned (.tuple #[]) ∧ w' = w.setCell a (.int .i32 0)) := by
  have hd := disable
  have he := enable
  have hr := releaseMerge
  have hadd := run_call_add (P := Try.prog) Try.func78 (by kernel_rfl) (by kernel_rfl) (by kernel_rfl) .i32 (by kernel_rfl) (y := -1) (s := 0) hc hz (by simp [go_sem]; rfl)
  have hcv := run_convert_to_unsafe (P := Try.prog) (src := 99) (dst := 86) Try.underlying99 Try.underlying86 (by kernel_rfl) hc
  go_enter_d Try.func60, Try.ntmps60
  go_wp2
  go_end0
  go_wp2
  go_end0
  exact ⟨rfl, rfl⟩

set_option maxRecDepth 100000 in
theorem lock_free (a : Addr) (w : World) (hc : w.cell? a = some (.int .i32 0)) (hz : w.frozen? a = false) :
    Calls Try.prog 59 #[.pointer (some a)] w fun e w' => e = .returned (.tuple #[]) ∧ w' = w.setCell a (.int .i32 1) := by
  have hd := disable
  have he := enable
  have ha := acquire
  have hcas := run_call_cas_hit (P := Try.prog) Try.func73 (by kernel_rfl) (by kernel_rfl) (by kernel_rfl) .i32 (by kernel_rfl) (y := 1) hc hz
  have hc' : (w.setCell a (.int .i32 1)).cell? a = some (.int .i32 1) := World.cell?_setCell_same w a _ hc
  have hcv := run_convert_to_unsafe (P := Try.prog) (src := 99) (dst := 86) Try.underlying99 Try.underlying86 (by kernel_rfl) hc'
  go_enter Try.func59, Try.ntmps59
  go_wp2
  first | go_end0 | (simp only [Exit.inBlock, Exit.then]; refine bodyPost_ret (results_none rfl _ _ _) rfl ?_) | refine bodyPost_ret (results_none rfl _ _ _) rfl ?_
  go_wp2
  go_end0
  exact ⟨rfl, rfl⟩

theorem loaded (a : Addr) (d : Int) (w : World) (h0 : w.cell? a = some (.int .u32 d)) (x : Bool) (hx : (d != 0) = x) :
    Calls Try.prog 50 #[.pointer (some a)] w fun e w' => e = .returned (.bool x) ∧ w = w' := by
  have hl := run_call_load (P := Try.prog) Try.func58 (by kernel_rfl) (by kernel_rfl) (by kernel_rfl) .u32 (by kernel_rfl) h0
  subst hx
  go_enter Try.func50, Try.ntmps50
  go_wp2
  go_ret
  exact ⟨rfl, rfl⟩

/-- What is asked of the closure: it leaves the lock and the mark alone. -/
def ClosurePost (b : Nat) (Q : World → Prop) (e : Ending) (w : World) : Prop :=
  e = .returned (.tuple #[]) ∧ w.cell? ⟨b, 5, none⟩ = some (.int .u32 0) ∧ w.cell? ⟨b, 6, none⟩ = some (.int .i32 1) ∧ w.frozen? ⟨b, 5, none⟩ = false ∧ w.frozen? ⟨b, 6, none⟩ = false ∧ Q w

/-- What comes of it. -/
def OncePost (b : Nat) (Q : World → Prop) (e : Ending) (w' : World) : Prop :=
  e = .returned (.tuple #[]) ∧ ∃ w2, Q w2 ∧ w' = (w2.drew.setCell ⟨b, 5, none⟩ (.int .u32 1)).setCell ⟨b, 6, none⟩ (.int .i32 0)

set_option maxRecDepth 100000 in
set_option maxHeartbeats 1600000 in
theorem slow_any (b : Nat) (pl : Addr) (w : World) (Q : World → Prop)
    (h0 : w.cell? ⟨b, 5, none⟩ = some (.int .u32 0)) (h1 : w.cell? ⟨b, 6, none⟩ = some (.int .i32 0)) (f1 : w.frozen? ⟨b, 6, none⟩ = false)
    (hcl : Calls Try.prog 40 #[.pointer (some pl)] (w.setCell ⟨b, 6, none⟩ (.int .i32 1)) (ClosurePost b Q)) :
    Calls Try.prog 51 #[.pointer (some ⟨b, 5, none⟩), .func (.func 40) #[] #[.pointer (some pl)]] w (OncePost b Q) := by
  have hnot : ∀ (x : Bool) (w : World), (Op.unary .not (.bool x)).run Try.prog w = .ok (.bool (!x)) w := fun _ _ => rfl
  have HC := Lib.hid hcl
  clear hcl
  go_enter_defers Try.func51, Try.ntmps51
  go_wp2_with (first
    | (go_at_call 59; refine (lock_free ⟨b, 6, none⟩ _ (by go_simp) (by go_simp)).mono ?_; rintro e w' ⟨rfl, rfl⟩)
    | (go_at_call 50; refine (loaded ⟨b, 5, none⟩ 0 _ ((World.cell?_setCell_other _ ⟨b, 6, none⟩ ⟨b, 5, none⟩ _ (by simp)).trans h0) false (by decide)).mono ?_; rintro e w' ⟨rfl, rfl⟩)
    | (go_at_call 40; refine HC.out.mono ?_; rintro e w2 ⟨rfl, c5, c6, z5, z6, hq⟩))
  have HQ := Lib.hid hq
  clear hq
  go_wp2
  refine leaves_cons (f := 61) (args := #[.pointer (some ⟨b, 5, none⟩), .bool true]) (by simp) (by simp [go_sem]) ?_
  refine (store_deferred ⟨b, 5, none⟩ (.int .u32 0) .returning _ c5 z5).mono ?_
  rintro e u' w'' ⟨rfl, rfl, rfl⟩
  refine leaves_cons (f := 60) (args := #[.pointer (some ⟨b, 6, none⟩)]) (by simp [settle]) (by simp [go_sem]) ?_
  refine (unlock_deferred ⟨b, 6, none⟩ _ _ ?_ (by simp [z6])).mono ?_
  · refine (World.cell?_setCell_other _ ⟨b, 5, none⟩ ⟨b, 6, none⟩ _ (by simp)).trans ?_
    rw [World.cell?_drew]
    exact c6
  rintro e u' w'' ⟨rfl, rfl, rfl⟩
  have hfin : OncePost b Q (.returned (.tuple #[])) ((w2.drew.setCell ⟨b, 5, none⟩ (.int .u32 1)).setCell ⟨b, 6, none⟩ (.int .i32 0)) := ⟨rfl, w2, HQ.out, rfl⟩
  have HF := Lib.hid hfin
  clear hfin
  simp [Leaves, settle, results, Try.results51]
  exact HF.out

theorem do_first (b : Nat) (pl : Addr) (w : World) (Q : World → Prop)
    (h0 : w.cell? ⟨b, 5, none⟩ = some (.int .u32 0)) (h1 : w.cell? ⟨b, 6, none⟩ = some (.int .i32 0)) (f1 : w.frozen? ⟨b, 6, none⟩ = false)
    (hcl : Calls Try.prog 40 #[.pointer (some pl)] (w.setCell ⟨b, 6, none⟩ (.int .i32 1)) (ClosurePost b Q)) :
    Calls Try.prog 39 #[.pointer (some ⟨b, 5, none⟩), .func (.func 40) #[] #[.pointer (some pl)]] w (OncePost b Q) := by
  have hnot : ∀ (x : Bool) (w : World), (Op.unary .not (.bool x)).run Try.prog w = .ok (.bool (!x)) w := fun _ _ => rfl
  have HC := Lib.hid hcl
  clear hcl
  go_enter Try.func39, Try.ntmps39
  go_wp2_with (first
    | (go_at_call 51; refine (slow_any b pl _ Q h0 h1 f1 HC.out).mono ?_; rintro e w' ⟨rfl, hq⟩)
    | (go_at_call 50; refine (loaded ⟨b, 5, none⟩ 0 _ h0 false (by decide)).mono ?_; rintro e w' ⟨rfl, rfl⟩))
  go_end0
  exact ⟨rfl, hq⟩

theorem do_done (a : Addr) (fv : Value) (w : World) (h0 : w.cell? a = some (.int .u32 1)) :
    Calls Try.prog 39 #[.pointer (some a), fv] w fun e w' => e = .returned (.tuple #[]) ∧ w = w' := by
  have hnot : ∀ (x : Bool) (w : World), (Op.unary .not (.bool x)).run Try.prog w = .ok (.bool (!x)) w := fun _ _ => rfl
  go_enter Try.func39, Try.ntmps39
  go_wp2_with (go_at_call 50; refine (loaded a 1 _ h0 true (by decide)).mono ?_; rintro e w' ⟨rfl, rfl⟩)
  go_end0
  exact ⟨rfl, rfl⟩

end Go.Proofs.Ythpgjcoccdeklaa
