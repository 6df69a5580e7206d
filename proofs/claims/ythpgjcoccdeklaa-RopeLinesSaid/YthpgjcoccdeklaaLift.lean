/-
  From a law's walk to its statement: the arguments are no memory, what the call makes is new.
-/
import Derived.Test.YthpgjcoccdeklaaAwake
import Derived.ProofKit
import Derived.OpenShut
import Derived.ChangeMaps5
namespace Go.Proofs.Ythpgjcoccdeklaa
open Go.ChangeShapes Go.WideShapes Go.ChangeAt Go.RowKit

theorem start_inv (W : World) : Inv W.heap.size [] (fun _ => none) W :=
  ⟨Nat.le_refl _, fun _ _ h => (by cases h), fun _ _ h => (by cases h), fun _ _ h => (by cases h)⟩

theorem St.ended {B : Nat} {M' : Mp} {W W' : World} (s : St B (fun _ => none) W M' W') : Below W.heap.size W W' :=
  ⟨s.fr.os, s.fr.tape, s.fr.output, s.fr.size, fun k hk => s.fr.block k hk rfl⟩

theorem own : ownKnob Try.prog.godebug = none := by kernel_rfl

/-- The post of a law whose arguments lead to no memory, and that says nothing of reading again. -/
theorem post_new {H : Type} {enc : TypeId × Value → H} {P : Program} {f : Func} {s : ChangeSpec} {apart fresh handsOn : Bool} {W W' : World} {args : Array Value} {v : Value} {ds gs : List (DataW H)}
    (hW : DataW.Whole enc P f.params.toList s.vars apart W args.toList ds gs [])
    (hres : ∀ (b : Nat) (sp : Nat → Bool) (hd : Bool), DataW.TrodAll enc P W' b sp hd f.resultTypes.toList (v.resultList f.resultTypes.size) (s.fn H (ds ++ gs)).results [])
    (hargs : ∀ sp : Nat → Bool, DataW.TrodAll enc P W' 0 sp true f.params.toList args.toList (s.fn H (ds ++ gs)).args [])
    (hvars : ∀ sp : Nat → Bool, DataW.TrodVars enc P W' sp s.vars (s.fn H (ds ++ gs)).vars []) (hb : Below W.heap.size W W') :
    s.post enc P f apart fresh handsOn false W args v W' :=
  ⟨ds, gs, [], [], [], [], hW, hres _ _ _, hargs _, hvars _, hb.frame _, fun h => by cases h⟩

end Go.Proofs.Ythpgjcoccdeklaa
