/-
  DERIVED. GIVEN WITH THE SEED: THE PROGRAM's TIES (one call each: nine closed facts by the kernel) AND EACH ROW's TIE, after the 31st guide's Derived/Test/Toyas{Tie, Card}.lean. No idea stands in it: it is a product of the set-up. Laid BY PROGRAM, IN A SANDBOX (cutbox-door.mjs). By AI agents, Wed Nov 11 2026. No macro, syntax, notation, axiom, sorry.
-/
import Derived.Test.YtbbjomagboephaaDoorRows
import Derived.LaidByTextLater
import Derived.SevenTiedAt
import Derived.LaidSub
import Derived.LaidOnce
namespace Go.Proofs.YtbbjomagboephaaDoor
open Go
set_option maxRecDepth 100000
theorem seatTie1 : Tryd.prog.laidByTextLater [("predict/api.ErrLong", Rows.laid_predict_api_ErrLong), ("predict/api.ErrEmpty", Rows.laid_predict_api_ErrEmpty), ("predict/api.ErrMany", Rows.laid_predict_api_ErrMany), ("predict/api.ErrRule", Rows.laid_predict_api_ErrRule), ("predict/api.ErrEnd", Rows.laid_predict_api_ErrEnd), ("predict/api.ErrUnknown", Rows.laid_predict_api_ErrUnknown)] [.sentinel, .sentinel, .sentinel, .sentinel, .sentinel, .sentinel] true :=
  Program.laidByTextLater_by_one 123 8 2 (by kernel_rfl) (by kernel_rfl) (by kernel_rfl) (by kernel_rfl) (by kernel_rfl) (by kernel_rfl) (fun _ _ => by kernel_rfl)
theorem noOwnUnsafe : Tryd.pinned.checked.prog.headLifts.contains "ownunsafe" = false := by kernel_rfl
theorem tie : Tryd.prog.laidByTextLater [("predict/api.ErrLong", Rows.laid_predict_api_ErrLong), ("predict/api.ErrEmpty", Rows.laid_predict_api_ErrEmpty), ("predict/api.ErrMany", Rows.laid_predict_api_ErrMany), ("predict/api.ErrRule", Rows.laid_predict_api_ErrRule), ("predict/api.ErrEnd", Rows.laid_predict_api_ErrEnd), ("predict/api.ErrUnknown", Rows.laid_predict_api_ErrUnknown)] [.sentinel, .sentinel, .sentinel, .sentinel, .sentinel, .sentinel] true :=
  Program.laidByTextLater.sub seatTie1 ["predict/api.ErrLong", "predict/api.ErrEmpty", "predict/api.ErrMany", "predict/api.ErrRule", "predict/api.ErrEnd", "predict/api.ErrUnknown"] (by kernel_rfl) (by kernel_rfl)
theorem names_row_tie : Rows.namesRow.laidByTextAt .later Tryd.pinned [.sentinel, .sentinel, .sentinel, .sentinel, .sentinel, .sentinel] true :=
  OpenClaim.laidByTextAt_later rfl rfl tie noOwnUnsafe
theorem namesUpto_row_tie : Rows.namesUptoRow.laidByTextAt .later Tryd.pinned [.sentinel, .sentinel, .sentinel, .sentinel, .sentinel, .sentinel] true :=
  OpenClaim.laidByTextAt_later rfl rfl tie noOwnUnsafe
end Go.Proofs.YtbbjomagboephaaDoor
