/-
  The promoted method Span of a leaf, called through the interface.
-/
import Derived.Test.YtbbjomagboephaaDoorParts
namespace Go.Proofs.YtbbjomagboephaaDoor
open Go.RowKit
theorem spanRow : (Tryd.prog.info? 35).map (fun i => (i.methods.find? (·.name == "Span")).map (fun m => (m.path, m.func))) = some (some (#[⟨39, 0, true⟩], some (25, false))) := by kernel_rfl
theorem spanAt (n b : Nat) (w : World) : (Go.method (n + 1) 35 (.pointer (some ⟨b, 0, none⟩)) "Span").run Tryd.prog w = ((loadVar 37 ⟨b, 0, none⟩).run Tryd.prog w).andThen fun v w' => .ok (25, v) w' := by
  obtain ⟨i, hi, hm⟩ := Option.map_eq_some_iff.1 spanRow
  obtain ⟨m, hm1, hm2⟩ := Option.map_eq_some_iff.1 hm
  simp only [Prod.mk.injEq] at hm2
  obtain ⟨e1, e3⟩ := hm2
  simp only [Go.method]
  simp [typeInfo, hi, hm1, e1, e3, follow, run_underlying Tryd.underlying39, run_underlying Tryd.underlying37, Place.get, asAddr, fieldPlace, receiverAt, go_sem]
theorem spanOf (b : Nat) (w : World) : (Go.method 196 35 (.pointer (some ⟨b, 0, none⟩)) "Span").run Tryd.prog w = ((loadVar 37 ⟨b, 0, none⟩).run Tryd.prog w).andThen fun v w' => .ok (25, v) w' := spanAt 195 b w
end Go.Proofs.YtbbjomagboephaaDoor
