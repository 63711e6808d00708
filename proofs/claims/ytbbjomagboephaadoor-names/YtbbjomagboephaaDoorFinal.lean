/-
  predictlaw.Names: the tied card, out of the row's proof and the given tie.
-/
import Derived.Test.YtbbjomagboephaaDoorProofs
import Derived.Test.YtbbjomagboephaaDoorTie
import Derived.Test.YtbbjomagboephaaDoorCards
import Derived.SevenTiedAt
namespace Go.Proofs.YtbbjomagboephaaDoor
open Go

theorem names_holds : Rows.NamesCardSaid :=
  Claim7.holds_tied_plain_at .later [] [.sentinel, .sentinel, .sentinel, .sentinel, .sentinel, .sentinel] true (true, "40fdb11b8a2da168761f7d0d6cfe93c62c82cd8c0fbf9a4de03e482e2308db3c") true
    names_row_holds (fun _ h => by cases h) (by kernel_rfl) (fun _ h => by cases h) names_row_tie rfl ⟨rfl, rfl⟩ (by kernel_rfl) rfl
    (fun f fn hf hfn => by
      obtain rfl : f = 3 := Option.some.inj ((show Tryd.prog.funcNamed "predict/predictlaw.Names" = some 3 by kernel_rfl).symm.trans hf) |>.symm
      obtain rfl : fn = Tryd.f3 := (Option.some.inj (Tryd.func3.symm.trans hfn)).symm
      exact ⟨by kernel_rfl, fun j t ht => by
        rw [Tryd.params3] at ht
        simp at ht⟩)
    (by kernel_rfl)
#print axioms names_holds
end Go.Proofs.YtbbjomagboephaaDoor
