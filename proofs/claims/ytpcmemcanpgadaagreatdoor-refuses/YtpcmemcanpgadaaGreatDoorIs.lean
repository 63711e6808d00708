/-
  errors.Is of a sentinel of errors.New against a sentinel, by its contracts.
-/
import Derived.Test.YtpcmemcanpgadaaGreatDoorAsF
namespace Go.Proofs.YtpcmemcanpgadaaGreatDoor
open Go.RowKit Go.Extern.Stop Go.Stop Go.Extern

theorem isComparable (w : World) : (callFunc 192 #[.agg #[.pointer (some ⟨10, 290, none⟩)]]).run Tryz.prog w = .ok (.value (.bool true)) w := by
  have h := @run_callFunc_extern Tryz.prog 192 _ (Extern.ReflectliteType.method fun t => do Rtype.noPackHeld "Comparable" t; pure (.bool (← typeInfo t).comparable)) Tryz.func192 (by kernel_rfl) (by kernel_rfl) (by kernel_rfl) (by kernel_rfl)
  have c : ((Extern.ReflectliteType.method fun t => do Rtype.noPackHeld "Comparable" t; pure (.bool (← typeInfo t).comparable)) #[.agg #[.pointer (some ⟨10, 290, none⟩)]]).run Tryz.prog w = .ok (.bool true) w := by kernel_rfl
  rw [h, c]
  rfl
theorem isMethodComparable (v : Value) (w : World) : (Go.method 434 189 v "Comparable").run Tryz.prog w = .ok (192, v) w := by kernel_rfl
theorem isComp : (Tryz.prog.info? 290).map (·.comparable) = some true := by kernel_rfl
theorem isSize : (Tryz.prog.info? 310).map (·.size) = some 1 := by kernel_rfl
theorem noIsE (v : Value) (xT : TypeId) (w : World) : (Instr.typeAssert (.iface 290 v) xT 200 true).run Tryz.prog w = .ok (.tuple #[.nilIface, .bool false]) w := run_typeAssert_lacksB Tryz.underlying200 (by kernel_rfl) (by kernel_rfl) v xT w

set_option maxHeartbeats 2000000 in
/-- The sentinel itself. -/
theorem is_same (a : Addr) (w : World) :
    Calls Tryz.prog 45 #[.iface 290 (.pointer (some a)), .iface 290 (.pointer (some a))] w fun e w' => e = .returned (.bool true) ∧ w' = w := by
  obtain ⟨i, hi, hcmp⟩ := Option.map_eq_some_iff.1 isComp
  obtain ⟨j, hj, hjs⟩ := Option.map_eq_some_iff.1 isSize
  have h8 := as_h10
  have tT := as_typeOf_e
  have cT := isComparable
  have mR := isMethodComparable
  have heq := run_eql_iface_ptr_same (P := Tryz.prog) w a Tryz.underlying67 Tryz.underlying290 hi hcmp hj
  go_enter Tryz.func45, Tryz.ntmps45
  go_wp2
  refine wp_loop_rounds 1 ?_
  rw [rounds_succ]
  go_wp2
  go_ret
  exact ⟨rfl, rfl⟩

set_option maxHeartbeats 2000000 in
/-- Another sentinel. -/
theorem is_other (a b : Addr) (ca cb : Array Value) (ta tb : TypeId) (w : World) (hne : a ≠ b) (ha : w.heap[a.block]? = some (.cells ca ta (0, 0))) (hb : w.heap[b.block]? = some (.cells cb tb (0, 0))) :
    Calls Tryz.prog 45 #[.iface 290 (.pointer (some a)), .iface 290 (.pointer (some b))] w fun e w' => e = .returned (.bool false) ∧ w' = w := by
  obtain ⟨i, hi, hcmp⟩ := Option.map_eq_some_iff.1 isComp
  obtain ⟨j, hj, hjs⟩ := Option.map_eq_some_iff.1 isSize
  have h8 := as_h10
  have tT := as_typeOf_e
  have cT := isComparable
  have mR := isMethodComparable
  have nE := noIsE
  have uE := as_noUn_e
  have vE := as_noUns_e
  have heq := run_eql_iface_ptr_other (P := Tryz.prog) w Tryz.underlying67 Tryz.underlying290 hi hcmp hj (by rw [hjs]; decide) hne ha hb
  go_enter Tryz.func45, Tryz.ntmps45
  go_wp2
  refine wp_loop_rounds 1 ?_
  rw [rounds_succ]
  go_wp2
  go_ret
  exact ⟨rfl, rfl⟩

end Go.Proofs.YtpcmemcanpgadaaGreatDoor
