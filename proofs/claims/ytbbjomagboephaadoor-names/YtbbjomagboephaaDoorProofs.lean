/-
  predictlaw.Names: the row proved: what the six listed sentinels give the walk, the witness out of the door's own heap, the frame; then the tied card.
-/
import Derived.Test.YtbbjomagboephaaDoorRows
import Derived.Test.YtbbjomagboephaaDoorWalks
import Derived.ProofKit
import Derived.LaidMore
import Derived.OpenShut
import Derived.Stop.Joined
import Derived.Stop.LaidErr
namespace Go.Proofs.YtbbjomagboephaaDoor
open Go.ChangeShapes Go.WideShapes Go.ChangeAt Go.WideMaps Go.WideElems Go.RowKit

theorem own : ownKnob Tryd.prog.godebug = none := by kernel_rfl
theorem gLong : Tryd.prog.globalNamed "predict/api.ErrLong" = some 0 := by kernel_rfl
theorem tLong : (Tryd.prog.globals[0]?).map (·.type) = some 28 := by kernel_rfl
theorem gEmpty : Tryd.prog.globalNamed "predict/api.ErrEmpty" = some 1 := by kernel_rfl
theorem tEmpty : (Tryd.prog.globals[1]?).map (·.type) = some 28 := by kernel_rfl
theorem gMany : Tryd.prog.globalNamed "predict/api.ErrMany" = some 2 := by kernel_rfl
theorem tMany : (Tryd.prog.globals[2]?).map (·.type) = some 28 := by kernel_rfl
theorem gRule : Tryd.prog.globalNamed "predict/api.ErrRule" = some 3 := by kernel_rfl
theorem tRule : (Tryd.prog.globals[3]?).map (·.type) = some 28 := by kernel_rfl
theorem gEnd : Tryd.prog.globalNamed "predict/api.ErrEnd" = some 4 := by kernel_rfl
theorem tEnd : (Tryd.prog.globals[4]?).map (·.type) = some 28 := by kernel_rfl
theorem gUnknown : Tryd.prog.globalNamed "predict/api.ErrUnknown" = some 5 := by kernel_rfl
theorem tUnknown : (Tryd.prog.globals[5]?).map (·.type) = some 28 := by kernel_rfl
theorem cells84 : Tryd.prog.cellsOf 84 = 1 := by kernel_rfl
theorem cells9 : Tryd.prog.cellsOf 9 = 1 := by kernel_rfl
theorem star : "*" ++ "errors.errorString" = "*errors.errorString" := by decide
theorem row58 (u : TypeId) (h : Tryd.prog.typeName? 3 u = some "*errors.errorString") : u = 58 :=
  typeName_ptr_named (nm := "errors.errorString") (by rw [star]; kernel_rfl) (by kernel_rfl) (by decide) u (by rw [star]; exact h)
/-- What the row lists. -/
def laid6 : List (String × DataW Unit) := [("predict/api.ErrLong", Rows.laid_predict_api_ErrLong), ("predict/api.ErrEmpty", Rows.laid_predict_api_ErrEmpty), ("predict/api.ErrMany", Rows.laid_predict_api_ErrMany), ("predict/api.ErrRule", Rows.laid_predict_api_ErrRule), ("predict/api.ErrEnd", Rows.laid_predict_api_ErrEnd), ("predict/api.ErrUnknown", Rows.laid_predict_api_ErrUnknown)]

/-- The door's own heap meets the condition. -/
theorem door_met (os : Os) (args : Array Value) : laidMetH Tryd.prog laid6 ((World.doorLaid Tryd.prog 400 os).forCall (fun _ _ => 0) ⟨#[], args, []⟩).memory :=
  laidMetH_of_parts3 (fuel := 8) (laidMet_of_run' 8 (by kernel_rfl) (by kernel_rfl)) (by kernel_rfl) (by kernel_rfl)

/-- Six addresses by number. -/
def pick6 (a0 a1 a2 a3 a4 a5 : Addr) (j : Nat) : Addr := if j = 0 then a0 else if j = 1 then a1 else if j = 2 then a2 else if j = 3 then a3 else if j = 4 then a4 else a5
theorem six_of (j : Nat) (h : j < 6) : j = 0 ∨ j = 1 ∨ j = 2 ∨ j = 3 ∨ j = 4 ∨ j = 5 := by omega
theorem block_lt {w : World} {b : Nat} {o : Obj} (h : w.heap[b]? = some o) : b < w.heap.size := by
  rcases Nat.lt_or_ge b w.heap.size with h' | h'
  · exact h'
  · simp [Array.getElem?_eq_none h'] at h

set_option maxHeartbeats 1000000 in
/-- What the list gives the walks: six different pointers, each in its variable's cell, none of their rows frozen. -/
theorem of_laid {W : World} (h : laidMetH Tryd.prog laid6 W) : ∃ s : Nat → Addr, 6 ≤ W.heap.size ∧ Sents s W.heap.size W ∧ ∀ j, j < 6 → W.cell? ⟨j, 0, none⟩ = some (.iface 58 (.pointer (some (s j)))) := by
  rw [MakeChecks.laidMetH_plain _ _ _ (by kernel_rfl)] at h
  obtain ⟨ps, ⟨g0, t0, cs0, f0, p0, q0, hg0, ht0, hv0, hd0, ⟨g1, t1, cs1, f1, p1, q1, hg1, ht1, hv1, hd1, ⟨g2, t2, cs2, f2, p2, q2, hg2, ht2, hv2, hd2, ⟨g3, t3, cs3, f3, p3, q3, hg3, ht3, hv3, hd3, ⟨g4, t4, cs4, f4, p4, q4, hg4, ht4, hv4, hd4, ⟨g5, t5, cs5, f5, p5, q5, hg5, ht5, hv5, hd5, _, e5⟩, e4⟩, e3⟩, e2⟩, e1⟩, e0⟩, hnd, hrows⟩ := h
  obtain rfl := Option.some.inj (gLong.symm.trans hg0)
  obtain rfl := Option.some.inj (tLong.symm.trans ht0)
  obtain rfl := Option.some.inj (gEmpty.symm.trans hg1)
  obtain rfl := Option.some.inj (tEmpty.symm.trans ht1)
  obtain rfl := Option.some.inj (gMany.symm.trans hg2)
  obtain rfl := Option.some.inj (tMany.symm.trans ht2)
  obtain rfl := Option.some.inj (gRule.symm.trans hg3)
  obtain rfl := Option.some.inj (tRule.symm.trans ht3)
  obtain rfl := Option.some.inj (gEnd.symm.trans hg4)
  obtain rfl := Option.some.inj (tEnd.symm.trans ht4)
  obtain rfl := Option.some.inj (gUnknown.symm.trans hg5)
  obtain rfl := Option.some.inj (tUnknown.symm.trans ht5)
  subst e5
  subst e4
  subst e3
  subst e2
  subst e1
  subst e0
  obtain ⟨l0⟩ := cs0
  obtain ⟨l1⟩ := cs1
  obtain ⟨l2⟩ := cs2
  obtain ⟨l3⟩ := cs3
  obtain ⟨l4⟩ := cs4
  obtain ⟨l5⟩ := cs5
  have ok0 : ∀ u v, l0 = [.iface u v] → Value.okWide Tryd.prog W .any 0 u v := fun u v e => by
    subst e
    exact (hrows 0 0 (by simp [MemPlace.row])).2 u v (by simpa using World.var?_cell hg0 hv0 0)
  have ok1 : ∀ u v, l1 = [.iface u v] → Value.okWide Tryd.prog W .any 0 u v := fun u v e => by
    subst e
    exact (hrows 1 0 (by simp [MemPlace.row])).2 u v (by simpa using World.var?_cell hg1 hv1 0)
  have ok2 : ∀ u v, l2 = [.iface u v] → Value.okWide Tryd.prog W .any 0 u v := fun u v e => by
    subst e
    exact (hrows 2 0 (by simp [MemPlace.row])).2 u v (by simpa using World.var?_cell hg2 hv2 0)
  have ok3 : ∀ u v, l3 = [.iface u v] → Value.okWide Tryd.prog W .any 0 u v := fun u v e => by
    subst e
    exact (hrows 3 0 (by simp [MemPlace.row])).2 u v (by simpa using World.var?_cell hg3 hv3 0)
  have ok4 : ∀ u v, l4 = [.iface u v] → Value.okWide Tryd.prog W .any 0 u v := fun u v e => by
    subst e
    exact (hrows 4 0 (by simp [MemPlace.row])).2 u v (by simpa using World.var?_cell hg4 hv4 0)
  have ok5 : ∀ u v, l5 = [.iface u v] → Value.okWide Tryd.prog W .any 0 u v := fun u v e => by
    subst e
    exact (hrows 5 0 (by simp [MemPlace.row])).2 u v (by simpa using World.var?_cell hg5 hv5 0)
  obtain ⟨a0, s0, rfl, _, _, _, rfl⟩ := errorString_of_trod Tryd.underlying28 row58 Tryd.underlying58 Tryd.underlying84 rfl rfl Tryd.underlying9 cells84 cells9 hd0 ok0
  obtain ⟨a1, s1, rfl, _, _, _, rfl⟩ := errorString_of_trod Tryd.underlying28 row58 Tryd.underlying58 Tryd.underlying84 rfl rfl Tryd.underlying9 cells84 cells9 hd1 ok1
  obtain ⟨a2, s2, rfl, _, _, _, rfl⟩ := errorString_of_trod Tryd.underlying28 row58 Tryd.underlying58 Tryd.underlying84 rfl rfl Tryd.underlying9 cells84 cells9 hd2 ok2
  obtain ⟨a3, s3, rfl, _, _, _, rfl⟩ := errorString_of_trod Tryd.underlying28 row58 Tryd.underlying58 Tryd.underlying84 rfl rfl Tryd.underlying9 cells84 cells9 hd3 ok3
  obtain ⟨a4, s4, rfl, _, _, _, rfl⟩ := errorString_of_trod Tryd.underlying28 row58 Tryd.underlying58 Tryd.underlying84 rfl rfl Tryd.underlying9 cells84 cells9 hd4 ok4
  obtain ⟨a5, s5, rfl, _, _, _, rfl⟩ := errorString_of_trod Tryd.underlying28 row58 Tryd.underlying58 Tryd.underlying84 rfl rfl Tryd.underlying9 cells84 cells9 hd5 ok5
  obtain ⟨c0, y0, hb0⟩ := (hrows a0.block a0.off (by simp [MemPlace.row])).1
  obtain ⟨c1, y1, hb1⟩ := (hrows a1.block a1.off (by simp [MemPlace.row])).1
  obtain ⟨c2, y2, hb2⟩ := (hrows a2.block a2.off (by simp [MemPlace.row])).1
  obtain ⟨c3, y3, hb3⟩ := (hrows a3.block a3.off (by simp [MemPlace.row])).1
  obtain ⟨c4, y4, hb4⟩ := (hrows a4.block a4.off (by simp [MemPlace.row])).1
  obtain ⟨c5, y5, hb5⟩ := (hrows a5.block a5.off (by simp [MemPlace.row])).1
  have k0 : W.cell? ⟨0, 0, none⟩ = some (.iface 58 (.pointer (some a0))) := by simpa using World.var?_cell hg0 hv0 0
  have k1 : W.cell? ⟨1, 0, none⟩ = some (.iface 58 (.pointer (some a1))) := by simpa using World.var?_cell hg1 hv1 0
  have k2 : W.cell? ⟨2, 0, none⟩ = some (.iface 58 (.pointer (some a2))) := by simpa using World.var?_cell hg2 hv2 0
  have k3 : W.cell? ⟨3, 0, none⟩ = some (.iface 58 (.pointer (some a3))) := by simpa using World.var?_cell hg3 hv3 0
  have k4 : W.cell? ⟨4, 0, none⟩ = some (.iface 58 (.pointer (some a4))) := by simpa using World.var?_cell hg4 hv4 0
  have k5 : W.cell? ⟨5, 0, none⟩ = some (.iface 58 (.pointer (some a5))) := by simpa using World.var?_cell hg5 hv5 0
  have n01 : a0 ≠ a1 := by rintro rfl; simp [MemPlace.row] at hnd
  have n02 : a0 ≠ a2 := by rintro rfl; simp [MemPlace.row] at hnd
  have n03 : a0 ≠ a3 := by rintro rfl; simp [MemPlace.row] at hnd
  have n04 : a0 ≠ a4 := by rintro rfl; simp [MemPlace.row] at hnd
  have n05 : a0 ≠ a5 := by rintro rfl; simp [MemPlace.row] at hnd
  have n12 : a1 ≠ a2 := by rintro rfl; simp [MemPlace.row] at hnd
  have n13 : a1 ≠ a3 := by rintro rfl; simp [MemPlace.row] at hnd
  have n14 : a1 ≠ a4 := by rintro rfl; simp [MemPlace.row] at hnd
  have n15 : a1 ≠ a5 := by rintro rfl; simp [MemPlace.row] at hnd
  have n23 : a2 ≠ a3 := by rintro rfl; simp [MemPlace.row] at hnd
  have n24 : a2 ≠ a4 := by rintro rfl; simp [MemPlace.row] at hnd
  have n25 : a2 ≠ a5 := by rintro rfl; simp [MemPlace.row] at hnd
  have n34 : a3 ≠ a4 := by rintro rfl; simp [MemPlace.row] at hnd
  have n35 : a3 ≠ a5 := by rintro rfl; simp [MemPlace.row] at hnd
  have n45 : a4 ≠ a5 := by rintro rfl; simp [MemPlace.row] at hnd
  refine ⟨pick6 a0 a1 a2 a3 a4 a5, World.block_lt_of_cell? _ _ k5, ⟨?_, ?_, ?_⟩, ?_⟩
  · intro i j hi hj
    clear hnd hrows
    rcases six_of i hi with rfl | rfl | rfl | rfl | rfl | rfl <;> rcases six_of j hj with rfl | rfl | rfl | rfl | rfl | rfl
    · exact fun _ => rfl
    · exact fun e => absurd e n01
    · exact fun e => absurd e n02
    · exact fun e => absurd e n03
    · exact fun e => absurd e n04
    · exact fun e => absurd e n05
    · exact fun e => absurd e.symm n01
    · exact fun _ => rfl
    · exact fun e => absurd e n12
    · exact fun e => absurd e n13
    · exact fun e => absurd e n14
    · exact fun e => absurd e n15
    · exact fun e => absurd e.symm n02
    · exact fun e => absurd e.symm n12
    · exact fun _ => rfl
    · exact fun e => absurd e n23
    · exact fun e => absurd e n24
    · exact fun e => absurd e n25
    · exact fun e => absurd e.symm n03
    · exact fun e => absurd e.symm n13
    · exact fun e => absurd e.symm n23
    · exact fun _ => rfl
    · exact fun e => absurd e n34
    · exact fun e => absurd e n35
    · exact fun e => absurd e.symm n04
    · exact fun e => absurd e.symm n14
    · exact fun e => absurd e.symm n24
    · exact fun e => absurd e.symm n34
    · exact fun _ => rfl
    · exact fun e => absurd e n45
    · exact fun e => absurd e.symm n05
    · exact fun e => absurd e.symm n15
    · exact fun e => absurd e.symm n25
    · exact fun e => absurd e.symm n35
    · exact fun e => absurd e.symm n45
    · exact fun _ => rfl
  · intro j hj
    rcases six_of j hj with rfl | rfl | rfl | rfl | rfl | rfl
    · exact block_lt hb0
    · exact block_lt hb1
    · exact block_lt hb2
    · exact block_lt hb3
    · exact block_lt hb4
    · exact block_lt hb5
  · intro j hj
    rcases six_of j hj with rfl | rfl | rfl | rfl | rfl | rfl
    · exact ⟨_, _, hb0⟩
    · exact ⟨_, _, hb1⟩
    · exact ⟨_, _, hb2⟩
    · exact ⟨_, _, hb3⟩
    · exact ⟨_, _, hb4⟩
    · exact ⟨_, _, hb5⟩
  · intro j hj
    rcases six_of j hj with rfl | rfl | rfl | rfl | rfl | rfl
    · exact k0
    · exact k1
    · exact k2
    · exact k3
    · exact k4
    · exact k5

set_option maxRecDepth 100000 in
theorem lifted (os : Os) (started : os.Started) (H : Type) (enc : TypeId × Value → H) :
    ReturnsInHanded {} Tryd.checked os 3 .any (fun w args => (Rows.namesSpec.pre enc Tryd.prog Tryd.f3 [] false w args ∧ laidMetH Tryd.prog laid6 w) ∧ sizedMet enc Tryd.prog Tryd.f3 (OpenSpec.ofChange Rows.namesSpec) false w args)
      (Rows.namesSpec.post enc Tryd.prog Tryd.f3 false true false false) := by
  refine returnsInHanded_of_change_and (C := Tryd.checked) (X := fun w _ => laidMetH Tryd.prog laid6 w) (fun _ _ _ hh h => h.of_heap hh) own started (by kernel_rfl) Tryd.func3
    (ChangeSpec.witness_shaped (enc := enc) (C := Tryd.checked) (os := os) (X := fun w _ => laidMetH Tryd.prog laid6 w) false (World.doorLaid Tryd.prog 400 os) #[] 8 rfl (World.shaped_of_RefB (by kernel_rfl) (by kernel_rfl)) (by kernel_rfl) (by kernel_rfl) (by kernel_rfl) (door_met os _)) ?_
  intro W base args ds gs before hval0 hW _ _ hL _
  have hW' := hW
  obtain ⟨p, q, hA0, hV, rfl, hfz, hnd⟩ := hW
  have hA : DataW.TrodAll enc Tryd.prog W 0 (fun _ => true) true Tryd.f3.params.toList args.toList ds p := hA0
  rw [Tryd.params3] at hA
  obtain ⟨rfl, rfl, rfl⟩ := trodAll_none hA
  obtain ⟨rfl, rfl⟩ := trodVars_none hV
  obtain ⟨s, h6, hS, hg⟩ := of_laid hL
  clear hA0 hval0
  simp only [List.append_nil] at hW'
  refine (names_any s W h6 hS hg).mono fun e W' ⟨he, hn⟩ => ?_
  subst he
  exact ⟨_, rfl, _, _, _, [], [], [], hW', trodAll_mk1 (shut_bool Tryd.underlying4 true), trodAll_mk0, rfl, hn.frame _, fun h => by cases h⟩

theorem names_row_holds : Rows.NamesSaid :=
  OpenClaim.holds_of_wide 3 Tryd.f3 rfl rfl rfl rfl rfl rfl rfl ⟨rfl, rfl, rfl, rfl, rfl⟩ rfl rfl rfl rfl rfl (by kernel_rfl) Tryd.func3 (by kernel_rfl)
    (of_decide_eq_true (by kernel_rfl)) (by unfold Func.isWrapper; first | (rw [if_pos (by decide +kernel)]; kernel_rfl) | (rw [if_neg (by decide +kernel)]; exact ⟨rfl, rfl⟩))
    (fun os started H enc _ => lifted os started H enc)
end Go.Proofs.YtbbjomagboephaaDoor
