/-
  plain.fault. (By program: gen_flt.py.)
-/
import Derived.Test.YtpcmemcanpgadaaGreatDoorAs
import Derived.Test.YtpcmemcanpgadaaGreatDoorAsH
import Derived.Test.YtpcmemcanpgadaaGreatDoorIs
namespace Go.Proofs.YtpcmemcanpgadaaGreatDoor
open Go.RowKit Go.Maps

/-- what fault answers -/
def FltPost (w : World) (what : Int) (at' : Nat) (x : PredP.Str) (e : Ending) (w' : World) : Prop :=
  ∃ s : ByteArray, e = .returned (.agg #[.int .i64 what, .int .i64 (at' : Int), .string s, .slice none 0 0]) ∧ PredP.bs s = x ∧ Below w.heap.size w w'
structure FF (w W : World) : Prop where
  low : Below w.heap.size w W
  r0 : W.cell? ⟨w.heap.size, 0, none⟩ = some (.int .i64 0)
  r1 : W.cell? ⟨w.heap.size, 1, none⟩ = some (.int .i64 0)
  r2 : W.cell? ⟨w.heap.size, 2, none⟩ = some (.string ⟨#[]⟩)
  r3 : W.cell? ⟨w.heap.size, 3, none⟩ = some (.slice none 0 0)
  rf : ∀ j, W.frozen? ⟨w.heap.size, j, none⟩ = false
  t1 : W.cell? ⟨w.heap.size + 1, 0, none⟩ = some (.pointer none)
  t2 : W.cell? ⟨w.heap.size + 1 + 1, 0, none⟩ = some (.pointer none)
  t3 : W.cell? ⟨w.heap.size + 1 + 1 + 1, 0, none⟩ = some (.pointer none)
  t4 : W.cell? ⟨w.heap.size + 1 + 1 + 1 + 1, 0, none⟩ = some (.pointer none)
  f1 : W.frozen? ⟨w.heap.size + 1, 0, none⟩ = false
  f2 : W.frozen? ⟨w.heap.size + 1 + 1, 0, none⟩ = false
  f3 : W.frozen? ⟨w.heap.size + 1 + 1 + 1, 0, none⟩ = false
theorem FF.onward {w A B : World} (h : FF w A) (hb : Below A.heap.size A B) : FF w B := by
  have l0 := World.block_lt_of_cell? _ _ h.r0
  have l1 := World.block_lt_of_cell? _ _ h.t1
  have l2 := World.block_lt_of_cell? _ _ h.t2
  have l3 := World.block_lt_of_cell? _ _ h.t3
  have l4 := World.block_lt_of_cell? _ _ h.t4
  exact ⟨Below.all h.low hb, (hb.cell l0).trans h.r0, (hb.cell (p := ⟨w.heap.size, 1, none⟩) l0).trans h.r1, (hb.cell (p := ⟨w.heap.size, 2, none⟩) l0).trans h.r2, (hb.cell (p := ⟨w.heap.size, 3, none⟩) l0).trans h.r3, fun j => (hb.frozen (p := ⟨w.heap.size, j, none⟩) l0).trans (h.rf j),
    (hb.cell l1).trans h.t1, (hb.cell l2).trans h.t2, (hb.cell l3).trans h.t3, (hb.cell l4).trans h.t4, (hb.frozen (p := ⟨w.heap.size + 1, 0, none⟩) l1).trans h.f1, (hb.frozen (p := ⟨w.heap.size + 1 + 1, 0, none⟩) l2).trans h.f2, (hb.frozen (p := ⟨w.heap.size + 1 + 1 + 1, 0, none⟩) l3).trans h.f3⟩
theorem FF.made (w : World) : FF w (((((w.alloc (.cells #[.int .i64 0, .int .i64 0, .string ⟨#[]⟩, .slice none 0 0] 41)).alloc (.cells #[.pointer none] 103)).alloc (.cells #[.pointer none] 104)).alloc (.cells #[.pointer none] 105)).alloc (.cells #[.pointer none] 106)) := by
  have k0 : ∀ j u, (#[Value.int .i64 0, .int .i64 0, .string ⟨#[]⟩, .slice none 0 0] : Array Value)[j]? = some u → (w.alloc (.cells #[.int .i64 0, .int .i64 0, .string ⟨#[]⟩, .slice none 0 0] 41)).cell? ⟨w.heap.size, j, none⟩ = some u := fun j u h => cell_fresh h
  have f0 : ∀ j, (w.alloc (.cells #[.int .i64 0, .int .i64 0, .string ⟨#[]⟩, .slice none 0 0] 41)).frozen? ⟨w.heap.size, j, none⟩ = false := fun j => frozen_new j
  have p0 : Below w.heap.size w (w.alloc (.cells #[.int .i64 0, .int .i64 0, .string ⟨#[]⟩, .slice none 0 0] 41)) := (Below.refl _ _).alloc (Nat.le_refl _) _
  have z0 : (w.alloc (.cells #[.int .i64 0, .int .i64 0, .string ⟨#[]⟩, .slice none 0 0] 41)).heap.size = w.heap.size + 1 := by simp
  generalize w.alloc (.cells #[.int .i64 0, .int .i64 0, .string ⟨#[]⟩, .slice none 0 0] 41) = w1 at k0 f0 p0 z0
  have k1 : (w1.alloc (.cells #[.pointer none] 103)).cell? ⟨w.heap.size + 1, 0, none⟩ = some (.pointer none) := by rw [← z0]; exact cell_fresh rfl
  have f1 : (w1.alloc (.cells #[.pointer none] 103)).frozen? ⟨w.heap.size + 1, 0, none⟩ = false := by rw [← z0]; exact frozen_new 0
  have p1 : Below w1.heap.size w1 (w1.alloc (.cells #[.pointer none] 103)) := (Below.refl _ _).alloc (Nat.le_refl _) _
  have z1 : (w1.alloc (.cells #[.pointer none] 103)).heap.size = w.heap.size + 1 + 1 := by simp [z0]
  generalize w1.alloc (.cells #[.pointer none] 103) = w2 at k1 f1 p1 z1
  have k2 : (w2.alloc (.cells #[.pointer none] 104)).cell? ⟨w.heap.size + 1 + 1, 0, none⟩ = some (.pointer none) := by rw [← z1]; exact cell_fresh rfl
  have f2 : (w2.alloc (.cells #[.pointer none] 104)).frozen? ⟨w.heap.size + 1 + 1, 0, none⟩ = false := by rw [← z1]; exact frozen_new 0
  have p2 : Below w2.heap.size w2 (w2.alloc (.cells #[.pointer none] 104)) := (Below.refl _ _).alloc (Nat.le_refl _) _
  have z2 : (w2.alloc (.cells #[.pointer none] 104)).heap.size = w.heap.size + 1 + 1 + 1 := by simp [z1]
  generalize w2.alloc (.cells #[.pointer none] 104) = w3 at k2 f2 p2 z2
  have k3 : (w3.alloc (.cells #[.pointer none] 105)).cell? ⟨w.heap.size + 1 + 1 + 1, 0, none⟩ = some (.pointer none) := by rw [← z2]; exact cell_fresh rfl
  have f3 : (w3.alloc (.cells #[.pointer none] 105)).frozen? ⟨w.heap.size + 1 + 1 + 1, 0, none⟩ = false := by rw [← z2]; exact frozen_new 0
  have p3 : Below w3.heap.size w3 (w3.alloc (.cells #[.pointer none] 105)) := (Below.refl _ _).alloc (Nat.le_refl _) _
  have z3 : (w3.alloc (.cells #[.pointer none] 105)).heap.size = w.heap.size + 1 + 1 + 1 + 1 := by simp [z2]
  generalize w3.alloc (.cells #[.pointer none] 105) = w4 at k3 f3 p3 z3
  have k4 : (w4.alloc (.cells #[.pointer none] 106)).cell? ⟨w.heap.size + 1 + 1 + 1 + 1, 0, none⟩ = some (.pointer none) := by rw [← z3]; exact cell_fresh rfl
  have f4 : (w4.alloc (.cells #[.pointer none] 106)).frozen? ⟨w.heap.size + 1 + 1 + 1 + 1, 0, none⟩ = false := by rw [← z3]; exact frozen_new 0
  have p4 : Below w4.heap.size w4 (w4.alloc (.cells #[.pointer none] 106)) := (Below.refl _ _).alloc (Nat.le_refl _) _
  have z4 : (w4.alloc (.cells #[.pointer none] 106)).heap.size = w.heap.size + 1 + 1 + 1 + 1 + 1 := by simp [z3]
  generalize w4.alloc (.cells #[.pointer none] 106) = w5 at k4 f4 p4 z4
  have q4 := p4
  have q3 := Below.all p3 q4
  have q2 := Below.all p2 q3
  have q1 := Below.all p1 q2
  have c0 : ∀ j u, (#[Value.int .i64 0, .int .i64 0, .string ⟨#[]⟩, .slice none 0 0] : Array Value)[j]? = some u → w5.cell? ⟨w.heap.size, j, none⟩ = some u := fun j u h => (q1.cell (p := ⟨w.heap.size, j, none⟩) (World.block_lt_of_cell? _ _ (k0 j u h))).trans (k0 j u h)
  have l0 : w.heap.size < w1.heap.size := by omega
  have l1 := World.block_lt_of_cell? _ _ k1
  have l2 := World.block_lt_of_cell? _ _ k2
  have l3 := World.block_lt_of_cell? _ _ k3
  exact ⟨Below.all p0 q1, c0 0 _ rfl, c0 1 _ rfl, c0 2 _ rfl, c0 3 _ rfl, fun j => (q1.frozen (p := ⟨w.heap.size, j, none⟩) l0).trans (f0 j), (q2.cell l1).trans k1, (q3.cell l2).trans k2, (q4.cell l3).trans k3, k4, (q2.frozen (p := ⟨w.heap.size + 1, 0, none⟩) l1).trans f1, (q3.frozen (p := ⟨w.heap.size + 1 + 1, 0, none⟩) l2).trans f2, (q4.frozen (p := ⟨w.heap.size + 1 + 1 + 1, 0, none⟩) l3).trans f3⟩
theorem load_fault {W : World} {b : Nat} {v0 v1 v2 v3 : Value} (h0 : W.cell? ⟨b, 0, none⟩ = some v0) (h1 : W.cell? ⟨b, 1, none⟩ = some v1) (h2 : W.cell? ⟨b, 2, none⟩ = some v2) (h3 : W.cell? ⟨b, 3, none⟩ = some v3) : (loadVar 41 ⟨b, 0, none⟩).run Tryz.prog W = .ok (.agg #[v0, v1, v2, v3]) W := by
  go_simp
theorem hit_world {W : World} {t : Addr} {old v : Value} {o1 o2 o3 o4 : Obj} (h : W.cell? t = some old) : But t.block W (((((W.alloc o1).alloc o2).alloc o3).alloc o4).setCell t v) ∧ (((((W.alloc o1).alloc o2).alloc o3).alloc o4).setCell t v).cell? t = some v := by
  have hB : Below W.heap.size W ((((W.alloc o1).alloc o2).alloc o3).alloc o4) := ((((Below.refl _ W).alloc (Nat.le_refl _) _).alloc (by simp) _).alloc (by simp; omega) _).alloc (by simp; omega) _
  have hc := (hB.cell (p := t) (World.block_lt_of_cell? _ _ h)).trans h
  generalize (((W.alloc o1).alloc o2).alloc o3).alloc o4 = X at hB hc
  refine ⟨⟨hB.os, hB.tape, hB.output, by simpa [World.setCell] using hB.size, fun k hk hne => (Below.heap_setCell _ _ _ _ hne).trans (hB.block k hk)⟩, ?_⟩
  simp [go_sem, hc]
theorem But.frozenAt {r : Nat} {w w' : World} (h : But r w w') {b o : Nat} (hl : b < w.heap.size) (hr : b ≠ r) : w'.frozen? ⟨b, o, none⟩ = w.frozen? ⟨b, o, none⟩ := World.frozen?_of_block (a := ⟨b, o, none⟩) (h.block b hl hr)
/-- the cells of the result, behind a hit -/
structure FR (w W : World) : Prop where
  low : Below w.heap.size w W
  r0 : W.cell? ⟨w.heap.size, 0, none⟩ = some (.int .i64 0)
  r1 : W.cell? ⟨w.heap.size, 1, none⟩ = some (.int .i64 0)
  r2 : W.cell? ⟨w.heap.size, 2, none⟩ = some (.string ⟨#[]⟩)
  r3 : W.cell? ⟨w.heap.size, 3, none⟩ = some (.slice none 0 0)
  rf : ∀ j, W.frozen? ⟨w.heap.size, j, none⟩ = false
theorem FF.hit {w A B : World} {r : Nat} (h : FF w A) (hb : But r A B) (hr : w.heap.size < r) : FR w B := by
  have l0 : w.heap.size < A.heap.size := World.block_lt_of_cell? _ _ h.r0
  exact ⟨hb.belowOf h.low (by omega) h.low.size, hb.cellAt h.r0 (by omega), hb.cellAt h.r1 (by omega), hb.cellAt h.r2 (by omega), hb.cellAt h.r3 (by omega), fun j => (hb.frozenAt l0 (by omega)).trans (h.rf j)⟩
theorem FR.stored {w W : World} (h : FR w W) (v0 v1 v2 v3 : Value) : Below w.heap.size w ((((W.setCell ⟨w.heap.size, 0, none⟩ v0).setCell ⟨w.heap.size, 1, none⟩ v1).setCell ⟨w.heap.size, 2, none⟩ v2).setCell ⟨w.heap.size, 3, none⟩ v3) :=
  (((h.low.setCell (p := ⟨w.heap.size, 0, none⟩) (Nat.le_refl _) _).setCell (p := ⟨w.heap.size, 1, none⟩) (Nat.le_refl _) _).setCell (p := ⟨w.heap.size, 2, none⟩) (Nat.le_refl _) _).setCell (p := ⟨w.heap.size, 3, none⟩) (Nat.le_refl _) _

theorem FR.load {w W : World} (h : FR w W) (v0 v1 v2 v3 : Value) : (loadVar 41 ⟨w.heap.size, 0, none⟩).run Tryz.prog ((((W.setCell ⟨w.heap.size, 0, none⟩ v0).setCell ⟨w.heap.size, 1, none⟩ v1).setCell ⟨w.heap.size, 2, none⟩ v2).setCell ⟨w.heap.size, 3, none⟩ v3) = .ok (.agg #[v0, v1, v2, v3]) ((((W.setCell ⟨w.heap.size, 0, none⟩ v0).setCell ⟨w.heap.size, 1, none⟩ v1).setCell ⟨w.heap.size, 2, none⟩ v2).setCell ⟨w.heap.size, 3, none⟩ v3) :=
  load_fault (by simp [go_sem, h.r0]) (by simp [go_sem, h.r1]) (by simp [go_sem, h.r2]) (by simp [go_sem, h.r3])
theorem FR.drew {w W : World} (h : FR w W) : FR w W.drew := ⟨h.low.drew, h.r0, h.r1, h.r2, h.r3, h.rf⟩

set_option maxHeartbeats 2000000 in
theorem fault_nil (w : World) : Calls Tryz.prog 27 #[.nilIface] w (FltPost w 0 0 []) := by
  go_enter Tryz.func27, Tryz.ntmps27
  go_wp2_with fail
  have h := FF.made w
  exact bodyPost_ret_by (results_cell rfl rfl (load_fault h.r0 h.r1 h.r2 h.r3)) rfl ⟨⟨#[]⟩, rfl, rfl, h.low⟩

set_option maxRecDepth 100000 in
set_option maxHeartbeats 600000 in
theorem fault_s (w : World) (hg : w.cell? ⟨6, 0, none⟩ = some (.iface 189 (.agg #[.pointer (some ⟨10, 67, none⟩)]))) (b p : Nat) (d : Bool) (hlt : b < w.heap.size) (c0 : w.cell? ⟨b, 0, none⟩ = some (.int .i64 (p : Int))) (c1 : w.cell? ⟨b, 1, none⟩ = some (.bool d)) :
    Calls Tryz.prog 27 #[.iface 103 (.pointer (some ⟨b, 0, none⟩))] w (FltPost w (if d then 5 else 4) p []) := by
  have HG : Hid (∀ W, FF w W → W.cell? ⟨6, 0, none⟩ = some (.iface 189 (.agg #[.pointer (some ⟨10, 67, none⟩)]))) := PredP.hide fun W h => (h.low.cell (World.block_lt_of_cell? _ _ hg)).trans hg
  clear hg
  have h0 := FF.made w
  cases d
  all_goals
    go_enter Tryz.func27, Tryz.ntmps27
    go_wp2_with fail
    refine (as_miss_si ⟨b, 0, none⟩ ⟨w.heap.size + 1 + 1 + 1 + 1, 0, none⟩ _ (HG.out _ h0)).mono ?_
    rintro e1 W1 ⟨rfl, hb1⟩
    have h1 := h0.onward hb1
    go_wp2_with fail
    refine (as_hit_s ⟨b, 0, none⟩ ⟨w.heap.size + 1, 0, none⟩ (.pointer none) _ (HG.out _ h1) h1.t1 h1.f1).mono ?_
    rintro eH WH ⟨rfl, hWH⟩
    obtain ⟨hbH, hcH⟩ : But (w.heap.size + 1) W1 WH ∧ WH.cell? ⟨w.heap.size + 1, 0, none⟩ = some (.pointer (some ⟨b, 0, none⟩)) := by rw [hWH]; exact hit_world h1.t1
    clear hWH
    have hR := h1.hit hbH (by omega)
    have r0 := hR.r0
    have r1 := hR.r1
    have r2 := hR.r2
    have r3 := hR.r3
    have rf := hR.rf
    have q0 := hbH.cellAt ((h1.low.cell (p := ⟨b, 0, none⟩) hlt).trans c0) (by show b ≠ _; omega)
    have q1 := hbH.cellAt ((h1.low.cell (p := ⟨b, 1, none⟩) hlt).trans c1) (by show b ≠ _; omega)
    clear h0
    go_wp2_with fail
    exact bodyPost_ret_by (results_cell rfl rfl (hR.load _ _ _ _)) rfl ⟨⟨#[]⟩, rfl, rfl, hR.stored _ _ _ _⟩

set_option maxRecDepth 100000 in
set_option maxHeartbeats 600000 in
theorem fault_n (w : World) (hg : w.cell? ⟨6, 0, none⟩ = some (.iface 189 (.agg #[.pointer (some ⟨10, 67, none⟩)]))) (b p what : Nat) (a : ByteArray) (hw1 : 1 ≤ what) (hw3 : what ≤ 3) (hlt : b < w.heap.size) (c0 : w.cell? ⟨b, 0, none⟩ = some (.int .i64 (p : Int))) (c1 : w.cell? ⟨b, 1, none⟩ = some (.string a)) (c2 : w.cell? ⟨b, 2, none⟩ = some (.int .i64 (what : Int))) :
    Calls Tryz.prog 27 #[.iface 104 (.pointer (some ⟨b, 0, none⟩))] w (FltPost w ((5 + what : Nat) : Int) p (PredP.bs a)) := by
  have HG : Hid (∀ W, FF w W → W.cell? ⟨6, 0, none⟩ = some (.iface 189 (.agg #[.pointer (some ⟨10, 67, none⟩)]))) := PredP.hide fun W h => (h.low.cell (World.block_lt_of_cell? _ _ hg)).trans hg
  clear hg
  have h0 := FF.made w
  have g1 : (1 : Int) ≤ (what : Int) := by omega
  have g3 : (what : Int) ≤ 3 := by omega
  have g5 : IntKind.i64.wrap (5 + (what : Int)) = 5 + (what : Int) := by rw [IntKind.wrap_i64]; omega
  go_enter Tryz.func27, Tryz.ntmps27
  go_wp2_with fail
  refine (as_miss_ni ⟨b, 0, none⟩ ⟨w.heap.size + 1 + 1 + 1 + 1, 0, none⟩ _ (HG.out _ h0)).mono ?_
  rintro e1 W1 ⟨rfl, hb1⟩
  have h1 := h0.onward hb1
  go_wp2_with fail
  refine (as_miss_ns ⟨b, 0, none⟩ ⟨w.heap.size + 1, 0, none⟩ _ (HG.out _ h1)).mono ?_
  rintro e2 W2 ⟨rfl, hb2⟩
  have h2 := h1.onward hb2
  go_wp2_with fail
  refine (as_hit_n ⟨b, 0, none⟩ ⟨w.heap.size + 1 + 1, 0, none⟩ (.pointer none) _ (HG.out _ h2) h2.t2 h2.f2).mono ?_
  rintro eH WH ⟨rfl, hWH⟩
  obtain ⟨hbH, hcH⟩ : But (w.heap.size + 1 + 1) W2 WH ∧ WH.cell? ⟨w.heap.size + 1 + 1, 0, none⟩ = some (.pointer (some ⟨b, 0, none⟩)) := by rw [hWH]; exact hit_world h2.t2
  clear hWH
  have hR := h2.hit hbH (by omega)
  have r0 := hR.r0
  have r1 := hR.r1
  have r2 := hR.r2
  have r3 := hR.r3
  have rf := hR.rf
  have q0 := hbH.cellAt ((h2.low.cell (p := ⟨b, 0, none⟩) hlt).trans c0) (by show b ≠ _; omega)
  have q1 := hbH.cellAt ((h2.low.cell (p := ⟨b, 1, none⟩) hlt).trans c1) (by show b ≠ _; omega)
  have q2 := hbH.cellAt ((h2.low.cell (p := ⟨b, 2, none⟩) hlt).trans c2) (by show b ≠ _; omega)
  clear h0
  go_wp2_with fail
  have hnb : w.heap.size ≠ b := by omega
  have hnb' : b ≠ w.heap.size := by omega
  have hnt : w.heap.size ≠ w.heap.size + 1 + 1 := by omega
  have hnt' : w.heap.size ≠ w.heap.size + 1 + 1 + 1 := by omega
  go_region_held3 (fun W' => W'.cell? ⟨w.heap.size + 1 + 1, 0, none⟩ = some (.pointer (some ⟨b, 0, none⟩)) ∧ W'.cell? ⟨b, 0, none⟩ = some (.int .i64 (p : Int)) ∧ W'.cell? ⟨b, 1, none⟩ = some (.string a) ∧ W'.cell? ⟨b, 2, none⟩ = some (.int .i64 (what : Int))) (go_keep) (fail)
  go_wp2_with fail
  exact bodyPost_ret_by (results_cell rfl rfl (hR.drew.load _ _ _ _)) rfl ⟨a, rfl, rfl, hR.drew.stored _ _ _ _⟩

set_option maxRecDepth 100000 in
set_option maxHeartbeats 600000 in
theorem fault_c (w : World) (hg : w.cell? ⟨6, 0, none⟩ = some (.iface 189 (.agg #[.pointer (some ⟨10, 67, none⟩)]))) (b p : Nat) (a : ByteArray) (hlt : b < w.heap.size) (c0 : w.cell? ⟨b, 0, none⟩ = some (.int .i64 (p : Int))) (c1 : w.cell? ⟨b, 1, none⟩ = some (.string a)) :
    Calls Tryz.prog 27 #[.iface 105 (.pointer (some ⟨b, 0, none⟩))] w (FltPost w 9 p (PredP.bs a)) := by
  have HG : Hid (∀ W, FF w W → W.cell? ⟨6, 0, none⟩ = some (.iface 189 (.agg #[.pointer (some ⟨10, 67, none⟩)]))) := PredP.hide fun W h => (h.low.cell (World.block_lt_of_cell? _ _ hg)).trans hg
  clear hg
  have h0 := FF.made w
  go_enter Tryz.func27, Tryz.ntmps27
  go_wp2_with fail
  refine (as_miss_ci ⟨b, 0, none⟩ ⟨w.heap.size + 1 + 1 + 1 + 1, 0, none⟩ _ (HG.out _ h0)).mono ?_
  rintro e1 W1 ⟨rfl, hb1⟩
  have h1 := h0.onward hb1
  go_wp2_with fail
  refine (as_miss_cs ⟨b, 0, none⟩ ⟨w.heap.size + 1, 0, none⟩ _ (HG.out _ h1)).mono ?_
  rintro e2 W2 ⟨rfl, hb2⟩
  have h2 := h1.onward hb2
  go_wp2_with fail
  refine (as_miss_cn ⟨b, 0, none⟩ ⟨w.heap.size + 1 + 1, 0, none⟩ _ (HG.out _ h2)).mono ?_
  rintro e3 W3 ⟨rfl, hb3⟩
  have h3 := h2.onward hb3
  go_wp2_with fail
  refine (as_hit_c ⟨b, 0, none⟩ ⟨w.heap.size + 1 + 1 + 1, 0, none⟩ (.pointer none) _ (HG.out _ h3) h3.t3 h3.f3).mono ?_
  rintro eH WH ⟨rfl, hWH⟩
  obtain ⟨hbH, hcH⟩ : But (w.heap.size + 1 + 1 + 1) W3 WH ∧ WH.cell? ⟨w.heap.size + 1 + 1 + 1, 0, none⟩ = some (.pointer (some ⟨b, 0, none⟩)) := by rw [hWH]; exact hit_world h3.t3
  clear hWH
  have hR := h3.hit hbH (by omega)
  have r0 := hR.r0
  have r1 := hR.r1
  have r2 := hR.r2
  have r3 := hR.r3
  have rf := hR.rf
  have q0 := hbH.cellAt ((h3.low.cell (p := ⟨b, 0, none⟩) hlt).trans c0) (by show b ≠ _; omega)
  have q1 := hbH.cellAt ((h3.low.cell (p := ⟨b, 1, none⟩) hlt).trans c1) (by show b ≠ _; omega)
  clear h0
  go_wp2_with fail
  have hnb : w.heap.size ≠ b := by omega
  have hnb' : b ≠ w.heap.size := by omega
  have hnt : w.heap.size ≠ w.heap.size + 1 + 1 := by omega
  have hnt' : w.heap.size ≠ w.heap.size + 1 + 1 + 1 := by omega
  go_region_held3 (fun W' => W'.cell? ⟨w.heap.size + 1 + 1 + 1, 0, none⟩ = some (.pointer (some ⟨b, 0, none⟩)) ∧ W'.cell? ⟨b, 0, none⟩ = some (.int .i64 (p : Int)) ∧ W'.cell? ⟨b, 1, none⟩ = some (.string a)) (go_keep) (fail)
  go_wp2_with fail
  exact bodyPost_ret_by (results_cell rfl rfl (hR.drew.load _ _ _ _)) rfl ⟨a, rfl, rfl, hR.drew.stored _ _ _ _⟩

/-- three sentinels, each in a block of its own -/
structure Sent (w : World) (bl be bm : Addr) : Prop where
  l : ∃ cs t, w.heap[bl.block]? = some (.cells cs t (0, 0))
  e : ∃ cs t, w.heap[be.block]? = some (.cells cs t (0, 0))
  m : ∃ cs t, w.heap[bm.block]? = some (.cells cs t (0, 0))
  le : bl ≠ be
  lm : bl ≠ bm
  em : be ≠ bm
  gl : w.cell? ⟨3, 0, none⟩ = some (.iface 290 (.pointer (some bl)))
  ge : w.cell? ⟨4, 0, none⟩ = some (.iface 290 (.pointer (some be)))
  gm : w.cell? ⟨5, 0, none⟩ = some (.iface 290 (.pointer (some bm)))
theorem Sent.below {w W : World} {bl be bm : Addr} (h : Sent w bl be bm) (hb : Below w.heap.size w W) : Sent W bl be bm := by
  have up : ∀ {k : Nat} {cs : Array Value} {t : TypeId}, w.heap[k]? = some (.cells cs t (0, 0)) → W.heap[k]? = some (.cells cs t (0, 0)) := fun hk => (hb.block _ (Array.getElem?_eq_some_iff.1 hk).1).trans hk
  obtain ⟨⟨c1, t1, h1⟩, ⟨c2, t2, h2⟩, ⟨c3, t3, h3⟩, n1, n2, n3, g1, g2, g3⟩ := h
  exact ⟨⟨c1, t1, up h1⟩, ⟨c2, t2, up h2⟩, ⟨c3, t3, up h3⟩, n1, n2, n3, (hb.cell (World.block_lt_of_cell? _ _ g1)).trans g1, (hb.cell (World.block_lt_of_cell? _ _ g2)).trans g2, (hb.cell (World.block_lt_of_cell? _ _ g3)).trans g3⟩
theorem is_not {w : World} {x y : Addr} (hx : ∃ cs t, w.heap[x.block]? = some (.cells cs t (0, 0))) (hy : ∃ cs t, w.heap[y.block]? = some (.cells cs t (0, 0))) (hne : x ≠ y) : Calls Tryz.prog 45 #[.iface 290 (.pointer (some x)), .iface 290 (.pointer (some y))] w fun e w' => e = .returned (.bool false) ∧ w' = w := by
  obtain ⟨c1, t1, h1⟩ := hx
  obtain ⟨c2, t2, h2⟩ := hy
  exact is_other x y c1 c2 t1 t2 w hne h1 h2

set_option maxRecDepth 100000 in
set_option maxHeartbeats 600000 in
theorem fault_e (w : World) (hg : w.cell? ⟨6, 0, none⟩ = some (.iface 189 (.agg #[.pointer (some ⟨10, 67, none⟩)]))) (bl be bm : Addr) (hs : Sent w bl be bm) (k : Nat) (b : Addr) (hk : (k = 1 ∧ b = bl) ∨ (k = 2 ∧ b = be) ∨ (k = 3 ∧ b = bm)) :
    Calls Tryz.prog 27 #[.iface 290 (.pointer (some b))] w (FltPost w (k : Int) 0 []) := by
  have HG : Hid (∀ W, FF w W → W.cell? ⟨6, 0, none⟩ = some (.iface 189 (.agg #[.pointer (some ⟨10, 67, none⟩)]))) := PredP.hide fun W h => (h.low.cell (World.block_lt_of_cell? _ _ hg)).trans hg
  clear hg
  have h0 := FF.made w
  go_enter Tryz.func27, Tryz.ntmps27
  go_wp2_with fail
  refine (as_miss_ei b ⟨w.heap.size + 1 + 1 + 1 + 1, 0, none⟩ _ (HG.out _ h0)).mono ?_
  rintro e1 W1 ⟨rfl, hb1⟩
  have h1 := h0.onward hb1
  go_wp2_with fail
  refine (as_miss_es b ⟨w.heap.size + 1, 0, none⟩ _ (HG.out _ h1)).mono ?_
  rintro e2 W2 ⟨rfl, hb2⟩
  have h2 := h1.onward hb2
  go_wp2_with fail
  refine (as_miss_en b ⟨w.heap.size + 1 + 1, 0, none⟩ _ (HG.out _ h2)).mono ?_
  rintro e3 W3 ⟨rfl, hb3⟩
  have h3 := h2.onward hb3
  go_wp2_with fail
  refine (as_miss_ec b ⟨w.heap.size + 1 + 1 + 1, 0, none⟩ _ (HG.out _ h3)).mono ?_
  rintro e4 W4 ⟨rfl, hb4⟩
  have h4 := h3.onward hb4
  have hs4 := hs.below h4.low
  have gl := hs4.gl
  have ge := hs4.ge
  have gm := hs4.gm
  clear h0
  go_wp2_with fail
  have hB5 : Below W4.heap.size W4 (W4.alloc (.cells #[.iface 290 (.pointer (some bl)), .iface 290 (.pointer (some be)), .iface 290 (.pointer (some bm))] 67)) := (Below.refl _ _).alloc (Nat.le_refl _) _
  have k0 : (W4.alloc (.cells #[.iface 290 (.pointer (some bl)), .iface 290 (.pointer (some be)), .iface 290 (.pointer (some bm))] 67)).cell? ⟨W4.heap.size, 0, none⟩ = some (.iface 290 (.pointer (some bl))) := cell_fresh rfl
  have k1 : (W4.alloc (.cells #[.iface 290 (.pointer (some bl)), .iface 290 (.pointer (some be)), .iface 290 (.pointer (some bm))] 67)).cell? ⟨W4.heap.size, 1, none⟩ = some (.iface 290 (.pointer (some be))) := cell_fresh rfl
  have k2 : (W4.alloc (.cells #[.iface 290 (.pointer (some bl)), .iface 290 (.pointer (some be)), .iface 290 (.pointer (some bm))] 67)).cell? ⟨W4.heap.size, 2, none⟩ = some (.iface 290 (.pointer (some bm))) := cell_fresh rfl
  generalize W4.alloc (.cells #[.iface 290 (.pointer (some bl)), .iface 290 (.pointer (some be)), .iface 290 (.pointer (some bm))] 67) = W5 at hB5 k0 k1 k2 ⊢
  have h5 := h4.onward hB5
  have hs5 := hs4.below hB5
  have hR : FR w W5 := ⟨h5.low, h5.r0, h5.r1, h5.r2, h5.r3, h5.rf⟩
  have r0 := hR.r0
  have r1 := hR.r1
  have r2 := hR.r2
  have r3 := hR.r3
  have rf := hR.rf
  refine wp_loop_rounds 3 ?_
  rcases hk with ⟨rfl, rfl⟩ | ⟨rfl, rfl⟩ | ⟨rfl, rfl⟩
  · rw [rounds_succ]
    go_wp2_with fail
    refine (is_same b _).mono ?_
    rintro e6 W6 ⟨rfl, rfl⟩
    go_wp2_with fail
    exact bodyPost_ret_by (results_cell rfl rfl (hR.load _ _ _ _)) rfl ⟨⟨#[]⟩, rfl, rfl, hR.stored _ _ _ _⟩
  · rw [rounds_succ]
    go_wp2_with fail
    refine (is_not hs5.e hs5.l (Ne.symm hs5.le)).mono ?_
    rintro e6 W6 ⟨rfl, rfl⟩
    go_wp2_with fail
    rw [rounds_succ]
    go_wp2_with fail
    refine (is_same b _).mono ?_
    rintro e7 W7 ⟨rfl, rfl⟩
    go_wp2_with fail
    exact bodyPost_ret_by (results_cell rfl rfl (hR.load _ _ _ _)) rfl ⟨⟨#[]⟩, rfl, rfl, hR.stored _ _ _ _⟩
  · rw [rounds_succ]
    go_wp2_with fail
    refine (is_not hs5.m hs5.l (Ne.symm hs5.lm)).mono ?_
    rintro e6 W6 ⟨rfl, rfl⟩
    go_wp2_with fail
    rw [rounds_succ]
    go_wp2_with fail
    refine (is_not hs5.m hs5.e (Ne.symm hs5.em)).mono ?_
    rintro e7 W7 ⟨rfl, rfl⟩
    go_wp2_with fail
    rw [rounds_succ]
    go_wp2_with fail
    refine (is_same b _).mono ?_
    rintro e8 W8 ⟨rfl, rfl⟩
    go_wp2_with fail
    exact bodyPost_ret_by (results_cell rfl rfl (hR.load _ _ _ _)) rfl ⟨⟨#[]⟩, rfl, rfl, hR.stored _ _ _ _⟩

end Go.Proofs.YtpcmemcanpgadaaGreatDoor
