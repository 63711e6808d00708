import Derived.Test.YtpcmemcanpgadaaGreatDoorPCom
import Derived.Test.YtpcmemcanpgadaaGreatDoorFts
/-
  predictkeep.pick, Refuses.
-/
namespace Go.Proofs.YtpcmemcanpgadaaGreatDoor
open Go.RowKit Go.Maps

set_option maxHeartbeats 1000000 in
theorem pick_any (k : Int) (hk0 : -9223372036854775808 ≤ k) (hk1 : k ≤ 9223372036854775807) (n : Nat) (hn : 0 < n) (hn1 : n ≤ 1000) (w : World) :
    Calls Tryz.prog 18 #[.int .i64 k, .int .i64 (n : Int)] w fun e w' => ∃ r : Nat, r < n ∧ e = .returned (.int .i64 (r : Int)) ∧ w' = w := by
  have hne : ¬ (n : Int) = 0 := by omega
  by_cases hneg : k < 0
  · have e1 : IntKind.i64.wrap (k + 1) = k + 1 := by rw [IntKind.wrap_i64]; omega
    have e2 : IntKind.i64.wrap (-(k + 1)) = -(k + 1) := by rw [IntKind.wrap_i64]; omega
    go_enter Tryz.func18, Tryz.ntmps18
    go_wp2_with fail
    go_ret
    obtain ⟨m, hm⟩ : ∃ m : Nat, k + 1 = -(m : Int) := ⟨(-(k + 1)).toNat, by omega⟩
    have hv : -(k + 1).tmod (n : Int) = ((m % n : Nat) : Int) := by rw [hm, Int.neg_tmod, Int.neg_neg, Int.ofNat_tmod]
    exact ⟨m % n, Nat.mod_lt _ hn, by rw [← hv]; rfl, rfl⟩
  · go_enter Tryz.func18, Tryz.ntmps18
    go_wp2_with fail
    go_ret
    obtain ⟨m, rfl⟩ : ∃ m : Nat, k = (m : Int) := ⟨k.toNat, by omega⟩
    exact ⟨m % n, Nat.mod_lt _ hn, rfl, rfl⟩

/-- the place of a word among those that Refuses knows -/
def whatWords : List PredP.Str := [[], [108, 111, 110, 103], [101, 109, 112, 116, 121], [109, 97, 110, 121], [115, 121, 110, 116, 97, 120], [100, 101, 101, 112], [116, 119, 105, 99, 101], [110, 111, 110, 101], [117, 115, 101, 108, 101, 115, 115], [99, 108, 97, 115, 104]]
def isOk : PredP.Res → Bool
  | .ok _ => true
  | _ => false
def faultOk (q : PredP.Str × PredP.Str × Nat × PredP.Str) : Bool :=
  let r := PredP.compile q.1
  ((!isOk r) == (q.2.1 != [])) && (whatOf r == (whatWords.findIdx (· == q.2.1) : Int)) && (atOf r == q.2.2.1) && (strOf r == q.2.2.2) && decide (whatWords.findIdx (· == q.2.1) < 10)
theorem faults_ok : faultTab.all faultOk = true := by decide +kernel

end Go.Proofs.YtpcmemcanpgadaaGreatDoor

/-
  The law Refuses.
-/
namespace Go.Proofs.YtpcmemcanpgadaaGreatDoor
open Go.RowKit Go.Maps

theorem flat_cell (t : List (PredP.Str × PredP.Str × Nat × PredP.Str)) : ∀ (i : Nat) (q : PredP.Str × PredP.Str × Nat × PredP.Str), t[i]? = some q →
    (faultCells t)[i * 4]? = some (.string ⟨q.1.toArray⟩) ∧ (faultCells t)[i * 4 + 1]? = some (.string ⟨q.2.1.toArray⟩) ∧ (faultCells t)[i * 4 + 2]? = some (.int .i64 (q.2.2.1 : Int)) ∧ (faultCells t)[i * 4 + 3]? = some (.string ⟨q.2.2.2.toArray⟩) := by
  induction t with
  | nil => intro i q h; simp at h
  | cons p t ih =>
    intro i q h
    cases i with
    | zero =>
      simp at h
      subst h
      exact ⟨rfl, rfl, rfl, rfl⟩
    | succ i =>
      obtain ⟨h1, h2, h3, h4⟩ := ih i q (by simpa using h)
      have e : ∀ j, (faultCells (p :: t))[(i + 1) * 4 + j]? = (faultCells t)[i * 4 + j]? := fun j => by
        unfold faultCells
        rw [List.flatMap_cons, show (i + 1) * 4 + j = 4 + (i * 4 + j) by omega, List.getElem?_append_right (by simp)]
        simp
      exact ⟨(e 0).trans h1, (e 1).trans h2, (e 2).trans h3, (e 3).trans h4⟩

theorem faults_short : (faultTab.all fun q => decide (q.1.length ≤ 1000)) = true := by decide +kernel
theorem pc_false {w w' : World} {r : PredP.Res} {e : Ending} (h : PCPost w r e w') (hr : isOk r = false) {i : Int} {p : Nat} {s : PredP.Str} (h2 : whatOf r = i) (h3 : atOf r = p) (h4 : strOf r = s) :
    Below w.heap.size w w' ∧ e = .returned (.tuple #[.pointer none, .agg #[.int .i64 i, .int .i64 (p : Int), .string ⟨s.toArray⟩, .slice none 0 0]]) := by
  obtain ⟨hb, v, x, he, hx, hv⟩ := h
  subst h2 h3 h4
  rw [bs_eq hx] at he
  refine ⟨hb, ?_⟩
  cases r with
  | ok G => cases hr
  | _ => rw [he, show v = .pointer none from hv]
theorem pc_true {w w' : World} {r : PredP.Res} {e : Ending} (h : PCPost w r e w') (hr : isOk r = true) {i : Int} {p : Nat} {s : PredP.Str} (h2 : whatOf r = i) (h3 : atOf r = p) (h4 : strOf r = s) :
    Below w.heap.size w w' ∧ ∃ b0, e = .returned (.tuple #[.pointer (some ⟨b0, 0, none⟩), .agg #[.int .i64 i, .int .i64 (p : Int), .string ⟨s.toArray⟩, .slice none 0 0]]) := by
  obtain ⟨hb, v, x, he, hx, hv⟩ := h
  subst h2 h3 h4
  rw [bs_eq hx] at he
  refine ⟨hb, ?_⟩
  cases r with
  | ok G =>
    obtain ⟨b0, b, hv0, _⟩ := hv
    exact ⟨b0, by rw [he, hv0]⟩
  | _ => cases hr

set_option maxRecDepth 100000 in
set_option maxHeartbeats 4000000 in
theorem refuses_any (k : Int) (hk0 : -9223372036854775808 ≤ k) (hk1 : k ≤ 9223372036854775807) (w : World) (hg : w.cell? ⟨6, 0, none⟩ = some (.iface 189 (.agg #[.pointer (some ⟨10, 67, none⟩)]))) (bl be bm : Addr) (hS : Sent w bl be bm) :
    Calls Tryz.prog 7 #[.int .i64 k] w fun e w' => e = .returned (.bool true) ∧ Below w.heap.size w w' := by
  go_enter Tryz.func7, Tryz.ntmps7
  go_wp2_with fail
  refine (faults_any w).mono ?_
  rintro e w1 ⟨g, rfl, hg1, hcells, hb1⟩
  go_wp2_with fail
  refine (pick_any k hk0 hk1 61 (by omega) (by omega) w1).mono ?_
  rintro e2 w2 ⟨r, hr, rfl, rfl⟩
  obtain ⟨q, hq⟩ : ∃ q, faultTab[r]? = some q := ⟨faultTab[r]'(by rw [show faultTab.length = 61 from by decide +kernel]; exact hr), List.getElem?_eq_getElem _⟩
  obtain ⟨f0, f1, f2, f3⟩ := flat_cell faultTab r q hq
  have c : ∀ j u, (faultCells faultTab)[j]? = some u → w2.cell? ⟨g, j, none⟩ = some u := fun j u hj => by
    unfold World.cell?
    simp [hcells, hj]
  have c0 := c _ _ f0
  have c1 := c _ _ f1
  have c2 := c _ _ f2
  have c3 := c _ _ f3
  have HQ := PredP.hide hq
  clear f0 f1 f2 f3 c hcells hq
  have h01 : (0 : Int) ≤ (r : Int) := by omega
  have h02 : (r : Int) < 61 := by omega
  go_wp2_with fail
  have hok : faultOk q = true := List.all_eq_true.1 faults_ok q (List.mem_of_getElem? HQ.out)
  unfold faultOk at hok
  simp only [Bool.and_eq_true, beq_iff_eq, decide_eq_true_eq] at hok
  obtain ⟨⟨⟨⟨o1, o2⟩, o3⟩, o4⟩, o5⟩ := hok
  have hB3 : Below w2.heap.size w2 ((w2.alloc (.cells #[.string ⟨q.1.toArray⟩, .string ⟨q.2.1.toArray⟩, .int .i64 (q.2.2.1 : Int), .string ⟨q.2.2.2.toArray⟩] 49)).alloc (.cells #[.string ⟨#[]⟩, .string ⟨#[108, 111, 110, 103]⟩, .string ⟨#[101, 109, 112, 116, 121]⟩, .string ⟨#[109, 97, 110, 121]⟩, .string ⟨#[115, 121, 110, 116, 97, 120]⟩, .string ⟨#[100, 101, 101, 112]⟩, .string ⟨#[116, 119, 105, 99, 101]⟩, .string ⟨#[110, 111, 110, 101]⟩, .string ⟨#[117, 115, 101, 108, 101, 115, 115]⟩, .string ⟨#[99, 108, 97, 115, 104]⟩] 9)) := ((Below.refl _ w2).alloc (Nat.le_refl _) _).alloc (by simp) _
  have k0 : ((w2.alloc (.cells #[.string ⟨q.1.toArray⟩, .string ⟨q.2.1.toArray⟩, .int .i64 (q.2.2.1 : Int), .string ⟨q.2.2.2.toArray⟩] 49)).alloc (.cells #[.string ⟨#[]⟩, .string ⟨#[108, 111, 110, 103]⟩, .string ⟨#[101, 109, 112, 116, 121]⟩, .string ⟨#[109, 97, 110, 121]⟩, .string ⟨#[115, 121, 110, 116, 97, 120]⟩, .string ⟨#[100, 101, 101, 112]⟩, .string ⟨#[116, 119, 105, 99, 101]⟩, .string ⟨#[110, 111, 110, 101]⟩, .string ⟨#[117, 115, 101, 108, 101, 115, 115]⟩, .string ⟨#[99, 108, 97, 115, 104]⟩] 9)).cell? ⟨w2.heap.size + 1, 0, none⟩ = some (.string ⟨#[]⟩) := cell_fresh2 rfl
  have k1 : ((w2.alloc (.cells #[.string ⟨q.1.toArray⟩, .string ⟨q.2.1.toArray⟩, .int .i64 (q.2.2.1 : Int), .string ⟨q.2.2.2.toArray⟩] 49)).alloc (.cells #[.string ⟨#[]⟩, .string ⟨#[108, 111, 110, 103]⟩, .string ⟨#[101, 109, 112, 116, 121]⟩, .string ⟨#[109, 97, 110, 121]⟩, .string ⟨#[115, 121, 110, 116, 97, 120]⟩, .string ⟨#[100, 101, 101, 112]⟩, .string ⟨#[116, 119, 105, 99, 101]⟩, .string ⟨#[110, 111, 110, 101]⟩, .string ⟨#[117, 115, 101, 108, 101, 115, 115]⟩, .string ⟨#[99, 108, 97, 115, 104]⟩] 9)).cell? ⟨w2.heap.size + 1, 1, none⟩ = some (.string ⟨#[108, 111, 110, 103]⟩) := cell_fresh2 rfl
  have k2 : ((w2.alloc (.cells #[.string ⟨q.1.toArray⟩, .string ⟨q.2.1.toArray⟩, .int .i64 (q.2.2.1 : Int), .string ⟨q.2.2.2.toArray⟩] 49)).alloc (.cells #[.string ⟨#[]⟩, .string ⟨#[108, 111, 110, 103]⟩, .string ⟨#[101, 109, 112, 116, 121]⟩, .string ⟨#[109, 97, 110, 121]⟩, .string ⟨#[115, 121, 110, 116, 97, 120]⟩, .string ⟨#[100, 101, 101, 112]⟩, .string ⟨#[116, 119, 105, 99, 101]⟩, .string ⟨#[110, 111, 110, 101]⟩, .string ⟨#[117, 115, 101, 108, 101, 115, 115]⟩, .string ⟨#[99, 108, 97, 115, 104]⟩] 9)).cell? ⟨w2.heap.size + 1, 2, none⟩ = some (.string ⟨#[101, 109, 112, 116, 121]⟩) := cell_fresh2 rfl
  have k3 : ((w2.alloc (.cells #[.string ⟨q.1.toArray⟩, .string ⟨q.2.1.toArray⟩, .int .i64 (q.2.2.1 : Int), .string ⟨q.2.2.2.toArray⟩] 49)).alloc (.cells #[.string ⟨#[]⟩, .string ⟨#[108, 111, 110, 103]⟩, .string ⟨#[101, 109, 112, 116, 121]⟩, .string ⟨#[109, 97, 110, 121]⟩, .string ⟨#[115, 121, 110, 116, 97, 120]⟩, .string ⟨#[100, 101, 101, 112]⟩, .string ⟨#[116, 119, 105, 99, 101]⟩, .string ⟨#[110, 111, 110, 101]⟩, .string ⟨#[117, 115, 101, 108, 101, 115, 115]⟩, .string ⟨#[99, 108, 97, 115, 104]⟩] 9)).cell? ⟨w2.heap.size + 1, 3, none⟩ = some (.string ⟨#[109, 97, 110, 121]⟩) := cell_fresh2 rfl
  have k4 : ((w2.alloc (.cells #[.string ⟨q.1.toArray⟩, .string ⟨q.2.1.toArray⟩, .int .i64 (q.2.2.1 : Int), .string ⟨q.2.2.2.toArray⟩] 49)).alloc (.cells #[.string ⟨#[]⟩, .string ⟨#[108, 111, 110, 103]⟩, .string ⟨#[101, 109, 112, 116, 121]⟩, .string ⟨#[109, 97, 110, 121]⟩, .string ⟨#[115, 121, 110, 116, 97, 120]⟩, .string ⟨#[100, 101, 101, 112]⟩, .string ⟨#[116, 119, 105, 99, 101]⟩, .string ⟨#[110, 111, 110, 101]⟩, .string ⟨#[117, 115, 101, 108, 101, 115, 115]⟩, .string ⟨#[99, 108, 97, 115, 104]⟩] 9)).cell? ⟨w2.heap.size + 1, 4, none⟩ = some (.string ⟨#[115, 121, 110, 116, 97, 120]⟩) := cell_fresh2 rfl
  have k5 : ((w2.alloc (.cells #[.string ⟨q.1.toArray⟩, .string ⟨q.2.1.toArray⟩, .int .i64 (q.2.2.1 : Int), .string ⟨q.2.2.2.toArray⟩] 49)).alloc (.cells #[.string ⟨#[]⟩, .string ⟨#[108, 111, 110, 103]⟩, .string ⟨#[101, 109, 112, 116, 121]⟩, .string ⟨#[109, 97, 110, 121]⟩, .string ⟨#[115, 121, 110, 116, 97, 120]⟩, .string ⟨#[100, 101, 101, 112]⟩, .string ⟨#[116, 119, 105, 99, 101]⟩, .string ⟨#[110, 111, 110, 101]⟩, .string ⟨#[117, 115, 101, 108, 101, 115, 115]⟩, .string ⟨#[99, 108, 97, 115, 104]⟩] 9)).cell? ⟨w2.heap.size + 1, 5, none⟩ = some (.string ⟨#[100, 101, 101, 112]⟩) := cell_fresh2 rfl
  have k6 : ((w2.alloc (.cells #[.string ⟨q.1.toArray⟩, .string ⟨q.2.1.toArray⟩, .int .i64 (q.2.2.1 : Int), .string ⟨q.2.2.2.toArray⟩] 49)).alloc (.cells #[.string ⟨#[]⟩, .string ⟨#[108, 111, 110, 103]⟩, .string ⟨#[101, 109, 112, 116, 121]⟩, .string ⟨#[109, 97, 110, 121]⟩, .string ⟨#[115, 121, 110, 116, 97, 120]⟩, .string ⟨#[100, 101, 101, 112]⟩, .string ⟨#[116, 119, 105, 99, 101]⟩, .string ⟨#[110, 111, 110, 101]⟩, .string ⟨#[117, 115, 101, 108, 101, 115, 115]⟩, .string ⟨#[99, 108, 97, 115, 104]⟩] 9)).cell? ⟨w2.heap.size + 1, 6, none⟩ = some (.string ⟨#[116, 119, 105, 99, 101]⟩) := cell_fresh2 rfl
  have k7 : ((w2.alloc (.cells #[.string ⟨q.1.toArray⟩, .string ⟨q.2.1.toArray⟩, .int .i64 (q.2.2.1 : Int), .string ⟨q.2.2.2.toArray⟩] 49)).alloc (.cells #[.string ⟨#[]⟩, .string ⟨#[108, 111, 110, 103]⟩, .string ⟨#[101, 109, 112, 116, 121]⟩, .string ⟨#[109, 97, 110, 121]⟩, .string ⟨#[115, 121, 110, 116, 97, 120]⟩, .string ⟨#[100, 101, 101, 112]⟩, .string ⟨#[116, 119, 105, 99, 101]⟩, .string ⟨#[110, 111, 110, 101]⟩, .string ⟨#[117, 115, 101, 108, 101, 115, 115]⟩, .string ⟨#[99, 108, 97, 115, 104]⟩] 9)).cell? ⟨w2.heap.size + 1, 7, none⟩ = some (.string ⟨#[110, 111, 110, 101]⟩) := cell_fresh2 rfl
  have k8 : ((w2.alloc (.cells #[.string ⟨q.1.toArray⟩, .string ⟨q.2.1.toArray⟩, .int .i64 (q.2.2.1 : Int), .string ⟨q.2.2.2.toArray⟩] 49)).alloc (.cells #[.string ⟨#[]⟩, .string ⟨#[108, 111, 110, 103]⟩, .string ⟨#[101, 109, 112, 116, 121]⟩, .string ⟨#[109, 97, 110, 121]⟩, .string ⟨#[115, 121, 110, 116, 97, 120]⟩, .string ⟨#[100, 101, 101, 112]⟩, .string ⟨#[116, 119, 105, 99, 101]⟩, .string ⟨#[110, 111, 110, 101]⟩, .string ⟨#[117, 115, 101, 108, 101, 115, 115]⟩, .string ⟨#[99, 108, 97, 115, 104]⟩] 9)).cell? ⟨w2.heap.size + 1, 8, none⟩ = some (.string ⟨#[117, 115, 101, 108, 101, 115, 115]⟩) := cell_fresh2 rfl
  have k9 : ((w2.alloc (.cells #[.string ⟨q.1.toArray⟩, .string ⟨q.2.1.toArray⟩, .int .i64 (q.2.2.1 : Int), .string ⟨q.2.2.2.toArray⟩] 49)).alloc (.cells #[.string ⟨#[]⟩, .string ⟨#[108, 111, 110, 103]⟩, .string ⟨#[101, 109, 112, 116, 121]⟩, .string ⟨#[109, 97, 110, 121]⟩, .string ⟨#[115, 121, 110, 116, 97, 120]⟩, .string ⟨#[100, 101, 101, 112]⟩, .string ⟨#[116, 119, 105, 99, 101]⟩, .string ⟨#[110, 111, 110, 101]⟩, .string ⟨#[117, 115, 101, 108, 101, 115, 115]⟩, .string ⟨#[99, 108, 97, 115, 104]⟩] 9)).cell? ⟨w2.heap.size + 1, 9, none⟩ = some (.string ⟨#[99, 108, 97, 115, 104]⟩) := cell_fresh2 rfl
  have d0 : ((w2.alloc (.cells #[.string ⟨q.1.toArray⟩, .string ⟨q.2.1.toArray⟩, .int .i64 (q.2.2.1 : Int), .string ⟨q.2.2.2.toArray⟩] 49)).alloc (.cells #[.string ⟨#[]⟩, .string ⟨#[108, 111, 110, 103]⟩, .string ⟨#[101, 109, 112, 116, 121]⟩, .string ⟨#[109, 97, 110, 121]⟩, .string ⟨#[115, 121, 110, 116, 97, 120]⟩, .string ⟨#[100, 101, 101, 112]⟩, .string ⟨#[116, 119, 105, 99, 101]⟩, .string ⟨#[110, 111, 110, 101]⟩, .string ⟨#[117, 115, 101, 108, 101, 115, 115]⟩, .string ⟨#[99, 108, 97, 115, 104]⟩] 9)).cell? ⟨w2.heap.size, 0, none⟩ = some (.string ⟨q.1.toArray⟩) := past_fresh rfl
  have d1 : ((w2.alloc (.cells #[.string ⟨q.1.toArray⟩, .string ⟨q.2.1.toArray⟩, .int .i64 (q.2.2.1 : Int), .string ⟨q.2.2.2.toArray⟩] 49)).alloc (.cells #[.string ⟨#[]⟩, .string ⟨#[108, 111, 110, 103]⟩, .string ⟨#[101, 109, 112, 116, 121]⟩, .string ⟨#[109, 97, 110, 121]⟩, .string ⟨#[115, 121, 110, 116, 97, 120]⟩, .string ⟨#[100, 101, 101, 112]⟩, .string ⟨#[116, 119, 105, 99, 101]⟩, .string ⟨#[110, 111, 110, 101]⟩, .string ⟨#[117, 115, 101, 108, 101, 115, 115]⟩, .string ⟨#[99, 108, 97, 115, 104]⟩] 9)).cell? ⟨w2.heap.size, 1, none⟩ = some (.string ⟨q.2.1.toArray⟩) := past_fresh rfl
  have d2 : ((w2.alloc (.cells #[.string ⟨q.1.toArray⟩, .string ⟨q.2.1.toArray⟩, .int .i64 (q.2.2.1 : Int), .string ⟨q.2.2.2.toArray⟩] 49)).alloc (.cells #[.string ⟨#[]⟩, .string ⟨#[108, 111, 110, 103]⟩, .string ⟨#[101, 109, 112, 116, 121]⟩, .string ⟨#[109, 97, 110, 121]⟩, .string ⟨#[115, 121, 110, 116, 97, 120]⟩, .string ⟨#[100, 101, 101, 112]⟩, .string ⟨#[116, 119, 105, 99, 101]⟩, .string ⟨#[110, 111, 110, 101]⟩, .string ⟨#[117, 115, 101, 108, 101, 115, 115]⟩, .string ⟨#[99, 108, 97, 115, 104]⟩] 9)).cell? ⟨w2.heap.size, 2, none⟩ = some (.int .i64 (q.2.2.1 : Int)) := past_fresh rfl
  have d3 : ((w2.alloc (.cells #[.string ⟨q.1.toArray⟩, .string ⟨q.2.1.toArray⟩, .int .i64 (q.2.2.1 : Int), .string ⟨q.2.2.2.toArray⟩] 49)).alloc (.cells #[.string ⟨#[]⟩, .string ⟨#[108, 111, 110, 103]⟩, .string ⟨#[101, 109, 112, 116, 121]⟩, .string ⟨#[109, 97, 110, 121]⟩, .string ⟨#[115, 121, 110, 116, 97, 120]⟩, .string ⟨#[100, 101, 101, 112]⟩, .string ⟨#[116, 119, 105, 99, 101]⟩, .string ⟨#[110, 111, 110, 101]⟩, .string ⟨#[117, 115, 101, 108, 101, 115, 115]⟩, .string ⟨#[99, 108, 97, 115, 104]⟩] 9)).cell? ⟨w2.heap.size, 3, none⟩ = some (.string ⟨q.2.2.2.toArray⟩) := past_fresh rfl
  generalize ((w2.alloc (.cells #[.string ⟨q.1.toArray⟩, .string ⟨q.2.1.toArray⟩, .int .i64 (q.2.2.1 : Int), .string ⟨q.2.2.2.toArray⟩] 49)).alloc (.cells #[.string ⟨#[]⟩, .string ⟨#[108, 111, 110, 103]⟩, .string ⟨#[101, 109, 112, 116, 121]⟩, .string ⟨#[109, 97, 110, 121]⟩, .string ⟨#[115, 121, 110, 116, 97, 120]⟩, .string ⟨#[100, 101, 101, 112]⟩, .string ⟨#[116, 119, 105, 99, 101]⟩, .string ⟨#[110, 111, 110, 101]⟩, .string ⟨#[117, 115, 101, 108, 101, 115, 115]⟩, .string ⟨#[99, 108, 97, 115, 104]⟩] 9)) = W at hB3 k0 k1 k2 k3 k4 k5 k6 k7 k8 k9 d0 d1 d2 d3 ⊢
  obtain ⟨src, what, at', s⟩ := q
  simp only [] at o1 o2 o3 o4 o5 d0 d1 d2 d3 c0 c1 c2 c3 ⊢
  have hsz : src.length ≤ 1000 := by
    have := List.all_eq_true.1 faults_short _ (List.mem_of_getElem? HQ.out)
    simpa using this
  have O1 := PredP.hide o1
  have O2 := PredP.hide o2
  have O3 := PredP.hide o3
  have O4 := PredP.hide o4
  have hmem : what ∈ whatWords := by
    obtain ⟨x, hx, he⟩ := List.findIdx_lt_length.1 (show whatWords.findIdx (· == what) < whatWords.length from o5)
    rw [beq_iff_eq] at he
    rw [← he]; exact hx
  clear o1 o2 o3 o4 o5 c0 c1 c2 c3 HQ
  simp only [whatWords, List.mem_cons, List.not_mem_nil, or_false] at hmem
  have hB4 : Below w.heap.size w W := Below.all hb1 hB3
  have HPC : Hid (∀ W, Below w.heap.size w W → Calls Tryz.prog 19 #[.string ⟨src.toArray⟩] W (PCPost W (PredP.compile src))) := PredP.hide fun W hW => by
    have := pCompile_any ⟨src.toArray⟩ (by show src.toArray.size ≤ maxLen; unfold maxLen; simp; omega) W ((hW.cell (World.block_lt_of_cell? _ _ hg)).trans hg) bl be bm (hS.below hW)
    rw [show PredP.bs ⟨src.toArray⟩ = src by simp [PredP.bs]] at this
    exact this
  clear hg hS hsz
  refine wp_loop_rounds 11 ?_
  rcases hmem with rfl | rfl | rfl | rfl | rfl | rfl | rfl | rfl | rfl | rfl
  · rw [rounds_succ]
    go_wp2_with fail
    rw [rounds_succ]
    go_wp2_with fail
    rw [rounds_succ]
    go_wp2_with fail
    rw [rounds_succ]
    go_wp2_with fail
    rw [rounds_succ]
    go_wp2_with fail
    rw [rounds_succ]
    go_wp2_with fail
    rw [rounds_succ]
    go_wp2_with fail
    rw [rounds_succ]
    go_wp2_with fail
    rw [rounds_succ]
    go_wp2_with fail
    rw [rounds_succ]
    go_wp2_with fail
    rw [rounds_succ]
    go_wp2_with fail
    refine (HPC.out _ hB4).mono ?_
    rintro e5 w5 hpost
    obtain ⟨hb5, b0, rfl⟩ := pc_true hpost (by have h : (!isOk (PredP.compile src)) = false := O1.out.trans rfl; simpa using h) (i := 0) (by rw [O2.out]; decide) O3.out O4.out
    clear k0 k1 k2 k3 k4 k5 k6 k7 k8 k9
    have hB5 : Below w5.heap.size w5 (w5.alloc (.cells #[.int .i64 0, .int .i64 (at' : Int), .string ⟨s.toArray⟩, .slice none 0 0] 41)) := (Below.refl _ _).alloc (Nat.le_refl _) _
    have hB6 := Below.all hb5 hB5
    have m1 := (hB6.cell (p := ⟨w2.heap.size, 1, none⟩) (World.block_lt_of_cell? _ _ d1)).trans d1
    have m2 := (hB6.cell (p := ⟨w2.heap.size, 2, none⟩) (World.block_lt_of_cell? _ _ d2)).trans d2
    have m3 := (hB6.cell (p := ⟨w2.heap.size, 3, none⟩) (World.block_lt_of_cell? _ _ d3)).trans d3
    clear hB6
    go_wp2_with fail
    go_ret
    exact ⟨rfl, Below.all hB4 (Below.all hb5 hB5)⟩
  · rw [rounds_succ]
    go_wp2_with fail
    rw [rounds_succ]
    go_wp2_with fail
    rw [rounds_succ]
    go_wp2_with fail
    rw [rounds_succ]
    go_wp2_with fail
    rw [rounds_succ]
    go_wp2_with fail
    rw [rounds_succ]
    go_wp2_with fail
    rw [rounds_succ]
    go_wp2_with fail
    rw [rounds_succ]
    go_wp2_with fail
    rw [rounds_succ]
    go_wp2_with fail
    rw [rounds_succ]
    go_wp2_with fail
    rw [rounds_succ]
    go_wp2_with fail
    refine (HPC.out _ hB4).mono ?_
    rintro e5 w5 hpost
    obtain ⟨hb5, rfl⟩ := pc_false hpost (by have h : (!isOk (PredP.compile src)) = true := O1.out.trans rfl; simpa using h) (i := 1) (by rw [O2.out]; decide) O3.out O4.out
    clear k0 k1 k2 k3 k4 k5 k6 k7 k8 k9
    have hB5 : Below w5.heap.size w5 (w5.alloc (.cells #[.int .i64 1, .int .i64 (at' : Int), .string ⟨s.toArray⟩, .slice none 0 0] 41)) := (Below.refl _ _).alloc (Nat.le_refl _) _
    have hB6 := Below.all hb5 hB5
    have m1 := (hB6.cell (p := ⟨w2.heap.size, 1, none⟩) (World.block_lt_of_cell? _ _ d1)).trans d1
    have m2 := (hB6.cell (p := ⟨w2.heap.size, 2, none⟩) (World.block_lt_of_cell? _ _ d2)).trans d2
    have m3 := (hB6.cell (p := ⟨w2.heap.size, 3, none⟩) (World.block_lt_of_cell? _ _ d3)).trans d3
    clear hB6
    go_wp2_with fail
    go_ret
    exact ⟨rfl, Below.all hB4 (Below.all hb5 hB5)⟩
  · rw [rounds_succ]
    go_wp2_with fail
    rw [rounds_succ]
    go_wp2_with fail
    rw [rounds_succ]
    go_wp2_with fail
    rw [rounds_succ]
    go_wp2_with fail
    rw [rounds_succ]
    go_wp2_with fail
    rw [rounds_succ]
    go_wp2_with fail
    rw [rounds_succ]
    go_wp2_with fail
    rw [rounds_succ]
    go_wp2_with fail
    rw [rounds_succ]
    go_wp2_with fail
    rw [rounds_succ]
    go_wp2_with fail
    rw [rounds_succ]
    go_wp2_with fail
    refine (HPC.out _ hB4).mono ?_
    rintro e5 w5 hpost
    obtain ⟨hb5, rfl⟩ := pc_false hpost (by have h : (!isOk (PredP.compile src)) = true := O1.out.trans rfl; simpa using h) (i := 2) (by rw [O2.out]; decide) O3.out O4.out
    clear k0 k1 k2 k3 k4 k5 k6 k7 k8 k9
    have hB5 : Below w5.heap.size w5 (w5.alloc (.cells #[.int .i64 2, .int .i64 (at' : Int), .string ⟨s.toArray⟩, .slice none 0 0] 41)) := (Below.refl _ _).alloc (Nat.le_refl _) _
    have hB6 := Below.all hb5 hB5
    have m1 := (hB6.cell (p := ⟨w2.heap.size, 1, none⟩) (World.block_lt_of_cell? _ _ d1)).trans d1
    have m2 := (hB6.cell (p := ⟨w2.heap.size, 2, none⟩) (World.block_lt_of_cell? _ _ d2)).trans d2
    have m3 := (hB6.cell (p := ⟨w2.heap.size, 3, none⟩) (World.block_lt_of_cell? _ _ d3)).trans d3
    clear hB6
    go_wp2_with fail
    go_ret
    exact ⟨rfl, Below.all hB4 (Below.all hb5 hB5)⟩
  · rw [rounds_succ]
    go_wp2_with fail
    rw [rounds_succ]
    go_wp2_with fail
    rw [rounds_succ]
    go_wp2_with fail
    rw [rounds_succ]
    go_wp2_with fail
    rw [rounds_succ]
    go_wp2_with fail
    rw [rounds_succ]
    go_wp2_with fail
    rw [rounds_succ]
    go_wp2_with fail
    rw [rounds_succ]
    go_wp2_with fail
    rw [rounds_succ]
    go_wp2_with fail
    rw [rounds_succ]
    go_wp2_with fail
    rw [rounds_succ]
    go_wp2_with fail
    refine (HPC.out _ hB4).mono ?_
    rintro e5 w5 hpost
    obtain ⟨hb5, rfl⟩ := pc_false hpost (by have h : (!isOk (PredP.compile src)) = true := O1.out.trans rfl; simpa using h) (i := 3) (by rw [O2.out]; decide) O3.out O4.out
    clear k0 k1 k2 k3 k4 k5 k6 k7 k8 k9
    have hB5 : Below w5.heap.size w5 (w5.alloc (.cells #[.int .i64 3, .int .i64 (at' : Int), .string ⟨s.toArray⟩, .slice none 0 0] 41)) := (Below.refl _ _).alloc (Nat.le_refl _) _
    have hB6 := Below.all hb5 hB5
    have m1 := (hB6.cell (p := ⟨w2.heap.size, 1, none⟩) (World.block_lt_of_cell? _ _ d1)).trans d1
    have m2 := (hB6.cell (p := ⟨w2.heap.size, 2, none⟩) (World.block_lt_of_cell? _ _ d2)).trans d2
    have m3 := (hB6.cell (p := ⟨w2.heap.size, 3, none⟩) (World.block_lt_of_cell? _ _ d3)).trans d3
    clear hB6
    go_wp2_with fail
    go_ret
    exact ⟨rfl, Below.all hB4 (Below.all hb5 hB5)⟩
  · rw [rounds_succ]
    go_wp2_with fail
    rw [rounds_succ]
    go_wp2_with fail
    rw [rounds_succ]
    go_wp2_with fail
    rw [rounds_succ]
    go_wp2_with fail
    rw [rounds_succ]
    go_wp2_with fail
    rw [rounds_succ]
    go_wp2_with fail
    rw [rounds_succ]
    go_wp2_with fail
    rw [rounds_succ]
    go_wp2_with fail
    rw [rounds_succ]
    go_wp2_with fail
    rw [rounds_succ]
    go_wp2_with fail
    rw [rounds_succ]
    go_wp2_with fail
    refine (HPC.out _ hB4).mono ?_
    rintro e5 w5 hpost
    obtain ⟨hb5, rfl⟩ := pc_false hpost (by have h : (!isOk (PredP.compile src)) = true := O1.out.trans rfl; simpa using h) (i := 4) (by rw [O2.out]; decide) O3.out O4.out
    clear k0 k1 k2 k3 k4 k5 k6 k7 k8 k9
    have hB5 : Below w5.heap.size w5 (w5.alloc (.cells #[.int .i64 4, .int .i64 (at' : Int), .string ⟨s.toArray⟩, .slice none 0 0] 41)) := (Below.refl _ _).alloc (Nat.le_refl _) _
    have hB6 := Below.all hb5 hB5
    have m1 := (hB6.cell (p := ⟨w2.heap.size, 1, none⟩) (World.block_lt_of_cell? _ _ d1)).trans d1
    have m2 := (hB6.cell (p := ⟨w2.heap.size, 2, none⟩) (World.block_lt_of_cell? _ _ d2)).trans d2
    have m3 := (hB6.cell (p := ⟨w2.heap.size, 3, none⟩) (World.block_lt_of_cell? _ _ d3)).trans d3
    clear hB6
    go_wp2_with fail
    go_ret
    exact ⟨rfl, Below.all hB4 (Below.all hb5 hB5)⟩
  · rw [rounds_succ]
    go_wp2_with fail
    rw [rounds_succ]
    go_wp2_with fail
    rw [rounds_succ]
    go_wp2_with fail
    rw [rounds_succ]
    go_wp2_with fail
    rw [rounds_succ]
    go_wp2_with fail
    rw [rounds_succ]
    go_wp2_with fail
    rw [rounds_succ]
    go_wp2_with fail
    rw [rounds_succ]
    go_wp2_with fail
    rw [rounds_succ]
    go_wp2_with fail
    rw [rounds_succ]
    go_wp2_with fail
    rw [rounds_succ]
    go_wp2_with fail
    refine (HPC.out _ hB4).mono ?_
    rintro e5 w5 hpost
    obtain ⟨hb5, rfl⟩ := pc_false hpost (by have h : (!isOk (PredP.compile src)) = true := O1.out.trans rfl; simpa using h) (i := 5) (by rw [O2.out]; decide) O3.out O4.out
    clear k0 k1 k2 k3 k4 k5 k6 k7 k8 k9
    have hB5 : Below w5.heap.size w5 (w5.alloc (.cells #[.int .i64 5, .int .i64 (at' : Int), .string ⟨s.toArray⟩, .slice none 0 0] 41)) := (Below.refl _ _).alloc (Nat.le_refl _) _
    have hB6 := Below.all hb5 hB5
    have m1 := (hB6.cell (p := ⟨w2.heap.size, 1, none⟩) (World.block_lt_of_cell? _ _ d1)).trans d1
    have m2 := (hB6.cell (p := ⟨w2.heap.size, 2, none⟩) (World.block_lt_of_cell? _ _ d2)).trans d2
    have m3 := (hB6.cell (p := ⟨w2.heap.size, 3, none⟩) (World.block_lt_of_cell? _ _ d3)).trans d3
    clear hB6
    go_wp2_with fail
    go_ret
    exact ⟨rfl, Below.all hB4 (Below.all hb5 hB5)⟩
  · rw [rounds_succ]
    go_wp2_with fail
    rw [rounds_succ]
    go_wp2_with fail
    rw [rounds_succ]
    go_wp2_with fail
    rw [rounds_succ]
    go_wp2_with fail
    rw [rounds_succ]
    go_wp2_with fail
    rw [rounds_succ]
    go_wp2_with fail
    rw [rounds_succ]
    go_wp2_with fail
    rw [rounds_succ]
    go_wp2_with fail
    rw [rounds_succ]
    go_wp2_with fail
    rw [rounds_succ]
    go_wp2_with fail
    rw [rounds_succ]
    go_wp2_with fail
    refine (HPC.out _ hB4).mono ?_
    rintro e5 w5 hpost
    obtain ⟨hb5, rfl⟩ := pc_false hpost (by have h : (!isOk (PredP.compile src)) = true := O1.out.trans rfl; simpa using h) (i := 6) (by rw [O2.out]; decide) O3.out O4.out
    clear k0 k1 k2 k3 k4 k5 k6 k7 k8 k9
    have hB5 : Below w5.heap.size w5 (w5.alloc (.cells #[.int .i64 6, .int .i64 (at' : Int), .string ⟨s.toArray⟩, .slice none 0 0] 41)) := (Below.refl _ _).alloc (Nat.le_refl _) _
    have hB6 := Below.all hb5 hB5
    have m1 := (hB6.cell (p := ⟨w2.heap.size, 1, none⟩) (World.block_lt_of_cell? _ _ d1)).trans d1
    have m2 := (hB6.cell (p := ⟨w2.heap.size, 2, none⟩) (World.block_lt_of_cell? _ _ d2)).trans d2
    have m3 := (hB6.cell (p := ⟨w2.heap.size, 3, none⟩) (World.block_lt_of_cell? _ _ d3)).trans d3
    clear hB6
    go_wp2_with fail
    go_ret
    exact ⟨rfl, Below.all hB4 (Below.all hb5 hB5)⟩
  · rw [rounds_succ]
    go_wp2_with fail
    rw [rounds_succ]
    go_wp2_with fail
    rw [rounds_succ]
    go_wp2_with fail
    rw [rounds_succ]
    go_wp2_with fail
    rw [rounds_succ]
    go_wp2_with fail
    rw [rounds_succ]
    go_wp2_with fail
    rw [rounds_succ]
    go_wp2_with fail
    rw [rounds_succ]
    go_wp2_with fail
    rw [rounds_succ]
    go_wp2_with fail
    rw [rounds_succ]
    go_wp2_with fail
    rw [rounds_succ]
    go_wp2_with fail
    refine (HPC.out _ hB4).mono ?_
    rintro e5 w5 hpost
    obtain ⟨hb5, rfl⟩ := pc_false hpost (by have h : (!isOk (PredP.compile src)) = true := O1.out.trans rfl; simpa using h) (i := 7) (by rw [O2.out]; decide) O3.out O4.out
    clear k0 k1 k2 k3 k4 k5 k6 k7 k8 k9
    have hB5 : Below w5.heap.size w5 (w5.alloc (.cells #[.int .i64 7, .int .i64 (at' : Int), .string ⟨s.toArray⟩, .slice none 0 0] 41)) := (Below.refl _ _).alloc (Nat.le_refl _) _
    have hB6 := Below.all hb5 hB5
    have m1 := (hB6.cell (p := ⟨w2.heap.size, 1, none⟩) (World.block_lt_of_cell? _ _ d1)).trans d1
    have m2 := (hB6.cell (p := ⟨w2.heap.size, 2, none⟩) (World.block_lt_of_cell? _ _ d2)).trans d2
    have m3 := (hB6.cell (p := ⟨w2.heap.size, 3, none⟩) (World.block_lt_of_cell? _ _ d3)).trans d3
    clear hB6
    go_wp2_with fail
    go_ret
    exact ⟨rfl, Below.all hB4 (Below.all hb5 hB5)⟩
  · rw [rounds_succ]
    go_wp2_with fail
    rw [rounds_succ]
    go_wp2_with fail
    rw [rounds_succ]
    go_wp2_with fail
    rw [rounds_succ]
    go_wp2_with fail
    rw [rounds_succ]
    go_wp2_with fail
    rw [rounds_succ]
    go_wp2_with fail
    rw [rounds_succ]
    go_wp2_with fail
    rw [rounds_succ]
    go_wp2_with fail
    rw [rounds_succ]
    go_wp2_with fail
    rw [rounds_succ]
    go_wp2_with fail
    rw [rounds_succ]
    go_wp2_with fail
    refine (HPC.out _ hB4).mono ?_
    rintro e5 w5 hpost
    obtain ⟨hb5, rfl⟩ := pc_false hpost (by have h : (!isOk (PredP.compile src)) = true := O1.out.trans rfl; simpa using h) (i := 8) (by rw [O2.out]; decide) O3.out O4.out
    clear k0 k1 k2 k3 k4 k5 k6 k7 k8 k9
    have hB5 : Below w5.heap.size w5 (w5.alloc (.cells #[.int .i64 8, .int .i64 (at' : Int), .string ⟨s.toArray⟩, .slice none 0 0] 41)) := (Below.refl _ _).alloc (Nat.le_refl _) _
    have hB6 := Below.all hb5 hB5
    have m1 := (hB6.cell (p := ⟨w2.heap.size, 1, none⟩) (World.block_lt_of_cell? _ _ d1)).trans d1
    have m2 := (hB6.cell (p := ⟨w2.heap.size, 2, none⟩) (World.block_lt_of_cell? _ _ d2)).trans d2
    have m3 := (hB6.cell (p := ⟨w2.heap.size, 3, none⟩) (World.block_lt_of_cell? _ _ d3)).trans d3
    clear hB6
    go_wp2_with fail
    go_ret
    exact ⟨rfl, Below.all hB4 (Below.all hb5 hB5)⟩
  · rw [rounds_succ]
    go_wp2_with fail
    rw [rounds_succ]
    go_wp2_with fail
    rw [rounds_succ]
    go_wp2_with fail
    rw [rounds_succ]
    go_wp2_with fail
    rw [rounds_succ]
    go_wp2_with fail
    rw [rounds_succ]
    go_wp2_with fail
    rw [rounds_succ]
    go_wp2_with fail
    rw [rounds_succ]
    go_wp2_with fail
    rw [rounds_succ]
    go_wp2_with fail
    rw [rounds_succ]
    go_wp2_with fail
    rw [rounds_succ]
    go_wp2_with fail
    refine (HPC.out _ hB4).mono ?_
    rintro e5 w5 hpost
    obtain ⟨hb5, rfl⟩ := pc_false hpost (by have h : (!isOk (PredP.compile src)) = true := O1.out.trans rfl; simpa using h) (i := 9) (by rw [O2.out]; decide) O3.out O4.out
    clear k0 k1 k2 k3 k4 k5 k6 k7 k8 k9
    have hB5 : Below w5.heap.size w5 (w5.alloc (.cells #[.int .i64 9, .int .i64 (at' : Int), .string ⟨s.toArray⟩, .slice none 0 0] 41)) := (Below.refl _ _).alloc (Nat.le_refl _) _
    have hB6 := Below.all hb5 hB5
    have m1 := (hB6.cell (p := ⟨w2.heap.size, 1, none⟩) (World.block_lt_of_cell? _ _ d1)).trans d1
    have m2 := (hB6.cell (p := ⟨w2.heap.size, 2, none⟩) (World.block_lt_of_cell? _ _ d2)).trans d2
    have m3 := (hB6.cell (p := ⟨w2.heap.size, 3, none⟩) (World.block_lt_of_cell? _ _ d3)).trans d3
    clear hB6
    go_wp2_with fail
    go_ret
    exact ⟨rfl, Below.all hB4 (Below.all hb5 hB5)⟩

end Go.Proofs.YtpcmemcanpgadaaGreatDoor
