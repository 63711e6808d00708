/-
  predictkeep.faults: the texts. (By program: gen_fts.py.)
-/
import Derived.Test.YtpcmemcanpgadaaGreatDoorComp
import Derived.Test.YtpcmemcanpgadaaGreatDoorPureE
import Derived.Laws.IdiomStrings
import Derived.Deep.Cut
namespace Go.Proofs.YtpcmemcanpgadaaGreatDoor
open Go.RowKit Go.Maps

theorem bs_append (a b : ByteArray) : PredP.bs (a ++ b) = PredP.bs a ++ PredP.bs b := by
  simp [PredP.bs]
theorem bs_eq {a : ByteArray} {l : PredP.Str} (h : PredP.bs a = l) : a = ⟨l.toArray⟩ := by
  subst h
  cases a
  simp [PredP.bs]
def longL (k : Nat) : PredP.Str := [115, 32, 61, 32, 34, 120, 34, 32, 46] ++ List.replicate k 32
def manyA : Nat → PredP.Str
  | 0 => [115, 32, 61, 32]
  | k + 1 => manyA k ++ [114, UInt8.ofNat (98 + k), 32]
def manyB : Nat → PredP.Str
  | 0 => manyA 11 ++ [46]
  | k + 1 => manyB k ++ [32, 114, UInt8.ofNat (98 + k), 32, 61, 32, 34, UInt8.ofNat (98 + k), 34, 32, 46]
def deepL : Nat → PredP.Str
  | 0 => [115, 32, 61, 32]
  | k + 1 => deepL k ++ [([40, 91, 123] : PredP.Str).getD (k % 3) 0]
def closedL : Nat → PredP.Str
  | 0 => []
  | k + 1 => ([41, 93, 125] : PredP.Str).getD (k % 3) 0 :: closedL k
/-- the texts, what is told of them, where, and the name or word -/
def faultTab : List (PredP.Str × PredP.Str × Nat × PredP.Str) := [
  (longL 391, [], 0, []),
  (longL 391 ++ [32], [108, 111, 110, 103], 0, []),
  ([], [101, 109, 112, 116, 121], 0, []),
  ([32, 10], [101, 109, 112, 116, 121], 0, []),
  (manyB 11, [], 0, []),
  (manyB 11 ++ [32, 122, 32, 61, 32, 46], [109, 97, 110, 121], 0, []),
  ([115], [115, 121, 110, 116, 97, 120], 1, []),
  ([115, 32, 61], [115, 121, 110, 116, 97, 120], 3, []),
  ([115, 32, 61, 32, 34, 120, 34], [115, 121, 110, 116, 97, 120], 7, []),
  ([61, 32, 34, 120, 34, 32, 46], [115, 121, 110, 116, 97, 120], 0, []),
  ([115, 32, 61, 32, 115, 32, 115], [115, 121, 110, 116, 97, 120], 7, []),
  ([83, 32, 61, 32, 46], [115, 121, 110, 116, 97, 120], 0, []),
  ([97, 98, 99, 100, 101, 102, 103, 104, 105, 32, 61, 32, 46], [115, 121, 110, 116, 97, 120], 0, []),
  ([97, 98, 99, 100, 101, 102, 103, 104, 32, 61, 32, 46], [], 0, []),
  ([115, 32, 61, 32, 34, 34, 32, 46], [115, 121, 110, 116, 97, 120], 4, []),
  ([115, 32, 61, 32, 34, 97, 32, 98, 34, 32, 46], [115, 121, 110, 116, 97, 120], 4, []),
  ([115, 32, 61, 32, 34, 97, 98, 99, 100, 101, 102, 103, 104, 105, 34, 32, 46], [115, 121, 110, 116, 97, 120], 4, []),
  ([115, 32, 61, 32, 34, 97, 98, 99, 10, 34, 32, 46], [115, 121, 110, 116, 97, 120], 4, []),
  ([115, 32, 61, 32, 34, 97], [115, 121, 110, 116, 97, 120], 4, []),
  ([115, 32, 61, 32, 34, 97, 92, 34, 32, 46], [], 0, []),
  ([115, 32, 61, 32, 40, 32, 34, 97, 34, 32, 93, 32, 46], [115, 121, 110, 116, 97, 120], 10, []),
  ([115, 32, 61, 32, 91, 32, 34, 97, 34, 32, 46], [115, 121, 110, 116, 97, 120], 10, []),
  ([115, 32, 61, 32, 34, 97, 34, 32, 125, 32, 46], [115, 121, 110, 116, 97, 120], 8, []),
  ([115, 32, 61, 32, 34, 97, 34, 32, 46, 32, 46], [115, 121, 110, 116, 97, 120], 10, []),
  ([115, 32, 61, 32, 34, 97, 34, 32, 61, 32, 46], [115, 121, 110, 116, 97, 120], 8, []),
  ([115, 32, 61, 32, 34, 128, 34, 32, 46], [115, 121, 110, 116, 97, 120], 4, []),
  ([115, 9, 61, 32, 46], [115, 121, 110, 116, 97, 120], 1, []),
  ([115, 32, 61, 32, 46, 116, 32, 61, 32, 46], [117, 115, 101, 108, 101, 115, 115], 5, [116]),
  (deepL 10 ++ [34, 97, 34] ++ closedL 10 ++ [32, 46], [99, 108, 97, 115, 104], 5, []),
  (deepL 10 ++ [40], [100, 101, 101, 112], 14, []),
  (deepL 10 ++ [91, 34, 97, 34, 93], [100, 101, 101, 112], 14, []),
  ([115, 32, 61, 32, 46, 32, 115, 32, 61, 32, 46], [116, 119, 105, 99, 101], 6, [115]),
  ([115, 32, 61, 32, 116, 32, 46, 32, 116, 32, 61, 32, 46, 32, 116, 32, 61, 32, 120, 32, 46], [116, 119, 105, 99, 101], 14, [116]),
  ([115, 32, 61, 32, 116, 32, 46], [110, 111, 110, 101], 4, [116]),
  ([115, 32, 61, 32, 40, 32, 34, 97, 34, 32, 124, 32, 91, 32, 117, 32, 93, 32, 41, 32, 46], [110, 111, 110, 101], 14, [117]),
  ([115, 32, 61, 32, 115, 32, 46], [117, 115, 101, 108, 101, 115, 115], 0, [115]),
  ([115, 32, 61, 32, 34, 97, 34, 32, 46, 32, 116, 32, 61, 32, 34, 98, 34, 32, 46], [117, 115, 101, 108, 101, 115, 115], 10, [116]),
  ([115, 32, 61, 32, 116, 32, 46, 32, 116, 32, 61, 32, 34, 97, 34, 32, 116, 32, 46], [117, 115, 101, 108, 101, 115, 115], 0, [115]),
  ([115, 32, 61, 32, 91, 32, 116, 32, 93, 32, 46, 32, 116, 32, 61, 32, 116, 32, 46], [117, 115, 101, 108, 101, 115, 115], 12, [116]),
  ([115, 32, 61, 32, 34, 97, 34, 32, 46, 32, 116, 32, 61, 32, 117, 32, 46, 32, 117, 32, 61, 32, 116, 32, 46], [117, 115, 101, 108, 101, 115, 115], 10, [116]),
  ([115, 32, 61, 32, 123, 32, 116, 32, 125, 32, 34, 97, 34, 32, 46, 32, 116, 32, 61, 32, 117, 32, 46, 32, 117, 32, 61, 32, 34, 98, 34, 32, 46], [], 0, []),
  ([115, 32, 61, 32, 34, 97, 34, 32, 124, 32, 34, 97, 34, 32, 46], [99, 108, 97, 115, 104], 8, [97]),
  ([115, 32, 61, 32, 34, 97, 34, 32, 124, 32, 34, 98, 34, 32, 124, 32, 34, 98, 34, 32, 124, 32, 34, 97, 34, 32, 46], [99, 108, 97, 115, 104], 14, [98]),
  ([115, 32, 61, 32, 34, 98, 34, 32, 124, 32, 34, 97, 34, 32, 124, 32, 40, 32, 34, 98, 34, 32, 124, 32, 34, 97, 34, 32, 41, 32, 46], [99, 108, 97, 115, 104], 14, [97]),
  ([115, 32, 61, 32, 91, 32, 34, 97, 34, 32, 93, 32, 34, 97, 34, 32, 46], [99, 108, 97, 115, 104], 4, [97]),
  ([115, 32, 61, 32, 123, 32, 34, 97, 34, 32, 125, 32, 34, 97, 34, 32, 46], [99, 108, 97, 115, 104], 4, [97]),
  ([115, 32, 61, 32, 91, 32, 34, 97, 34, 32, 93, 32, 34, 98, 34, 32, 46], [], 0, []),
  ([115, 32, 61, 32, 91, 32, 91, 32, 34, 97, 34, 32, 93, 32, 93, 32, 46], [99, 108, 97, 115, 104], 4, []),
  ([115, 32, 61, 32, 123, 32, 123, 32, 34, 97, 34, 32, 125, 32, 125, 32, 46], [99, 108, 97, 115, 104], 4, []),
  ([115, 32, 61, 32, 124, 32, 46], [99, 108, 97, 115, 104], 4, []),
  ([115, 32, 61, 32, 34, 97, 34, 32, 124, 32, 46], [], 0, []),
  ([115, 32, 61, 32, 91, 32, 93, 32, 46], [99, 108, 97, 115, 104], 4, []),
  ([115, 32, 61, 32, 115, 32, 34, 97, 34, 32, 124, 32, 34, 98, 34, 32, 46], [99, 108, 97, 115, 104], 10, [98]),
  ([115, 32, 61, 32, 91, 32, 115, 32, 93, 32, 34, 97, 34, 32, 46], [99, 108, 97, 115, 104], 4, [97]),
  ([115, 32, 61, 32, 116, 32, 115, 32, 34, 97, 34, 32, 124, 32, 34, 98, 34, 32, 46, 32, 116, 32, 61, 32, 46], [99, 108, 97, 115, 104], 12, [98]),
  ([115, 32, 61, 32, 116, 32, 34, 97, 34, 32, 46, 32, 116, 32, 61, 32, 91, 32, 34, 97, 34, 32, 93, 32, 46], [99, 108, 97, 115, 104], 16, [97]),
  ([115, 32, 61, 32, 116, 32, 34, 97, 34, 32, 46, 32, 116, 32, 61, 32, 34, 98, 34, 32, 124, 32, 46], [], 0, []),
  ([115, 32, 61, 32, 116, 32, 34, 98, 34, 32, 46, 32, 116, 32, 61, 32, 34, 98, 34, 32, 124, 32, 46], [99, 108, 97, 115, 104], 20, [98]),
  ([115, 32, 61, 32, 123, 32, 116, 32, 125, 32, 46, 32, 116, 32, 61, 32, 34, 97, 34, 32, 91, 32, 34, 98, 34, 32, 93, 32, 46], [], 0, []),
  ([115, 32, 61, 32, 123, 32, 116, 32, 125, 32, 46, 32, 116, 32, 61, 32, 34, 97, 34, 32, 91, 32, 34, 97, 34, 32, 93, 32, 46], [99, 108, 97, 115, 104], 20, [97]),
  ([115, 32, 61, 32, 34, 105, 102, 34, 32, 115, 32, 91, 32, 34, 101, 108, 115, 101, 34, 32, 115, 32, 93, 32, 124, 32, 34, 120, 34, 32, 46], [99, 108, 97, 115, 104], 11, [101, 108, 115, 101])]
def faultCells (t : List (PredP.Str × PredP.Str × Nat × PredP.Str)) : List Value := t.flatMap fun q => [.string ⟨q.1.toArray⟩, .string ⟨q.2.1.toArray⟩, .int .i64 (q.2.2.1 : Int), .string ⟨q.2.2.2.toArray⟩]
theorem conv_one (w : World) (b : UInt8) : (convert 72 9 (.slice (some ⟨w.heap.size, 0, none⟩) 1 1)).run Tryz.prog (w.alloc (.cells #[.int .u8 (b.toNat : Int)] 5)) = .ok (.string ⟨#[b]⟩) (w.alloc (.cells #[.int .u8 (b.toNat : Int)] 5)) :=
  run_convert_bytes_back (P := Tryz.prog) (w.alloc (.cells #[.int .u8 (b.toNat : Int)] 5)) 72 9 5 ⟨w.heap.size, 0, none⟩ 1 [b] (by kernel_rfl) (by kernel_rfl) undStr (fun j hj => cell_one_new w _ _ j _ (by
    have h0 : j = 0 := by simpa using hj
    subst h0; rfl))

set_option maxRecDepth 100000 in
set_option maxHeartbeats 2000000 in
theorem faults_any (w : World) : Calls Tryz.prog 17 #[] w fun e w' => ∃ g, e = .returned (.slice (some ⟨g, 0, none⟩) 61 61) ∧ w.heap.size ≤ g ∧ w'.heap[g]? = some (.cells (faultCells faultTab).toArray 49 (0, 0)) ∧ Below w.heap.size w w' := by
  go_enter Tryz.func17, Tryz.ntmps17
  go_wp2_with fail
  go_loopw [1] (fun t wr => ∃ x : ByteArray, ∃ k : Nat, t = .string x ∧ x.size = 9 + k ∧ k ≤ 391 ∧ PredP.bs x = longL k ∧ Below w.heap.size w wr) (fun t _ => 400 - (match t with | .string x => x.size | _ => 0))
  case atStart => exact ⟨_, 0, rfl, rfl, by omega, rfl, Below.refl _ _⟩
  case round =>
    obtain ⟨x, k, rfl, hx, hk, hb, hlow⟩ := hrel
    have HB := PredP.hide hb
    clear hb
    have hx' : (x.size : Int) = 9 + (k : Int) := by omega
    by_cases hlt : k < 391
    · have h1 : (9 + (k : Int)) < 400 := by omega
      have h3 : x.size + 1 ≤ 9223372036854775807 := by omega
      go_wp2_with fail
      refine ⟨⟨_, k + 1, rfl, by rw [ByteArray.size_append, hx]; rfl, by omega, ?_, hlow⟩, ?_⟩
      · rw [bs_append, HB.out]
        unfold longL
        rw [List.append_assoc, List.replicate_succ']
        rfl
      · show 400 - (x ++ ⟨#[32]⟩).size < 400 - x.size
        rw [ByteArray.size_append]
        show 400 - (x.size + 1) < 400 - x.size
        omega
    · have h1 : ¬ (9 + (k : Int)) < 400 := by omega
      go_wp2_with fail
      have ek : k = 391 := by omega
      subst ek
      clear h1 hlt hk hx'
      have hx4 : x.size = 400 := hx
      clear hx
      have HX := PredP.hide hx4
      clear hx4
      go_loopw [2, 3] (fun t i wr2 => ∃ y : ByteArray, ∃ k : Nat, t = .string y ∧ i = .int .i64 ((k + 1 : Nat) : Int) ∧ k ≤ 11 ∧ y.size = 4 + 3 * k ∧ PredP.bs y = manyA k ∧ Below w.heap.size w wr2) (fun _ i _ => 12 - (intOf i).toNat)
      case atStart => exact ⟨_, 0, rfl, rfl, by omega, rfl, rfl, hlow⟩
      case round =>
        clear hlow
        obtain ⟨y, k, rfl, rfl, hk, hy, hb, hlow⟩ := hrel
        have HY := PredP.hide hb
        clear hb
        have h2 : y.size ≤ 37 := by omega
        by_cases hlt : k < 11
        · have hkk : k = 0 ∨ k = 1 ∨ k = 2 ∨ k = 3 ∨ k = 4 ∨ k = 5 ∨ k = 6 ∨ k = 7 ∨ k = 8 ∨ k = 9 ∨ k = 10 := by omega
          have h3 : y.size + 3 ≤ 9223372036854775807 := by omega
          have hB : ∀ o, Below w.heap.size w (wr.alloc o) := fun o => Below.all hlow ((Below.refl _ _).alloc (Nat.le_refl _) o)
          rcases hkk with rfl | rfl | rfl | rfl | rfl | rfl | rfl | rfl | rfl | rfl | rfl
          · have cv : (convert 72 9 (.slice (some ⟨wr.heap.size, 0, none⟩) 1 1)).run Tryz.prog (wr.alloc (.cells #[.int .u8 98] 5)) = .ok (.string ⟨#[98]⟩) (wr.alloc (.cells #[.int .u8 98] 5)) := conv_one wr 98
            go_wp2_with fail
            refine ⟨⟨_, 1, rfl, rfl, by omega, ?_, ?_, hB _⟩, by simp [intOf]⟩
            · rw [ByteArray.size_append, hy]; rfl
            · rw [bs_append, HY.out]; rfl
          · have cv : (convert 72 9 (.slice (some ⟨wr.heap.size, 0, none⟩) 1 1)).run Tryz.prog (wr.alloc (.cells #[.int .u8 99] 5)) = .ok (.string ⟨#[99]⟩) (wr.alloc (.cells #[.int .u8 99] 5)) := conv_one wr 99
            go_wp2_with fail
            refine ⟨⟨_, 2, rfl, rfl, by omega, ?_, ?_, hB _⟩, by simp [intOf]⟩
            · rw [ByteArray.size_append, hy]; rfl
            · rw [bs_append, HY.out]; rfl
          · have cv : (convert 72 9 (.slice (some ⟨wr.heap.size, 0, none⟩) 1 1)).run Tryz.prog (wr.alloc (.cells #[.int .u8 100] 5)) = .ok (.string ⟨#[100]⟩) (wr.alloc (.cells #[.int .u8 100] 5)) := conv_one wr 100
            go_wp2_with fail
            refine ⟨⟨_, 3, rfl, rfl, by omega, ?_, ?_, hB _⟩, by simp [intOf]⟩
            · rw [ByteArray.size_append, hy]; rfl
            · rw [bs_append, HY.out]; rfl
          · have cv : (convert 72 9 (.slice (some ⟨wr.heap.size, 0, none⟩) 1 1)).run Tryz.prog (wr.alloc (.cells #[.int .u8 101] 5)) = .ok (.string ⟨#[101]⟩) (wr.alloc (.cells #[.int .u8 101] 5)) := conv_one wr 101
            go_wp2_with fail
            refine ⟨⟨_, 4, rfl, rfl, by omega, ?_, ?_, hB _⟩, by simp [intOf]⟩
            · rw [ByteArray.size_append, hy]; rfl
            · rw [bs_append, HY.out]; rfl
          · have cv : (convert 72 9 (.slice (some ⟨wr.heap.size, 0, none⟩) 1 1)).run Tryz.prog (wr.alloc (.cells #[.int .u8 102] 5)) = .ok (.string ⟨#[102]⟩) (wr.alloc (.cells #[.int .u8 102] 5)) := conv_one wr 102
            go_wp2_with fail
            refine ⟨⟨_, 5, rfl, rfl, by omega, ?_, ?_, hB _⟩, by simp [intOf]⟩
            · rw [ByteArray.size_append, hy]; rfl
            · rw [bs_append, HY.out]; rfl
          · have cv : (convert 72 9 (.slice (some ⟨wr.heap.size, 0, none⟩) 1 1)).run Tryz.prog (wr.alloc (.cells #[.int .u8 103] 5)) = .ok (.string ⟨#[103]⟩) (wr.alloc (.cells #[.int .u8 103] 5)) := conv_one wr 103
            go_wp2_with fail
            refine ⟨⟨_, 6, rfl, rfl, by omega, ?_, ?_, hB _⟩, by simp [intOf]⟩
            · rw [ByteArray.size_append, hy]; rfl
            · rw [bs_append, HY.out]; rfl
          · have cv : (convert 72 9 (.slice (some ⟨wr.heap.size, 0, none⟩) 1 1)).run Tryz.prog (wr.alloc (.cells #[.int .u8 104] 5)) = .ok (.string ⟨#[104]⟩) (wr.alloc (.cells #[.int .u8 104] 5)) := conv_one wr 104
            go_wp2_with fail
            refine ⟨⟨_, 7, rfl, rfl, by omega, ?_, ?_, hB _⟩, by simp [intOf]⟩
            · rw [ByteArray.size_append, hy]; rfl
            · rw [bs_append, HY.out]; rfl
          · have cv : (convert 72 9 (.slice (some ⟨wr.heap.size, 0, none⟩) 1 1)).run Tryz.prog (wr.alloc (.cells #[.int .u8 105] 5)) = .ok (.string ⟨#[105]⟩) (wr.alloc (.cells #[.int .u8 105] 5)) := conv_one wr 105
            go_wp2_with fail
            refine ⟨⟨_, 8, rfl, rfl, by omega, ?_, ?_, hB _⟩, by simp [intOf]⟩
            · rw [ByteArray.size_append, hy]; rfl
            · rw [bs_append, HY.out]; rfl
          · have cv : (convert 72 9 (.slice (some ⟨wr.heap.size, 0, none⟩) 1 1)).run Tryz.prog (wr.alloc (.cells #[.int .u8 106] 5)) = .ok (.string ⟨#[106]⟩) (wr.alloc (.cells #[.int .u8 106] 5)) := conv_one wr 106
            go_wp2_with fail
            refine ⟨⟨_, 9, rfl, rfl, by omega, ?_, ?_, hB _⟩, by simp [intOf]⟩
            · rw [ByteArray.size_append, hy]; rfl
            · rw [bs_append, HY.out]; rfl
          · have cv : (convert 72 9 (.slice (some ⟨wr.heap.size, 0, none⟩) 1 1)).run Tryz.prog (wr.alloc (.cells #[.int .u8 107] 5)) = .ok (.string ⟨#[107]⟩) (wr.alloc (.cells #[.int .u8 107] 5)) := conv_one wr 107
            go_wp2_with fail
            refine ⟨⟨_, 10, rfl, rfl, by omega, ?_, ?_, hB _⟩, by simp [intOf]⟩
            · rw [ByteArray.size_append, hy]; rfl
            · rw [bs_append, HY.out]; rfl
          · have cv : (convert 72 9 (.slice (some ⟨wr.heap.size, 0, none⟩) 1 1)).run Tryz.prog (wr.alloc (.cells #[.int .u8 108] 5)) = .ok (.string ⟨#[108]⟩) (wr.alloc (.cells #[.int .u8 108] 5)) := conv_one wr 108
            go_wp2_with fail
            refine ⟨⟨_, 11, rfl, rfl, by omega, ?_, ?_, hB _⟩, by simp [intOf]⟩
            · rw [ByteArray.size_append, hy]; rfl
            · rw [bs_append, HY.out]; rfl
        · have ek : k = 11 := by omega
          subst ek
          go_wp2_with fail
          clear hlt h2 hk
          go_loopw [2, 4] (fun t i wr3 => ∃ z : ByteArray, ∃ k : Nat, t = .string z ∧ i = .int .i64 ((k + 1 : Nat) : Int) ∧ k ≤ 11 ∧ z.size = 38 + 11 * k ∧ PredP.bs z = manyB k ∧ Below w.heap.size w wr3) (fun _ i _ => 12 - (intOf i).toNat)
          case atStart => exact ⟨_, 0, rfl, rfl, by omega, by rw [ByteArray.size_append, hy]; rfl, by rw [bs_append, HY.out]; rfl, hlow⟩
          case round =>
            clear hlow hy HY
            obtain ⟨z, k, rfl, rfl, hk, hz, hb, hlow⟩ := hrel
            have HZ := PredP.hide hb
            clear hb
            by_cases hlt : k < 11
            · have hkk : k = 0 ∨ k = 1 ∨ k = 2 ∨ k = 3 ∨ k = 4 ∨ k = 5 ∨ k = 6 ∨ k = 7 ∨ k = 8 ∨ k = 9 ∨ k = 10 := by omega
              have h3 : z.size + 11 ≤ 9223372036854775807 := by omega
              have hB : ∀ o, Below w.heap.size w (wr.alloc o) := fun o => Below.all hlow ((Below.refl _ _).alloc (Nat.le_refl _) o)
              rcases hkk with rfl | rfl | rfl | rfl | rfl | rfl | rfl | rfl | rfl | rfl | rfl
              · have cv : (convert 72 9 (.slice (some ⟨wr.heap.size, 0, none⟩) 1 1)).run Tryz.prog (wr.alloc (.cells #[.int .u8 98] 5)) = .ok (.string ⟨#[98]⟩) (wr.alloc (.cells #[.int .u8 98] 5)) := conv_one wr 98
                go_wp2_with fail
                refine ⟨⟨_, 1, rfl, rfl, by omega, ?_, ?_, hB _⟩, by simp [intOf]⟩
                · rw [ByteArray.size_append, hz]; rfl
                · rw [bs_append, HZ.out]; rfl
              · have cv : (convert 72 9 (.slice (some ⟨wr.heap.size, 0, none⟩) 1 1)).run Tryz.prog (wr.alloc (.cells #[.int .u8 99] 5)) = .ok (.string ⟨#[99]⟩) (wr.alloc (.cells #[.int .u8 99] 5)) := conv_one wr 99
                go_wp2_with fail
                refine ⟨⟨_, 2, rfl, rfl, by omega, ?_, ?_, hB _⟩, by simp [intOf]⟩
                · rw [ByteArray.size_append, hz]; rfl
                · rw [bs_append, HZ.out]; rfl
              · have cv : (convert 72 9 (.slice (some ⟨wr.heap.size, 0, none⟩) 1 1)).run Tryz.prog (wr.alloc (.cells #[.int .u8 100] 5)) = .ok (.string ⟨#[100]⟩) (wr.alloc (.cells #[.int .u8 100] 5)) := conv_one wr 100
                go_wp2_with fail
                refine ⟨⟨_, 3, rfl, rfl, by omega, ?_, ?_, hB _⟩, by simp [intOf]⟩
                · rw [ByteArray.size_append, hz]; rfl
                · rw [bs_append, HZ.out]; rfl
              · have cv : (convert 72 9 (.slice (some ⟨wr.heap.size, 0, none⟩) 1 1)).run Tryz.prog (wr.alloc (.cells #[.int .u8 101] 5)) = .ok (.string ⟨#[101]⟩) (wr.alloc (.cells #[.int .u8 101] 5)) := conv_one wr 101
                go_wp2_with fail
                refine ⟨⟨_, 4, rfl, rfl, by omega, ?_, ?_, hB _⟩, by simp [intOf]⟩
                · rw [ByteArray.size_append, hz]; rfl
                · rw [bs_append, HZ.out]; rfl
              · have cv : (convert 72 9 (.slice (some ⟨wr.heap.size, 0, none⟩) 1 1)).run Tryz.prog (wr.alloc (.cells #[.int .u8 102] 5)) = .ok (.string ⟨#[102]⟩) (wr.alloc (.cells #[.int .u8 102] 5)) := conv_one wr 102
                go_wp2_with fail
                refine ⟨⟨_, 5, rfl, rfl, by omega, ?_, ?_, hB _⟩, by simp [intOf]⟩
                · rw [ByteArray.size_append, hz]; rfl
                · rw [bs_append, HZ.out]; rfl
              · have cv : (convert 72 9 (.slice (some ⟨wr.heap.size, 0, none⟩) 1 1)).run Tryz.prog (wr.alloc (.cells #[.int .u8 103] 5)) = .ok (.string ⟨#[103]⟩) (wr.alloc (.cells #[.int .u8 103] 5)) := conv_one wr 103
                go_wp2_with fail
                refine ⟨⟨_, 6, rfl, rfl, by omega, ?_, ?_, hB _⟩, by simp [intOf]⟩
                · rw [ByteArray.size_append, hz]; rfl
                · rw [bs_append, HZ.out]; rfl
              · have cv : (convert 72 9 (.slice (some ⟨wr.heap.size, 0, none⟩) 1 1)).run Tryz.prog (wr.alloc (.cells #[.int .u8 104] 5)) = .ok (.string ⟨#[104]⟩) (wr.alloc (.cells #[.int .u8 104] 5)) := conv_one wr 104
                go_wp2_with fail
                refine ⟨⟨_, 7, rfl, rfl, by omega, ?_, ?_, hB _⟩, by simp [intOf]⟩
                · rw [ByteArray.size_append, hz]; rfl
                · rw [bs_append, HZ.out]; rfl
              · have cv : (convert 72 9 (.slice (some ⟨wr.heap.size, 0, none⟩) 1 1)).run Tryz.prog (wr.alloc (.cells #[.int .u8 105] 5)) = .ok (.string ⟨#[105]⟩) (wr.alloc (.cells #[.int .u8 105] 5)) := conv_one wr 105
                go_wp2_with fail
                refine ⟨⟨_, 8, rfl, rfl, by omega, ?_, ?_, hB _⟩, by simp [intOf]⟩
                · rw [ByteArray.size_append, hz]; rfl
                · rw [bs_append, HZ.out]; rfl
              · have cv : (convert 72 9 (.slice (some ⟨wr.heap.size, 0, none⟩) 1 1)).run Tryz.prog (wr.alloc (.cells #[.int .u8 106] 5)) = .ok (.string ⟨#[106]⟩) (wr.alloc (.cells #[.int .u8 106] 5)) := conv_one wr 106
                go_wp2_with fail
                refine ⟨⟨_, 9, rfl, rfl, by omega, ?_, ?_, hB _⟩, by simp [intOf]⟩
                · rw [ByteArray.size_append, hz]; rfl
                · rw [bs_append, HZ.out]; rfl
              · have cv : (convert 72 9 (.slice (some ⟨wr.heap.size, 0, none⟩) 1 1)).run Tryz.prog (wr.alloc (.cells #[.int .u8 107] 5)) = .ok (.string ⟨#[107]⟩) (wr.alloc (.cells #[.int .u8 107] 5)) := conv_one wr 107
                go_wp2_with fail
                refine ⟨⟨_, 10, rfl, rfl, by omega, ?_, ?_, hB _⟩, by simp [intOf]⟩
                · rw [ByteArray.size_append, hz]; rfl
                · rw [bs_append, HZ.out]; rfl
              · have cv : (convert 72 9 (.slice (some ⟨wr.heap.size, 0, none⟩) 1 1)).run Tryz.prog (wr.alloc (.cells #[.int .u8 108] 5)) = .ok (.string ⟨#[108]⟩) (wr.alloc (.cells #[.int .u8 108] 5)) := conv_one wr 108
                go_wp2_with fail
                refine ⟨⟨_, 11, rfl, rfl, by omega, ?_, ?_, hB _⟩, by simp [intOf]⟩
                · rw [ByteArray.size_append, hz]; rfl
                · rw [bs_append, HZ.out]; rfl
            · have ek : k = 11 := by omega
              subst ek
              have hz4 : z.size = 159 := hz
              have HZ4 := PredP.hide hz4
              clear hlt hk hz hz4
              go_wp2_with fail
              go_loopw [6, 7, 8] (fun t u i wr4 => ∃ d c : ByteArray, ∃ k : Nat, t = .string d ∧ u = .string c ∧ i = .int .i64 (k : Int) ∧ k ≤ 10 ∧ d.size = 4 + k ∧ c.size = k ∧ PredP.bs d = deepL k ∧ PredP.bs c = closedL k ∧ Below w.heap.size w wr4) (fun _ _ i _ => 10 - (intOf i).toNat)
              case atStart => exact ⟨_, _, 0, rfl, rfl, rfl, by omega, rfl, rfl, rfl, rfl, hlow⟩
              case round =>
                clear hlow
                obtain ⟨d, c, k, rfl, rfl, rfl, hk, hd, hc, hb1, hb2, hlow⟩ := hrel
                have HD := PredP.hide hb1
                have HC := PredP.hide hb2
                clear hb1 hb2
                by_cases hlt : k < 10
                · have hkk : k = 0 ∨ k = 1 ∨ k = 2 ∨ k = 3 ∨ k = 4 ∨ k = 5 ∨ k = 6 ∨ k = 7 ∨ k = 8 ∨ k = 9 := by omega
                  have h3 : d.size + 1 ≤ 9223372036854775807 := by omega
                  have h4 : 1 + c.size ≤ 9223372036854775807 := by omega
                  rcases hkk with rfl | rfl | rfl | rfl | rfl | rfl | rfl | rfl | rfl | rfl
                  · go_wp2_with fail
                    refine ⟨⟨_, _, 1, rfl, rfl, rfl, by omega, ?_, ?_, ?_, ?_, hlow⟩, by simp [intOf]⟩
                    · rw [ByteArray.size_append, hd]; rfl
                    · rw [ByteArray.size_append, hc]; rfl
                    · rw [bs_append, HD.out]; rfl
                    · rw [bs_append, HC.out]; rfl
                  · go_wp2_with fail
                    refine ⟨⟨_, _, 2, rfl, rfl, rfl, by omega, ?_, ?_, ?_, ?_, hlow⟩, by simp [intOf]⟩
                    · rw [ByteArray.size_append, hd]; rfl
                    · rw [ByteArray.size_append, hc]; rfl
                    · rw [bs_append, HD.out]; rfl
                    · rw [bs_append, HC.out]; rfl
                  · go_wp2_with fail
                    refine ⟨⟨_, _, 3, rfl, rfl, rfl, by omega, ?_, ?_, ?_, ?_, hlow⟩, by simp [intOf]⟩
                    · rw [ByteArray.size_append, hd]; rfl
                    · rw [ByteArray.size_append, hc]; rfl
                    · rw [bs_append, HD.out]; rfl
                    · rw [bs_append, HC.out]; rfl
                  · go_wp2_with fail
                    refine ⟨⟨_, _, 4, rfl, rfl, rfl, by omega, ?_, ?_, ?_, ?_, hlow⟩, by simp [intOf]⟩
                    · rw [ByteArray.size_append, hd]; rfl
                    · rw [ByteArray.size_append, hc]; rfl
                    · rw [bs_append, HD.out]; rfl
                    · rw [bs_append, HC.out]; rfl
                  · go_wp2_with fail
                    refine ⟨⟨_, _, 5, rfl, rfl, rfl, by omega, ?_, ?_, ?_, ?_, hlow⟩, by simp [intOf]⟩
                    · rw [ByteArray.size_append, hd]; rfl
                    · rw [ByteArray.size_append, hc]; rfl
                    · rw [bs_append, HD.out]; rfl
                    · rw [bs_append, HC.out]; rfl
                  · go_wp2_with fail
                    refine ⟨⟨_, _, 6, rfl, rfl, rfl, by omega, ?_, ?_, ?_, ?_, hlow⟩, by simp [intOf]⟩
                    · rw [ByteArray.size_append, hd]; rfl
                    · rw [ByteArray.size_append, hc]; rfl
                    · rw [bs_append, HD.out]; rfl
                    · rw [bs_append, HC.out]; rfl
                  · go_wp2_with fail
                    refine ⟨⟨_, _, 7, rfl, rfl, rfl, by omega, ?_, ?_, ?_, ?_, hlow⟩, by simp [intOf]⟩
                    · rw [ByteArray.size_append, hd]; rfl
                    · rw [ByteArray.size_append, hc]; rfl
                    · rw [bs_append, HD.out]; rfl
                    · rw [bs_append, HC.out]; rfl
                  · go_wp2_with fail
                    refine ⟨⟨_, _, 8, rfl, rfl, rfl, by omega, ?_, ?_, ?_, ?_, hlow⟩, by simp [intOf]⟩
                    · rw [ByteArray.size_append, hd]; rfl
                    · rw [ByteArray.size_append, hc]; rfl
                    · rw [bs_append, HD.out]; rfl
                    · rw [bs_append, HC.out]; rfl
                  · go_wp2_with fail
                    refine ⟨⟨_, _, 9, rfl, rfl, rfl, by omega, ?_, ?_, ?_, ?_, hlow⟩, by simp [intOf]⟩
                    · rw [ByteArray.size_append, hd]; rfl
                    · rw [ByteArray.size_append, hc]; rfl
                    · rw [bs_append, HD.out]; rfl
                    · rw [bs_append, HC.out]; rfl
                  · go_wp2_with fail
                    refine ⟨⟨_, _, 10, rfl, rfl, rfl, by omega, ?_, ?_, ?_, ?_, hlow⟩, by simp [intOf]⟩
                    · rw [ByteArray.size_append, hd]; rfl
                    · rw [ByteArray.size_append, hc]; rfl
                    · rw [bs_append, HD.out]; rfl
                    · rw [bs_append, HC.out]; rfl
                · have ek : k = 10 := by omega
                  subst ek
                  have ex : x = ⟨(longL 391).toArray⟩ := bs_eq HB.out
                  have ez : z = ⟨(manyB 11).toArray⟩ := bs_eq HZ.out
                  have ed : d = ⟨(deepL 10).toArray⟩ := bs_eq HD.out
                  have ec : c = ⟨(closedL 10).toArray⟩ := bs_eq HC.out
                  go_upto_region 22 with fail
                  clear HX HB HZ HD HC HZ4 hd hc
                  subst ex ez ed ec
                  refine wp_region_eval2 (by kernel_rfl) ?_
                  intro X hX
                  have v1 : some (X.1.tmps.getD 0 undef) = some (Value.slice (some ⟨wr.heap.size, 0, none⟩) 61 61) := (congrArg (Option.map fun x : Act × World => x.1.tmps.getD 0 undef) hX).symm.trans (by kernel_rfl)
                  have v2 : some X.2 = some (wr.alloc (.cells (faultCells faultTab).toArray 49)) := (congrArg (Option.map fun x : Act × World => x.2) hX).symm.trans (by kernel_rfl)
                  have v3 : some X.1.defers = some [] := (congrArg (Option.map fun x : Act × World => x.1.defers) hX).symm.trans (by kernel_rfl)
                  clear hX
                  obtain ⟨⟨tm, df⟩, W'⟩ := X
                  have e1 : tm.getD 0 undef = Value.slice (some ⟨wr.heap.size, 0, none⟩) 61 61 := Option.some.inj v1
                  have e2 : W' = wr.alloc (.cells (faultCells faultTab).toArray 49) := Option.some.inj v2
                  have e3 : df = [] := Option.some.inj v3
                  clear v1 v2 v3
                  subst e2 e3
                  go_wp2_with fail
                  go_ret
                  exact ⟨wr.heap.size, congrArg Ending.returned e1, hlow.size, World.alloc_heap_new _ _, Below.all hlow ((Below.refl _ _).alloc (Nat.le_refl _) _)⟩

end Go.Proofs.YtpcmemcanpgadaaGreatDoor
