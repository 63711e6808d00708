/-
  The law's own walk: plain.Names by its contract, three loops over what it gave.
-/
import Derived.Test.YtbbjomagboephaaDoorPlain
namespace Go.Proofs.YtbbjomagboephaaDoor
open Go.RowKit

/-- The bounds, by number. -/
def bnd (k : Nat) : Int := [400, 12, 8, 10, 60].getD k 0
/-- What the law reads behind the call of plain.Names. -/
structure Mem (w wr : World) (n g : Nat) : Prop where
  below : Below w.heap.size w wr
  bounds : ∀ k, k < 5 → wr.cell? ⟨w.heap.size, k, none⟩ = some (.int .i64 (bnd k))
  wants : ∀ k, k < 5 → wr.cell? ⟨n, k, none⟩ = some (.int .i64 (bnd k))
  wrong : ∀ k, k < 3 → wr.cell? ⟨w.heap.size + 1, k, none⟩ = some (.int .i64 ((k : Int) + 1))
  table : ∀ k, k < 72 → wr.cell? ⟨g, k, none⟩ = some (.bool (told k))
theorem Mem.drewN {w wr : World} {n g : Nat} (h : Mem w wr n g) (m : Nat) : Mem w (wr.drewN m) n g := ⟨below_drewN h.below m, h.bounds, h.wants, h.wrong, h.table⟩
theorem five {w : World} {b : Nat} (h : w.heap[b]? = some (.cells #[.int .i64 400, .int .i64 12, .int .i64 8, .int .i64 10, .int .i64 60] 3 (0, 0))) (k : Nat) (hk : k < 5) : w.cell? ⟨b, k, none⟩ = some (.int .i64 (bnd k)) := by
  simp only [World.cell?, h]
  match k, hk with
  | 0, _ | 1, _ | 2, _ | 3, _ | 4, _ => rfl
theorem Mem.start {s : Nat → Addr} {w w1 : World} {g cap : Nat} (hK : Keep s w w1) (hown : w1.ownsRow (w.heap.size + 3) 4 1 (.slice (some ⟨g, 0, none⟩) 72 cap) 72 (tbl 72)) :
    Mem w (w1.alloc (.cells #[.int .i64 400, .int .i64 12, .int .i64 8, .int .i64 10, .int .i64 60] 3)) w1.heap.size g := by
  have hz := hK.size
  have hl := (hown.lt g rfl).2
  refine ⟨hK.below.alloc (by omega) _, five ((Below.heap_alloc _ _ _ (by omega)).trans hK.b0), five (heap_at rfl), ?_, ?_⟩
  · intro k hk
    simp only [World.cell?, (Below.heap_alloc w1 (.cells #[.int .i64 400, .int .i64 12, .int .i64 8, .int .i64 10, .int .i64 60] 3) (w.heap.size + 1) (by omega)).trans hK.b1]
    match k, hk with
    | 0, _ | 1, _ | 2, _ => rfl
  · intro k hk
    rw [World.cell?_alloc_past _ _ _ (by exact hl)]
    have h := hown.cells (g := g) rfl k _ (tbl_at 72 k hk)
    by_cases h0 : k = 0
    · subst h0; exact h
    · simpa [Addr.add, h0] using h
theorem shape {w1 : World} {B : Nat} {v : Value} (hown : w1.ownsRow B 4 1 v 72 (tbl 72)) : ∃ g cap, v = .slice (some ⟨g, 0, none⟩) 72 cap := by
  rcases hown.2 with ⟨_, h⟩ | ⟨g, cap, _, rfl, _⟩
  · omega
  · exact ⟨g, cap, rfl⟩

theorem told_int (k : Nat) : (!told k == ((k : Int) / 12 == (k : Int) % 12 / 2)) = false := by
  have h : told k = ((k : Int) / 12 == (k : Int) % 12 / 2) := by
    unfold told
    rw [Bool.eq_iff_iff]
    simp
    omega
  rw [h]
  simp

set_option maxHeartbeats 1600000 in
set_option maxRecDepth 1000000 in
theorem names_any (s : Nat → Addr) (w : World) (h6 : 6 ≤ w.heap.size) (hS : Sents s w.heap.size w)
    (hg : ∀ j, j < 6 → w.cell? ⟨j, 0, none⟩ = some (.iface 58 (.pointer (some (s j))))) :
    Calls Tryd.prog 3 #[] w fun e w' => e = .returned (.bool true) ∧ Below w.heap.size w w' := by
  go_enter Tryd.func3, Tryd.ntmps3
  go_wp2_with fail
  refine (plain_any s w h6 hS hg).mono ?_
  rintro e w1 ⟨v, rfl, hown, hK⟩
  obtain ⟨g, cap, rfl⟩ := shape hown
  have hM := Mem.start hK hown
  clear hown hK hS hg
  go_wp2
  go_loopw [43] (fun i wr => ∃ k : Nat, k ≤ 5 ∧ i = .int .i64 k ∧ Mem w wr w1.heap.size g) (fun i _ => 5 - (intOf i).toNat)
  case atStart => exact ⟨0, Nat.zero_le _, rfl, hM⟩
  case round =>
    obtain ⟨k, hk, rfl, hM⟩ := hrel
    by_cases hlt : k < 5
    · have c0 := hM.bounds k hlt
      have c1 := hM.wants k hlt
      go_wp2
      go_quiet (fail)
      go_wp2
      go_roundw
      case rel => exact ⟨k + 1, by omega, by go_num, hM.drewN _⟩
      case measure => simp [intOf]; omega
    · go_wp2
      go_loopw [58] (fun i wr => ∃ k : Nat, k ≤ 3 ∧ i = .int .i64 k ∧ Mem w wr w1.heap.size g) (fun i _ => 3 - (intOf i).toNat)
      case atStart => exact ⟨0, Nat.zero_le _, rfl, hM⟩
      case round =>
        obtain ⟨k, hk, rfl, hM⟩ := hrel
        by_cases hlt : k < 3
        · have c0 := hM.wrong k hlt
          go_wp2
          go_roundw
          case rel => exact ⟨k + 1, by omega, by go_num, hM⟩
          case measure => simp [intOf]; omega
        · go_wp2
          go_loopw [71] (fun i wr => ∃ k : Nat, k ≤ 72 ∧ i = .int .i64 k ∧ Mem w wr w1.heap.size g) (fun i _ => 72 - (intOf i).toNat)
          case atStart => exact ⟨0, Nat.zero_le _, rfl, hM⟩
          case round =>
            obtain ⟨k, hk, rfl, hM⟩ := hrel
            by_cases hlt : k < 72
            · have c0 := hM.table k hlt
              have ht := told_int k
              go_wp2
              go_roundw
              case rel => exact ⟨k + 1, by omega, by go_num, hM⟩
              case measure => simp [intOf]; omega
            · go_wp2
              go_ret
              exact ⟨rfl, hM.below⟩
end Go.Proofs.YtbbjomagboephaaDoor
