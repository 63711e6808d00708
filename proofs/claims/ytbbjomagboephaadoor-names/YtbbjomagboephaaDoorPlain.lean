/-
  plain.Names walked: two loops, errors.Is by its contracts, the appends by the law of owned rows.
-/
import Derived.Test.YtbbjomagboephaaDoorSpan
import Derived.Deep.QuietTactic
import Derived.BigQuiet
namespace Go.Proofs.YtbbjomagboephaaDoor
open Go.RowKit

set_option maxHeartbeats 1600000 in
set_option maxRecDepth 1000000 in
theorem plain_any (s : Nat → Addr) (w : World) (h6 : 6 ≤ w.heap.size) (hS : Sents s w.heap.size w)
    (hg : ∀ j, j < 6 → w.cell? ⟨j, 0, none⟩ = some (.iface 58 (.pointer (some (s j))))) :
    Calls Tryd.prog 4 #[] w fun e w' => ∃ v, e = .returned (.tuple #[.slice (some ⟨w.heap.size, 0, none⟩) 5 5, .slice (some ⟨w.heap.size + 1, 0, none⟩) 3 3, v, .int .i64 2, .int .i64 3]) ∧ w'.ownsRow (w.heap.size + 3) 4 1 v 72 (tbl 72) ∧ Keep s w w' := by
  have G : ∀ j, j < 6 → ∀ o o', ((w.alloc o).alloc o').cell? ⟨j, 0, none⟩ = some (.iface 58 (.pointer (some (s j)))) := fun j hj o o' => by
    rw [World.cell?_alloc_past _ _ _ (by simp; omega), World.cell?_alloc_past _ _ _ (by show j < _; omega)]; exact hg j hj
  have g0 := G 0 (by omega)
  have g1 := G 1 (by omega)
  have g2 := G 2 (by omega)
  have g3 := G 3 (by omega)
  have g4 := G 4 (by omega)
  have g5 := G 5 (by omega)
  clear G hg
  obtain ⟨i0, hi, hz0, hz1, hz2⟩ := info_parts info4
  go_enter Tryd.func4, Tryd.ntmps4
  go_wp2
  clear g0 g1 g2 g3 g4 g5
  go_loopw [2, 23] (fun v i wr => ∃ k : Nat, k ≤ 6 ∧ i = .int .i64 k ∧ wr.ownsRow (w.heap.size + 3) 4 1 v (12 * k) (tbl (12 * k)) ∧ Keep s w wr) (fun _ i _ => 6 - (intOf i).toNat)
  case atStart => exact ⟨0, Nat.zero_le _, rfl, World.ownsRow_nil _ _ _ _, Keep.start s w⟩
  case round =>
    obtain ⟨k, hk, rfl, hown, hK⟩ := hrel
    by_cases hlt : k < 6
    · have hcx := hK.sent k hlt
      have hd : decide ((k : Int) < 6) = true := by simp; omega
      have hIn : InAt wr.heap.size (s k) (wr.alloc (.cells #[.int .i64 0, .string ByteArray.empty, .slice none 0 0, .iface 58 (.pointer (some (s k)))] 33)) := InAt.new _ _ _ _ _
      go_wp2
      go_loopw [2, 33] (fun v i wi => ∃ j : Nat, j ≤ 6 ∧ i = .int .i64 j ∧ wi.ownsRow (w.heap.size + 3) 4 1 v (12 * k + 2 * j) (tbl (12 * k + 2 * j)) ∧ Keep s w wi ∧ InAt wr.heap.size (s k) wi) (fun _ i _ => 6 - (intOf i).toNat)
      case atStart => exact ⟨0, Nat.zero_le _, rfl, by simpa using hown.alloc _, hK.alloc _, hIn⟩
      case round =>
        obtain ⟨j, hj, rfl, hown, hK, hIn⟩ := hrel
        by_cases hjlt : j < 6
        · have hcy := hK.sent j hjlt
          have hSi := hS.carry hK.below
          have hci := hIn.cell
          have hdj : decide ((j : Int) < 6) = true := by simp; omega
          go_wp2_with fail
          refine (is_sent k j hlt hjlt _ hSi).mono ?_
          rintro e w' ⟨rfl, rfl⟩
          go_wp2_with fail
          refine (in_sent _ k j hlt hjlt _ hci hSi).mono ?_
          rintro e w' ⟨rfl, rfl⟩
          clear hci hcy
          go_wp2_with (at_builtin; refine wpList_append_own _ rfl _ _ 23 rfl (w.heap.size + 3) 4 i0 (.bool false) 1 1 Tryd.underlying23 hi hz0 hz1 hz2 rfl (by decide) _ _ _ rfl (hown.alloc _) _ 2 2 [.bool (k == j), .bool (k == j)] rfl rfl ?c1 ?c2 ?c3 ?c4 ?c5 ?_)
          case c1 =>
            intro n u hn
            match n, hn with
            | 0, hn => simp at hn; subst hn; simp [Addr.add]
            | 1, hn => simp at hn; subst hn; simp [Addr.add]
          case c2 => intro u hu; simp at hu; subst hu; rfl
          case c3 => unfold maxLen; omega
          case c4 => omega
          case c5 => have := hK.size; simp; omega
          · intro v' w1 hown' hgrow _
            rw [tbl_two k j hjlt] at hown'
            have hK' := (hK.alloc _).grown (hown.alloc _) hgrow
            have hIn' := (hIn.alloc _).grown (hown.alloc _) hgrow
            clear hgrow hSi
            go_wp2
            go_roundw
            case rel => exact ⟨j + 1, by omega, by go_num, hown', hK', hIn'⟩
            case measure => simp [intOf]; omega
        · have hj6 : j = 6 := by omega
          subst hj6
          go_wp2
          go_roundw
          case rel => exact ⟨k + 1, by omega, by go_num, hown, hK⟩
          case measure => simp [intOf]; omega
    · have hk6 : k = 6 := by omega
      subst hk6
      have hsp := spanOf
      go_wp2
      go_quiet (fail)
      go_wp2
      exact bodyPost_ret (v := .tuple #[.slice (some ⟨w.heap.size, 0, none⟩) 5 5, .slice (some ⟨w.heap.size + 1, 0, none⟩) 3 3, u2, .int .i64 2, .int .i64 3]) (by simp [results, Tryd.results4, go_sem]) rfl ⟨u2, rfl, (hown.alloc _).alloc _, ((hK.alloc _).alloc _).drewN _⟩
end Go.Proofs.YtbbjomagboephaaDoor
