/-
  What the loops of plain.Names do to memory, outside the walks; errors.Is at two of six sentinels.
-/
import Derived.Test.YtbbjomagboephaaDoorIs
import Derived.WalkSmall
namespace Go.Proofs.YtbbjomagboephaaDoor
open Go.RowKit

theorem info4 : (Tryd.prog.info? 4).map (fun i => (i.zero, i.size, i.bytes)) = some (some (.bool false), 1, 1) := by kernel_rfl

/-- The table: place n holds whether n / 12 is n % 12 / 2. -/
def told (n : Nat) : Bool := n / 12 == n % 12 / 2
def tbl (n : Nat) : List Value := (List.range n).map fun k => .bool (told k)
theorem tbl_length (n : Nat) : (tbl n).length = n := by simp [tbl]
theorem tbl_zero : tbl 0 = [] := rfl
theorem told_a (k j : Nat) (hj : j < 6) : told (12 * k + 2 * j) = (k == j) := by
  unfold told
  rw [show (12 * k + 2 * j) / 12 = k by omega, show (12 * k + 2 * j) % 12 / 2 = j by omega]
theorem told_b (k j : Nat) (hj : j < 6) : told (12 * k + 2 * j + 1) = (k == j) := by
  unfold told
  rw [show (12 * k + 2 * j + 1) / 12 = k by omega, show (12 * k + 2 * j + 1) % 12 / 2 = j by omega]
theorem tbl_two (k j : Nat) (hj : j < 6) : tbl (12 * k + 2 * j) ++ [.bool (k == j), .bool (k == j)] = tbl (12 * k + 2 * j + 2) := by
  unfold tbl
  rw [List.range_succ, List.range_succ]
  simp [told_a k j hj, told_b k j hj]
theorem tbl_at (n k : Nat) (h : k < n) : (tbl n)[k]? = some (.bool (told k)) := by
  simp [tbl, h]

/-- Six sentinels in memory: different pointers, none of their rows frozen. -/
structure Sents (s : Nat → Addr) (B : Nat) (w : World) : Prop where
  apart : ∀ i j, i < 6 → j < 6 → s i = s j → i = j
  below : ∀ j, j < 6 → (s j).block < B
  rows : ∀ j, j < 6 → ∃ c t, w.heap[(s j).block]? = some (.cells c t (0, 0))
theorem Sents.carry {s : Nat → Addr} {B : Nat} {w w' : World} (h : Sents s B w) (hb : Below B w w') : Sents s B w' :=
  ⟨h.apart, h.below, fun j hj => by
    obtain ⟨c, t, e⟩ := h.rows j hj
    exact ⟨c, t, (hb.block _ (h.below j hj)).trans e⟩⟩
theorem Sents.alloc {s : Nat → Addr} {B : Nat} {w : World} (h : Sents s B w) (hB : B ≤ w.heap.size) (o : Obj) : Sents s B (w.alloc o) :=
  h.carry ((Below.refl _ _).alloc hB o)

theorem is_sent {s : Nat → Addr} {B : Nat} (k j : Nat) (hk : k < 6) (hj : j < 6) (w : World) (hS : Sents s B w) :
    Calls Tryd.prog 5 #[.iface 58 (.pointer (some (s k))), .iface 58 (.pointer (some (s j)))] w fun e w' => e = .returned (.bool (k == j)) ∧ w' = w := by
  by_cases h : k = j
  · subst h
    simpa using is_same (s k) w
  · obtain ⟨c, t, e⟩ := hS.rows k hk
    obtain ⟨c', t', e'⟩ := hS.rows j hj
    have hf : (k == j) = false := by simpa using h
    rw [hf]
    exact is_other (s k) (s j) c c' t t' w (fun q => h (hS.apart k j hk hj q)) e e'

theorem in_sent {s : Nat → Addr} {B : Nat} (pb k j : Nat) (hk : k < 6) (hj : j < 6) (w : World) (h1 : w.cell? ⟨pb, 3, none⟩ = some (.iface 58 (.pointer (some (s k))))) (hS : Sents s B w) :
    Calls Tryd.prog 5 #[.iface 30 (.pointer (some ⟨pb, 0, none⟩)), .iface 58 (.pointer (some (s j)))] w fun e w' => e = .returned (.bool (k == j)) ∧ w' = w := by
  by_cases h : k = j
  · subst h
    simpa using is_in_same pb 0 (s k) w (by simpa using h1)
  · obtain ⟨c, t, e⟩ := hS.rows k hk
    obtain ⟨c', t', e'⟩ := hS.rows j hj
    have hf : (k == j) = false := by simpa using h
    rw [hf]
    exact is_in_other pb 0 (s j) (s k) c c' t t' w (by simpa using h1) (fun q => h (hS.apart k j hk hj q)) e e'

/-- A sentinel as an interface value. -/
def ev (a : Addr) : Value := .iface 58 (.pointer (some a))
/-- What the call has laid ahead of its loops, and that nothing older has turned. -/
structure Keep (s : Nat → Addr) (w wr : World) : Prop where
  below : Below w.heap.size w wr
  size : w.heap.size + 3 ≤ wr.heap.size
  b0 : wr.heap[w.heap.size]? = some (.cells #[.int .i64 400, .int .i64 12, .int .i64 8, .int .i64 10, .int .i64 60] 3 (0, 0))
  b1 : wr.heap[w.heap.size + 1]? = some (.cells #[.int .i64 1, .int .i64 2, .int .i64 3] 3 (0, 0))
  b2 : wr.heap[w.heap.size + 2]? = some (.cells #[ev (s 0), ev (s 1), ev (s 2), ev (s 3), ev (s 4), ev (s 5)] 28 (0, 0))
theorem Keep.alloc {s : Nat → Addr} {w wr : World} (h : Keep s w wr) (o : Obj) : Keep s w (wr.alloc o) := by
  have hz := h.size
  exact ⟨h.below.alloc (by omega) o, by simp; omega, (Below.heap_alloc _ _ _ (by omega)).trans h.b0, (Below.heap_alloc _ _ _ (by omega)).trans h.b1, (Below.heap_alloc _ _ _ (by omega)).trans h.b2⟩
theorem Keep.grown {s : Nat → Addr} {w wr w1 : World} {v : Value} {n : Nat} {xs : List Value} (h : Keep s w wr) (hown : wr.ownsRow (w.heap.size + 3) 4 1 v n xs) (hg : wr.grownBy w1 v.ownBlock) : Keep s w w1 := by
  have hz := h.size
  have hs := hg.size
  have hne : ∀ j, j < w.heap.size + 3 → some j ≠ v.ownBlock := fun j hj e => by have := (hown.lt j e.symm).1; omega
  exact ⟨h.below.grown hg (by omega) (fun k hk => by have := (hown.lt k hk).1; omega), by omega, (hg.block _ (by omega) (hne _ (by omega))).trans h.b0, (hg.block _ (by omega) (hne _ (by omega))).trans h.b1, (hg.block _ (by omega) (hne _ (by omega))).trans h.b2⟩
theorem Keep.sent {s : Nat → Addr} {w wr : World} (h : Keep s w wr) (k : Nat) (hk : k < 6) : wr.cell? ⟨w.heap.size + 2, k, none⟩ = some (.iface 58 (.pointer (some (s k)))) := by
  have b := h.b2
  simp only [World.cell?, b]
  match k, hk with
  | 0, _ | 1, _ | 2, _ | 3, _ | 4, _ | 5, _ => rfl

theorem Keep.drewN {s : Nat → Addr} {w wr : World} (h : Keep s w wr) (n : Nat) : Keep s w (wr.drewN n) := ⟨below_drewN h.below n, h.size, h.b0, h.b1, h.b2⟩
theorem heap_at {w : World} {o : Obj} {n : Nat} (h : n = w.heap.size) : (w.alloc o).heap[n]? = some o := by
  subst h
  show (w.heap.push o)[_]? = _
  simp
theorem Keep.start (s : Nat → Addr) (w : World) : Keep s w (((w.alloc (.cells #[.int .i64 400, .int .i64 12, .int .i64 8, .int .i64 10, .int .i64 60] 3)).alloc (.cells #[.int .i64 1, .int .i64 2, .int .i64 3] 3)).alloc (.cells #[.iface 58 (.pointer (some (s 0))), .iface 58 (.pointer (some (s 1))), .iface 58 (.pointer (some (s 2))), .iface 58 (.pointer (some (s 3))), .iface 58 (.pointer (some (s 4))), .iface 58 (.pointer (some (s 5)))] 28)) := by
  refine ⟨(((Below.refl _ _).alloc (Nat.le_refl _) _).alloc (by simp) _).alloc (by simp; omega) _, by simp, ?_, ?_, ?_⟩
  · rw [Below.heap_alloc _ _ _ (by simp; omega), Below.heap_alloc _ _ _ (by simp)]
    show (w.heap.push _)[_]? = _
    simp
  · rw [Below.heap_alloc _ _ _ (by simp)]
    exact heap_at (by simp)
  · exact heap_at (by simp)

/-- The wrapping error's block. -/
def InAt (I : Nat) (a : Addr) (w : World) : Prop := ∃ c0 c1 c2, w.heap[I]? = some (.cells #[c0, c1, c2, ev a] 33 (0, 0))
theorem InAt.lt {I : Nat} {a : Addr} {w : World} (h : InAt I a w) : I < w.heap.size := by
  obtain ⟨c0, c1, c2, e⟩ := h
  rcases Nat.lt_or_ge I w.heap.size with h' | h'
  · exact h'
  · simp [Array.getElem?_eq_none h'] at e
theorem InAt.cell {I : Nat} {a : Addr} {w : World} (h : InAt I a w) : w.cell? ⟨I, 3, none⟩ = some (.iface 58 (.pointer (some a))) := by
  obtain ⟨c0, c1, c2, e⟩ := h
  simp only [World.cell?, e]
  rfl
theorem InAt.alloc {I : Nat} {a : Addr} {w : World} (h : InAt I a w) (o : Obj) : InAt I a (w.alloc o) := by
  have hl := h.lt
  obtain ⟨c0, c1, c2, e⟩ := h
  exact ⟨c0, c1, c2, (Below.heap_alloc _ _ _ hl).trans e⟩
theorem InAt.grown {I : Nat} {a : Addr} {w w1 : World} {B : Nat} {v : Value} {n : Nat} {xs : List Value} (h : InAt I a w) (hown : w.ownsRow B 4 1 v n xs) (hg : w.grownBy w1 v.ownBlock) : InAt I a w1 := by
  have hl := h.lt
  obtain ⟨c0, c1, c2, e⟩ := h
  refine ⟨c0, c1, c2, (hg.block _ hl ?_).trans e⟩
  intro hq
  rcases hown.2 with ⟨rfl, _⟩ | ⟨g, cap, cur, rfl, _, hh, _⟩
  · cases hq
  · have : I = g := by simpa [Value.ownBlock] using hq
    subst this
    rw [hh] at e
    simp at e
theorem InAt.new (a : Addr) (c0 c1 c2 : Value) (w : World) : InAt w.heap.size a (w.alloc (.cells #[c0, c1, c2, .iface 58 (.pointer (some a))] 33)) :=
  ⟨c0, c1, c2, by show (w.heap.push _)[_]? = _; simp [ev]⟩

end Go.Proofs.YtbbjomagboephaaDoor
