/-
  plain.Compile.
-/
import Derived.Test.YtpcmemcanpgadaaGreatDoorFlt
namespace Go.Proofs.YtpcmemcanpgadaaGreatDoor
open Go.RowKit Go.Maps

def whatOf : PredP.Res → Int
  | .long => 1
  | .empty => 2
  | .many => 3
  | .bad _ d => if d then 5 else 4
  | .twice _ _ => 6
  | .none _ _ => 7
  | .useless _ _ => 8
  | .clash _ _ => 9
  | .ok _ => 0
def atOf : PredP.Res → Nat
  | .bad p _ => p
  | .twice p _ => p
  | .none p _ => p
  | .useless p _ => p
  | .clash p _ => p
  | _ => 0
def strOf : PredP.Res → PredP.Str
  | .twice _ s => s
  | .none _ s => s
  | .useless _ s => s
  | .clash _ s => s
  | _ => []

abbrev sentV (b : Addr) : Value := .iface 290 (.pointer (some b))
theorem fault_any (w : World) (hg : w.cell? ⟨6, 0, none⟩ = some (.iface 189 (.agg #[.pointer (some ⟨10, 67, none⟩)]))) (bl be bm : Addr) (hs : Sent w bl be bm) (lo : Nat) (r : PredP.Res) (u : Value) (h : Fault lo w (sentV bl) (sentV be) (sentV bm) r u) :
    Calls Tryz.prog 27 #[u] w (FltPost w (whatOf r) (atOf r) (strOf r)) := by
  cases r with
  | long => rw [show u = sentV bl from h]; exact fault_e w hg bl be bm hs 1 bl (.inl ⟨rfl, rfl⟩)
  | empty => rw [show u = sentV be from h]; exact fault_e w hg bl be bm hs 2 be (.inr (.inl ⟨rfl, rfl⟩))
  | many => rw [show u = sentV bm from h]; exact fault_e w hg bl be bm hs 3 bm (.inr (.inr ⟨rfl, rfl⟩))
  | bad p d =>
    obtain ⟨b, rfl, h1, h2, h3, h4⟩ := h
    exact fault_s w hg b p d h2 h3 h4
  | twice p s =>
    obtain ⟨b, a, rfl, h1, h2, h3, h4, h5, h6, h7⟩ := h
    have := fault_n w hg b p 1 a (by omega) (by omega) h2 h3 h4 h7
    rw [h5] at this
    exact this
  | none p s =>
    obtain ⟨b, a, rfl, h1, h2, h3, h4, h5, h6, h7⟩ := h
    have := fault_n w hg b p 2 a (by omega) (by omega) h2 h3 h4 h7
    rw [h5] at this
    exact this
  | useless p s =>
    obtain ⟨b, a, rfl, h1, h2, h3, h4, h5, h6, h7⟩ := h
    have := fault_n w hg b p 3 a (by omega) (by omega) h2 h3 h4 h7
    rw [h5] at this
    exact this
  | clash p s =>
    obtain ⟨b, a, rfl, h1, h2, h3, h4, h5, h6⟩ := h
    have := fault_c w hg b p a h2 h3 h4
    rw [h5] at this
    exact this
  | ok G => rw [show u = .nilIface from h]; exact fault_nil w

theorem results_two {fn : Func} {t1 t2 ty : Nat} {P : Program} {W : World} {tmps : Array Value} {p : Addr} {v : Value} (h : fn.results = #[.tmp t1, .cell t2 ty]) (ht : tmps[t2]?.getD undef = .pointer (some p)) (hl : (loadVar ty p).run P W = .ok v W) : (results fn tmps).run P W = .ok (.tuple #[tmps[t1]?.getD undef, v]) W := by
  simp [results, h, ht, asAddr, hl]

theorem SetAt.apart {W : World} {b q : Nat} {l : List PredP.Str} {v : Value} (h : SetAt W b l) (hc : W.cell? ⟨q, 0, none⟩ = some v) : b ≠ q := fun e => by
  subst e
  obtain ⟨D, ⟨es, clock, h1, _⟩, _⟩ := h
  simp [World.cell?, h1] at hc
theorem MapAt.apart {W : World} {b q : Nat} {f : List (PredP.Str × Nat)} {v : Value} (h : MapAt W b f) (hc : W.cell? ⟨q, 0, none⟩ = some v) : b ≠ q := fun e => by
  subst e
  obtain ⟨D, ⟨es, clock, h1, _⟩, _⟩ := h
  simp [World.cell?, h1] at hc
theorem Known.stored {G : List PredP.Rule} {eb fb ab : Nat} {f fa : List (PredP.Str × Nat)} {l0 : List PredP.Str} {c d : Words} {W W' : World} (h : Known G eb fb ab f fa l0 c d W) {q : Nat} {v : Value} (hc : W.cell? ⟨q, 0, none⟩ = some v) (hs : ∀ k, k ≠ q → W'.heap[k]? = W.heap[k]?) : Known G eb fb ab f fa l0 c d W' := by
  refine h.block fun b _ hb => hs b ?_
  rcases hb with rfl | rfl | rfl | hb
  · exact h.empty.apart hc
  · exact h.fmap.apart hc
  · exact h.amap.apart hc
  · rcases List.mem_append.1 hb with hb | hb
    · obtain ⟨p, hp, rfl⟩ := List.mem_map.1 hb
      exact (h.fset p hp).apart hc
    · obtain ⟨p, hp, rfl⟩ := List.mem_map.1 hb
      exact (h.aset p hp).apart hc
theorem ParserAt.stored {G : List PredP.Rule} {lo lo' b q : Nat} {W W' : World} {v : Value} (h : ParserAt G lo b W) (hq : q < lo) (hc : W.cell? ⟨q, 0, none⟩ = some v) (hz : W.heap.size ≤ W'.heap.size) (hs : ∀ k, k ≠ q → W'.heap[k]? = W.heap[k]?) (hl : lo' ≤ lo) : ParserAt G lo' b W' := by
  obtain ⟨h0, v, cs, eb, fb, ab, f, fa, l0, c, d, c0, c1, c2, c3, hsl, hr, hk⟩ := h
  have up : ∀ j u, W.cell? ⟨b, j, none⟩ = some u → W'.cell? ⟨b, j, none⟩ = some u := fun j u hu => (World.cell?_of_block (a := ⟨b, j, none⟩) (hs b (by omega))).trans hu
  exact ⟨Nat.le_trans hl h0, v, cs, eb, fb, ab, f, fa, l0, c, d, up 0 _ c0, up 1 _ c1, up 2 _ c2, up 3 _ c3,
    hsl.carry hz (fun k hk _ => ⟨Nat.le_trans hl hk, hs k (by have : lo ≤ k := hk; omega)⟩), rulesAt.carry hz (fun k hk _ => ⟨Nat.le_trans hl hk, hs k (by have : lo ≤ k := hk; omega)⟩) _ _ hr, hk.stored hc hs⟩

def PCPost (w : World) (r : PredP.Res) (e : Ending) (w' : World) : Prop :=
  Below w.heap.size w w' ∧ ∃ (v : Value) (x : ByteArray), e = .returned (.tuple #[v, .agg #[.int .i64 (whatOf r), .int .i64 (atOf r : Int), .string x, .slice none 0 0]]) ∧ PredP.bs x = strOf r ∧ match r with
  | .ok G => ∃ b0 b, v = .pointer (some ⟨b0, 0, none⟩) ∧ w.heap.size ≤ b0 ∧ w'.cell? ⟨b0, 0, none⟩ = some (.pointer (some ⟨b, 0, none⟩)) ∧ ParserAt G w.heap.size b w'
  | _ => v = .pointer none
theorem Known.keep {G : List PredP.Rule} {eb fb ab : Nat} {f fa : List (PredP.Str × Nat)} {l0 : List PredP.Str} {c d : Words} {W W' : World} (h : Known G eb fb ab f fa l0 c d W) (hb : Below W.heap.size W W') : Known G eb fb ab f fa l0 c d W' := h.below hb
theorem ParserAt.below {G : List PredP.Rule} {lo lo' b : Nat} {W W' : World} (h : ParserAt G lo b W) (hb : Below W.heap.size W W') (hl : lo' ≤ lo) : ParserAt G lo' b W' := by
  obtain ⟨h0, v, cs, eb, fb, ab, f, fa, l0, c, d, c0, c1, c2, c3, hs, hr, hk⟩ := h
  have lb := World.block_lt_of_cell? _ _ c0
  exact ⟨Nat.le_trans hl h0, v, cs, eb, fb, ab, f, fa, l0, c, d, (hb.cell (p := ⟨b, 0, none⟩) lb).trans c0, (hb.cell (p := ⟨b, 1, none⟩) lb).trans c1, (hb.cell (p := ⟨b, 2, none⟩) lb).trans c2, (hb.cell (p := ⟨b, 3, none⟩) lb).trans c3,
    hs.carry hb.size (fun q hq hlq => ⟨Nat.le_trans hl hq, hb.block q hlq⟩), rulesAt.carry hb.size (fun q hq hlq => ⟨Nat.le_trans hl hq, hb.block q hlq⟩) _ _ hr, hk.below hb⟩

set_option maxRecDepth 100000 in
set_option maxHeartbeats 1000000 in
theorem pCompile_any (s : ByteArray) (hs : s.size ≤ maxLen) (w : World) (hg : w.cell? ⟨6, 0, none⟩ = some (.iface 189 (.agg #[.pointer (some ⟨10, 67, none⟩)]))) (bl be bm : Addr) (hS : Sent w bl be bm) :
    Calls Tryz.prog 19 #[.string s] w (PCPost w (PredP.compile (PredP.bs s))) := by
  obtain ⟨r, hr⟩ : ∃ r, PredP.compile (PredP.bs s) = r := ⟨_, rfl⟩
  rw [hr]
  have hB0 : Below w.heap.size w (w.alloc (.cells #[.int .i64 0, .int .i64 0, .string ⟨#[]⟩, .slice none 0 0] 41)) := (Below.refl _ _).alloc (Nat.le_refl _) _
  have hF0 : ∀ j u, (#[Value.int .i64 0, .int .i64 0, .string ⟨#[]⟩, .slice none 0 0] : Array Value)[j]? = some u → (w.alloc (.cells #[.int .i64 0, .int .i64 0, .string ⟨#[]⟩, .slice none 0 0] 41)).cell? ⟨w.heap.size, j, none⟩ = some u := fun j u h => cell_fresh h
  have hfz0 : ∀ j, (w.alloc (.cells #[.int .i64 0, .int .i64 0, .string ⟨#[]⟩, .slice none 0 0] 41)).frozen? ⟨w.heap.size, j, none⟩ = false := fun j => frozen_new j
  have hz0 : (w.alloc (.cells #[.int .i64 0, .int .i64 0, .string ⟨#[]⟩, .slice none 0 0] 41)).heap.size = w.heap.size + 1 := by simp
  have HC : Hid (∀ W, Below w.heap.size w W → Calls Tryz.prog 29 #[.string s] W (CompPost W (sentV bl) (sentV be) (sentV bm) r)) := PredP.hide fun W hW => by
    have h2 := hS.below hW
    have := Compile_any s hs W (sentV bl) (sentV be) (sentV bm) h2.gl h2.ge h2.gm ⟨_, _, rfl⟩ ⟨_, _, rfl⟩ ⟨_, _, rfl⟩
    rw [hr] at this
    exact this
  have HF : Hid (∀ W lo u, Below w.heap.size w W → Fault lo W (sentV bl) (sentV be) (sentV bm) r u → Calls Tryz.prog 27 #[u] W (FltPost W (whatOf r) (atOf r) (strOf r))) := PredP.hide fun W lo u hW hF =>
    fault_any W ((hW.cell (World.block_lt_of_cell? _ _ hg)).trans hg) bl be bm (hS.below hW) lo r u hF
  clear hr hg hS hs
  have hFR : ∀ W, Below (w.heap.size + 1) (w.alloc (.cells #[.int .i64 0, .int .i64 0, .string ⟨#[]⟩, .slice none 0 0] 41)) W → FR w W := fun W hW =>
    have lt : w.heap.size < w.heap.size + 1 := by omega
    ⟨hB0.trans (hW.mono (by omega)), (hW.cell (p := ⟨w.heap.size, 0, none⟩) lt).trans (hF0 0 _ rfl), (hW.cell (p := ⟨w.heap.size, 1, none⟩) lt).trans (hF0 1 _ rfl), (hW.cell (p := ⟨w.heap.size, 2, none⟩) lt).trans (hF0 2 _ rfl), (hW.cell (p := ⟨w.heap.size, 3, none⟩) lt).trans (hF0 3 _ rfl), fun j => (hW.frozen (p := ⟨w.heap.size, j, none⟩) lt).trans (hfz0 j)⟩
  have HFR := PredP.hide hFR
  clear hFR hF0 hfz0
  go_enter Tryz.func19, Tryz.ntmps19
  go_wp2_with fail
  generalize w.alloc (.cells #[.int .i64 0, .int .i64 0, .string ⟨#[]⟩, .slice none 0 0] 41) = w1 at hB0 hz0 HFR ⊢
  refine (HC.out _ hB0).mono ?_
  rintro e w2 ⟨hb2, hpost⟩
  cases r with
  | ok G =>
    obtain ⟨b, rfl, hpar⟩ := hpost
    go_wp2_with fail
    have hB3 : Below w2.heap.size w2 (w2.alloc (.cells #[.pointer (some ⟨b, 0, none⟩)] 62)) := (Below.refl _ _).alloc (Nat.le_refl _) _
    have hc3 : (w2.alloc (.cells #[.pointer (some ⟨b, 0, none⟩)] 62)).cell? ⟨w2.heap.size, 0, none⟩ = some (.pointer (some ⟨b, 0, none⟩)) := cell_fresh rfl
    generalize w2.alloc (.cells #[.pointer (some ⟨b, 0, none⟩)] 62) = w3 at hB3 hc3 ⊢
    refine (HF.out _ 0 .nilIface (Below.all hB0 (Below.all hb2 hB3)) rfl).mono ?_
    rintro e4 w4 ⟨x, rfl, hx, hb4⟩
    have hR := HFR.out w4 (by rw [← hz0]; exact Below.all hb2 (Below.all hB3 hb4))
    have r0 := hR.r0
    have r1 := hR.r1
    have r2 := hR.r2
    have r3 := hR.r3
    have rf := hR.rf
    go_wp2_with fail
    have hpar4 := hpar.below (Below.all hB3 hb4) (Nat.le_refl _)
    refine bodyPost_ret_by (results_two rfl rfl (hR.load _ _ _ _)) rfl ⟨hR.stored _ _ _ _, _, x, rfl, hx, w2.heap.size, b, rfl, Nat.le_trans hB0.size hb2.size, ?_, ?_⟩
    · have hne : w2.heap.size ≠ w.heap.size := by have := hb2.size; omega
      have q : ∀ (X : World) (p : Addr) (u : Value), p.block = w.heap.size → (X.setCell p u).heap[w2.heap.size]? = X.heap[w2.heap.size]? := fun X p u hp => Below.heap_setCell _ _ _ _ (by rw [hp]; exact hne)
      have hc4 := (hb4.cell (p := ⟨w2.heap.size, 0, none⟩) (World.block_lt_of_cell? _ _ hc3)).trans hc3
      exact (World.cell?_of_block (a := ⟨w2.heap.size, 0, none⟩) ((q _ _ _ rfl).trans ((q _ _ _ rfl).trans ((q _ _ _ rfl).trans (q _ _ _ rfl))))).trans hc4
    · refine hpar4.stored (q := w.heap.size) (by omega) hR.r0 (by simp [World.setCell]) (fun k hk => ?_) hB0.size
      have q : ∀ (X : World) (p : Addr) (u : Value), p.block = w.heap.size → (X.setCell p u).heap[k]? = X.heap[k]? := fun X p u hp => Below.heap_setCell _ _ _ _ (by rw [hp]; exact hk)
      exact (q _ _ _ rfl).trans ((q _ _ _ rfl).trans ((q _ _ _ rfl).trans (q _ _ _ rfl)))
  | _ =>
    obtain ⟨u, rfl, hflt⟩ := hpost
    go_wp2_with fail
    refine (HF.out _ _ u (Below.all hB0 hb2) hflt).mono ?_
    rintro e4 w4 ⟨x, rfl, hx, hb4⟩
    have hR := HFR.out w4 (by rw [← hz0]; exact Below.all hb2 hb4)
    have r0 := hR.r0
    have r1 := hR.r1
    have r2 := hR.r2
    have r3 := hR.r3
    have rf := hR.rf
    go_wp2_with fail
    refine bodyPost_ret_by (results_two rfl rfl (hR.load _ _ _ _)) rfl ⟨hR.stored _ _ _ _, _, x, rfl, hx, rfl⟩

end Go.Proofs.YtpcmemcanpgadaaGreatDoor
