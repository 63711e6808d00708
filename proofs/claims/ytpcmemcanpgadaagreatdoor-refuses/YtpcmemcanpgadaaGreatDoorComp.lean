/-
  Compile.
-/
import Derived.Test.YtpcmemcanpgadaaGreatDoorClaG
import Derived.Test.YtpcmemcanpgadaaGreatDoorPureA
namespace Go.Proofs.YtpcmemcanpgadaaGreatDoor
open Go.RowKit Go.Maps

theorem bs_len (a : ByteArray) : (PredP.bs a).length = a.size := by simp [PredP.bs]
mutual
theorem partAt.short {ok : Nat → Prop} {w : World} : ∀ (p : PredP.Part) (v : Value), partAt ok w p v → ∀ x, x ∈ PredP.wordsP p → x.length ≤ 400
  | .word s, v, h, x, hx => by
    unfold partAt at h
    obtain ⟨b, a, _, _, _, _, hs, ha, _⟩ := h
    rw [PredP.wordsP] at hx
    simp at hx
    rw [hx, ← hs, bs_len]; exact ha
  | .name s q, v, h, x, hx => by rw [PredP.wordsP] at hx; simp at hx
  | .br k q e, v, h, x, hx => by
    unfold partAt at h
    obtain ⟨b, u, cs, _, _, _, _, _, _, hr⟩ := h
    rw [PredP.wordsP] at hx
    exact rowsAt.short e cs hr x hx
theorem partsAt.short {ok : Nat → Prop} {w : World} : ∀ (p : PredP.Parts) (l : List Value), partsAt ok w p l → ∀ x, x ∈ PredP.wordsR p → x.length ≤ 400
  | .nil, l, h, x, hx => by rw [PredP.wordsR] at hx; simp at hx
  | .cons p ps, l, h, x, hx => by
    unfold partsAt at h
    obtain ⟨v, l', _, hv, hl⟩ := h
    rw [PredP.wordsR] at hx
    rcases List.mem_append.1 hx with hx | hx
    · exact partAt.short p v hv x hx
    · exact partsAt.short ps l' hl x hx
theorem rowsAt.short {ok : Nat → Prop} {w : World} : ∀ (e : PredP.Rows) (l : List Value), rowsAt ok w e l → ∀ x, x ∈ PredP.wordsE e → x.length ≤ 400
  | .nil, l, h, x, hx => by rw [PredP.wordsE] at hx; simp at hx
  | .cons bar r e, l, h, x, hx => by
    unfold rowsAt at h
    obtain ⟨u, cs, l', _, _, hr, he⟩ := h
    rw [PredP.wordsE] at hx
    rcases List.mem_append.1 hx with hx | hx
    · exact partsAt.short r cs hr x hx
    · exact rowsAt.short e l' he x hx
end
theorem rules_short {ok : Nat → Prop} {w : World} {G : List PredP.Rule} {cs : List Value} (h : rulesAt ok w G cs) : ∀ x, x ∈ allWords G → x.length ≤ 400 := fun x hx => by
  rcases List.mem_cons.1 hx with rfl | hx
  · simp
  · obtain ⟨q, hq, hx⟩ := List.mem_flatMap.1 hx
    obtain ⟨k, hk, hkq⟩ := List.getElem_of_mem hq
    obtain ⟨a, u, us, _, _, _, _, _, _, hrows⟩ := h.get (k := k) (q := q) (by rw [List.getElem?_eq_getElem hk, hkq])
    exact rowsAt.short q.body us hrows x hx
theorem cands_of {ok : Nat → Prop} {w : World} {G : List PredP.Rule} {cs : List Value} (h : rulesAt ok w G cs) (hl : (PredP.allWords G).length ≤ 400) : CandsOf (allWords G) (PredP.cands G) :=
  ⟨by unfold allWords; rw [List.length_cons]; unfold PredP.allWords at hl; omega, PredP.sortS_rising _, fun x hx => (PredP.mem_sortS _ x).2 hx, rules_short h⟩

/-- a parser lies there -/
structure ParserAt (G : List PredP.Rule) (lo b : Nat) (W : World) : Prop where
  low : lo ≤ b
  there : ∃ v cs eb fb ab f fa l0 c d, W.cell? ⟨b, 0, none⟩ = some v ∧ W.cell? ⟨b, 1, none⟩ = some (.map (some eb)) ∧ W.cell? ⟨b, 2, none⟩ = some (.map (some fb)) ∧ W.cell? ⟨b, 3, none⟩ = some (.map (some ab)) ∧
    slAt (fun q => lo ≤ q) W 3 v cs ∧ rulesAt (fun q => lo ≤ q) W G cs ∧ Known G eb fb ab f fa l0 c d W
def CompPost (w : World) (vl ve vm : Value) (r : PredP.Res) (e : Ending) (w' : World) : Prop :=
  Below w.heap.size w w' ∧ match r with
  | .ok G => ∃ b, e = .returned (.tuple #[.pointer (some ⟨b, 0, none⟩), .nilIface]) ∧ ParserAt G w.heap.size b w'
  | r => ∃ u, e = .returned (.tuple #[.pointer none, u]) ∧ Fault w.heap.size w' vl ve vm r u

/-- an error value that is not nil -/
def IsErr (v : Value) : Prop := ∃ T x, v = .iface T x
theorem Fault.isErr {lo : Nat} {w : World} {vl ve vm : Value} (hl : IsErr vl) (he : IsErr ve) (hm : IsErr vm) {r : PredP.Res} (hr : ∀ G, r ≠ .ok G) {v : Value} (h : Fault lo w vl ve vm r v) : IsErr v := by
  cases r with
  | long => rw [show v = vl from h]; exact hl
  | bad p d =>
    obtain ⟨b, hv, _⟩ := h
    exact ⟨_, _, hv⟩
  | empty => rw [show v = ve from h]; exact he
  | many => rw [show v = vm from h]; exact hm
  | twice p s =>
    obtain ⟨b, a, hv, _⟩ := h
    exact ⟨_, _, hv⟩
  | none p s =>
    obtain ⟨b, a, hv, _⟩ := h
    exact ⟨_, _, hv⟩
  | useless p s =>
    obtain ⟨b, a, hv, _⟩ := h
    exact ⟨_, _, hv⟩
  | clash p s =>
    obtain ⟨b, a, hv, _⟩ := h
    exact ⟨_, _, hv⟩
  | ok G => exact absurd rfl (hr G)

theorem NameErr.lower {lo lo' : Nat} {w : World} {v : Value} {p what : Nat} {s : PredP.Str} (h : NameErr lo' w v p s what) (hl : lo ≤ lo') : NameErr lo w v p s what := h.mono hl
theorem Fault.lower {lo lo' : Nat} {w : World} {vl ve vm : Value} {r : PredP.Res} {v : Value} (h : Fault lo' w vl ve vm r v) (hl : lo ≤ lo') : Fault lo w vl ve vm r v := by
  cases r with
  | long => exact h
  | bad p d => exact Syn.mono h hl
  | empty => exact h
  | many => exact h
  | twice p s => exact NameErr.mono h hl
  | none p s => exact NameErr.mono h hl
  | useless p s => exact NameErr.mono h hl
  | clash p s =>
    obtain ⟨b, a, h1, h2, h3⟩ := h
    exact ⟨b, a, h1, Nat.le_trans hl h2, h3⟩
  | ok G => exact h
theorem checkA_fault {G : List PredP.Rule} {r : PredP.Res} (h : checkA G = some r) : ∀ G', r ≠ .ok G' := by
  intro G' e
  subst e
  unfold checkA at h
  split at h
  · cases h
  · split at h
    · cases h
    · split at h
      · cases h
      · split at h
        · cases h
        · split at h
          · cases h
          · cases h
theorem checkA_none {G : List PredP.Rule} (h : checkA G = none) : G ≠ [] ∧ G.length ≤ 12 ∧ (PredP.names G).Nodup ∧ PredP.AllKnown G := by
  unfold checkA at h
  split at h
  · cases h
  · rename_i h0
    split at h
    · cases h
    · rename_i h1
      split at h
      · cases h
      · rename_i h2
        split at h
        · cases h
        · rename_i h3
          exact ⟨fun e => h0 (by rw [e]; rfl), by omega, (PredP.findTwice_none h2).2, allKnown_of h3⟩
theorem CompPost.fault {w w' : World} {vl ve vm : Value} {r : PredP.Res} {u : Value} (hr : ∀ G, r ≠ .ok G) (hb : Below w.heap.size w w') (h : Fault w.heap.size w' vl ve vm r u) : CompPost w vl ve vm r (.returned (.tuple #[.pointer none, u])) w' := by
  cases r with
  | ok G => exact absurd rfl (hr G)
  | _ => exact ⟨hb, u, rfl, h⟩

set_option maxRecDepth 100000 in
set_option maxHeartbeats 4000000 in
theorem Compile_any (s : ByteArray) (hs : s.size ≤ maxLen) (w : World) (vl ve vm : Value) (hvl : w.cell? ⟨3, 0, none⟩ = some vl) (hve : w.cell? ⟨4, 0, none⟩ = some ve) (hvm : w.cell? ⟨5, 0, none⟩ = some vm) (il : IsErr vl) (ie : IsErr ve) (im : IsErr vm) :
    Calls Tryz.prog 29 #[.string s] w (CompPost w vl ve vm (PredP.compile (PredP.bs s))) := by
  unfold maxLen at hs
  by_cases h4 : 400 < s.size
  · have hc : PredP.compile (PredP.bs s) = .long := by unfold PredP.compile; rw [if_pos (by rw [bs_len]; exact h4)]
    rw [hc]
    have h4' : (400 : Int) < (s.size : Int) := by omega
    clear hc hve hvm
    go_enter Tryz.func29, Tryz.ntmps29
    go_wp2_with fail
    go_region
    all_goals go_wp2_with fail
    all_goals go_ret2
    all_goals exact ⟨(Below.refl _ _).drew, vl, rfl, rfl⟩
  · have h4' : ¬ (400 : Int) < (s.size : Int) := by omega
    have HRT := PredP.hide (readText_any s (by omega) w)
    cases ho : PredP.read (PredP.bs s) with
    | bad p b =>
      have hc : PredP.compile (PredP.bs s) = .bad p b := by unfold PredP.compile; rw [if_neg (by rw [bs_len]; exact h4), ho]
      rw [hc]
      rw [ho] at HRT
      clear hc ho hve hvm hvl
      go_enter Tryz.func29, Tryz.ntmps29
      go_wp2_with (go_at_call 46; refine HRT.out.mono ?_; rintro e w1 ⟨hb1, u, rfl, b0, rfl, hsyn⟩)
      go_ret2
      exact ⟨hb1, _, rfl, b0, rfl, hsyn⟩
    | ok G t =>
      have hc : PredP.compile (PredP.bs s) = PredP.check G := by unfold PredP.compile; rw [if_neg (by rw [bs_len]; exact h4), ho]
      have hcnt := PredP.read_count ho
      rw [bs_len] at hcnt
      rw [hc, check_split]
      rw [ho] at HRT
      have hCk : ∀ w1 v cs, Below w.heap.size w w1 → slAt (fun b => w.heap.size ≤ b) w1 3 v cs → rulesAt (fun b => w.heap.size ≤ b) w1 G cs → Calls Tryz.prog 47 #[v] w1 (CheckPost w1 vl ve vm (checkA G)) := fun w1 v cs hb hsl hr =>
        checkRules_any _ w1 v cs G vl ve vm ((hb.cell (World.block_lt_of_cell? _ _ hve)).trans hve) ((hb.cell (World.block_lt_of_cell? _ _ hvm)).trans hvm) hsl hr
      have HCk := PredP.hide hCk
      clear hc ho hCk
      cases hca : checkA G with
      | some r =>
        rw [hca] at HCk
        have hnf := checkA_fault hca
        have HNF := PredP.hide hnf
        clear hca hnf hve hvm hvl
        go_enter Tryz.func29, Tryz.ntmps29
        go_wp2_with (first
          | (go_at_call 47; refine (HCk.out _ _ _ hb1 hsl hr).mono ?_; rintro e2 w2 ⟨hb2, u, rfl, hF⟩; obtain ⟨T, x, rfl⟩ := Fault.isErr il ie im HNF.out hF)
          | (go_at_call 46; refine HRT.out.mono ?_; rintro e w1 ⟨hb1, v, cs, rfl, hsl, hr⟩; obtain ⟨va, vn, vc, rfl⟩ := hsl.form))
        go_ret2
        exact CompPost.fault HNF.out (Below.all hb1 hb2) (hF.lower hb1.size)
      | none =>
        rw [hca] at HCk
        obtain ⟨c1, c2, c3, c4⟩ := checkA_none hca
        have HSO : Hid (∀ w1 v cs, slAt (fun b => w.heap.size ≤ b) w1 3 v cs → rulesAt (fun b => w.heap.size ≤ b) w1 G cs → Calls Tryz.prog 48 #[v] w1 (SetsPost w1 G)) := PredP.hide fun w1 v cs hsl hr =>
          setsOf_any _ w1 v cs G c1 c2 c3 c4 (by unfold allWords maxLen; rw [List.length_cons]; unfold PredP.allWords at hcnt; omega) hsl hr
        have HCC : Hid (∀ w1 v cs, slAt (fun b => w.heap.size ≤ b) w1 3 v cs → rulesAt (fun b => w.heap.size ≤ b) w1 G cs → ∀ eb fb ab f fa l0 c d, Known G eb fb ab f fa l0 c d w1 → Calls Tryz.prog 49 #[v, .agg #[.map (some eb), .map (some fb), .map (some ab)]] w1 (CPost w1 (PredP.firstClash (PredP.cands G) (PredP.places G)))) := PredP.hide fun w1 v cs hsl hr eb fb ab f fa l0 c d hk =>
          checkClashes_any _ w1 v cs G _ (cands_of hr (by omega)) c1 c4 hsl hr eb fb ab f fa l0 c d hk
        have HChk : Hid (checkB G = match PredP.firstClash (PredP.cands G) (PredP.places G) with | some (p, w) => .clash p w | none => .ok G) := PredP.hide rfl
        clear hca hve hvm hvl c1 c2 c3 c4 hcnt
        go_enter Tryz.func29, Tryz.ntmps29
        go_wp2_with (first
          | (go_at_call 49; refine (HCC.out _ _ _ (hsl.below hb3z) (hr.below hb3z) _ _ _ _ _ _ _ _ hk3).mono ?_; rintro e4 w4 ⟨v4, rfl, hb4, hce4⟩; have hb4z := Below.all hb3z hb4; have hk4 := hk3.below hb4; have y0 := (hb4.cell (p := ⟨w3.heap.size, 0, none⟩) (World.block_lt_of_cell? _ _ x0)).trans x0; have y1 := (hb4.cell (p := ⟨w3.heap.size, 1, none⟩) (World.block_lt_of_cell? _ _ x1)).trans x1; have y2 := (hb4.cell (p := ⟨w3.heap.size, 2, none⟩) (World.block_lt_of_cell? _ _ x2)).trans x2; rcases hce4.form with ⟨ho4, rfl⟩ | ⟨x4, q4, ho4, rfl⟩)
          | (go_at_call 48; refine (HSO.out _ _ _ (hsl.below hb2) (hr.below hb2)).mono ?_; rintro e3 w3 ⟨eb, fb, ab, f, fa, l0, c, d, rfl, hb3, hk⟩; have hbA : Below w3.heap.size w3 (w3.alloc (.cells #[.map (some eb), .map (some fb), .map (some ab)] 91)) := (Below.refl _ _).alloc (Nat.le_refl _) _; have hb3z := Below.all (Below.all hb2 hb3) hbA; have hk3 := hk.below hbA; have x0 : (w3.alloc (.cells #[.map (some eb), .map (some fb), .map (some ab)] 91)).cell? ⟨w3.heap.size, 0, none⟩ = some (.map (some eb)) := cell_fresh rfl; have x1 : (w3.alloc (.cells #[.map (some eb), .map (some fb), .map (some ab)] 91)).cell? ⟨w3.heap.size, 1, none⟩ = some (.map (some fb)) := cell_fresh rfl; have x2 : (w3.alloc (.cells #[.map (some eb), .map (some fb), .map (some ab)] 91)).cell? ⟨w3.heap.size, 2, none⟩ = some (.map (some ab)) := cell_fresh rfl)
          | (go_at_call 47; refine (HCk.out _ _ _ hb1 hsl hr).mono ?_; rintro e2 w2 ⟨hb2, rfl⟩)
          | (go_at_call 46; refine HRT.out.mono ?_; rintro e w1 ⟨hb1, v, cs, rfl, hsl, hr⟩; obtain ⟨va, vn, vc, rfl⟩ := hsl.form))
        · go_ret2
          rw [Option.getD_none, HChk.out, ho4]
          have hB : Below w4.heap.size w4 (w4.alloc (.cells #[.slice va vn vc, .map (some eb), .map (some fb), .map (some ab)] 93)) := (Below.refl _ _).alloc (Nat.le_refl _) _
          have hbz := Below.all hb4z hB
          exact ⟨Below.all hb1 hbz, w4.heap.size, rfl, Nat.le_trans hb1.size hb4z.size, _, cs, eb, fb, ab, f, fa, l0, c, d, cell_fresh rfl, cell_fresh rfl, cell_fresh rfl, cell_fresh rfl, hsl.below hbz, hr.below hbz, hk4.below hB⟩
        · go_ret2
          rw [Option.getD_none, HChk.out, ho4]
          rw [ho4] at hce4
          exact ⟨Below.all hb1 hb4z, _, rfl, CErr.below (o := some x4) hce4 (Below.refl _ _) (Nat.le_trans hb1.size hb3z.size)⟩

end Go.Proofs.YtpcmemcanpgadaaGreatDoor
