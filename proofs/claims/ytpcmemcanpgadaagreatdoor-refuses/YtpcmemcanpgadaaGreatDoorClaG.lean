import Derived.Test.YtpcmemcanpgadaaGreatDoorClaR
/-
  clashIn; the knot; checkClashes.
-/
namespace Go.Proofs.YtpcmemcanpgadaaGreatDoor
open Go.RowKit Go.Maps

structure EI (U C l0 : List PredP.Str) (f : List (PredP.Str × Nat)) (F : PredP.Str → PredP.Str → Bool) (A : PredP.Str → Bool) (eb fb : Nat) (ao : Option Nat) (w : World) (ok : Nat → Prop) (e : PredP.Rows) (cs : List Value) (k : Nat) (e' : PredP.Rows) (g : PredP.Str → Bool) (wr : World) : Prop where
  rows : rowsAt ok w e' (cs.drop (k * 2))
  cla : PredP.firstClash C (PredP.placesE F l0.contains (fun _ => false) A e) = PredP.firstClash C (PredP.placesE F l0.contains g A e')
  size : SizeOf.sizeOf e' ≤ SizeOf.sizeOf e
  names : NamesIn f (PredP.namesE e')
  words : WordsIn U (PredP.wordsE e')
  out : SetOf U wr (w.heap.size + 1) g
  low : Below w.heap.size w wr
  c0 : wr.cell? ⟨w.heap.size, 0, none⟩ = some (.map (some eb))
  c1 : wr.cell? ⟨w.heap.size, 1, none⟩ = some (.map (some fb))
  c2 : wr.cell? ⟨w.heap.size, 2, none⟩ = some (.map ao)
theorem EI.step {U C l0 : List PredP.Str} {f : List (PredP.Str × Nat)} {F : PredP.Str → PredP.Str → Bool} {A : PredP.Str → Bool} {eb fb : Nat} {ao : Option Nat} {w : World} {ok : Nat → Prop} {e : PredP.Rows} {cs : List Value} {k bar : Nat} {r : PredP.Parts} {e2 : PredP.Rows} {g : PredP.Str → Bool} {wr w3 w4 w5 : World}
    (h : EI U C l0 f F A eb fb ao w ok e cs k (.cons bar r e2) g wr) (hb3 : Below wr.heap.size wr w3) (hbt : But (w.heap.size + 1) w3 w4) (hs : SetOf U w4 (w.heap.size + 1) (fun x => g x || PredP.telR x (F x) l0.contains (A x) r)) (hb5 : Below w4.heap.size w4 w5) (hrest : rowsAt ok w e2 (cs.drop ((k + 1) * 2)))
    (h1 : PredP.firstClash C [(bar, fun x => PredP.telR x (F x) l0.contains (A x) r && g x)] = none) (h2 : PredP.firstClash C (PredP.placesR F l0.contains A r) = none) :
    EI U C l0 f F A eb fb ao w ok e cs (k + 1) e2 (fun x => g x || PredP.telR x (F x) l0.contains (A x) r) w5 := by
  have hn := h.names
  have hw := h.words
  have hz := h.size
  rw [PredP.namesE] at hn
  rw [PredP.wordsE] at hw
  simp at hz
  have hb3' := Below.all h.low hb3
  have hlow4 : Below w.heap.size w w4 := hbt.belowOf hb3' (by omega) hb3'.size
  have hc : ∀ j u, wr.cell? ⟨w.heap.size, j, none⟩ = some u → w5.cell? ⟨w.heap.size, j, none⟩ = some u := fun j u hu => by
    have q3 := (hb3.cell (p := ⟨w.heap.size, j, none⟩) (World.block_lt_of_cell? _ _ hu)).trans hu
    have q4 := hbt.cellAt q3 (by omega)
    exact (hb5.cell (p := ⟨w.heap.size, j, none⟩) (World.block_lt_of_cell? _ _ q4)).trans q4
  refine ⟨hrest, ?_, by omega, fun x hx => hn x (List.mem_append_right _ hx), fun x hx => hw x (List.mem_append_right _ hx), hs.below hb5, Below.all hlow4 hb5, hc 0 _ h.c0, hc 1 _ h.c1, hc 2 _ h.c2⟩
  rw [h.cla, PredP.placesE]
  rw [show ∀ (a : PredP.Place) L, a :: L = [a] ++ L from fun _ _ => rfl, clash_none h1, clash_none h2]
theorem EI.some1 {U C l0 : List PredP.Str} {f : List (PredP.Str × Nat)} {F : PredP.Str → PredP.Str → Bool} {A : PredP.Str → Bool} {eb fb : Nat} {ao : Option Nat} {w : World} {ok : Nat → Prop} {e : PredP.Rows} {cs : List Value} {k bar : Nat} {r : PredP.Parts} {e2 : PredP.Rows} {g : PredP.Str → Bool} {wr : World}
    (h : EI U C l0 f F A eb fb ao w ok e cs k (.cons bar r e2) g wr) {x : Nat × PredP.Str} (h1 : PredP.firstClash C [(bar, fun x => PredP.telR x (F x) l0.contains (A x) r && g x)] = some x) : PredP.firstClash C (PredP.placesE F l0.contains (fun _ => false) A e) = some x := by
  rw [h.cla, PredP.placesE]
  rw [show ∀ (a : PredP.Place) L, a :: L = [a] ++ L from fun _ _ => rfl, clash_app, h1]; rfl
theorem EI.some2 {U C l0 : List PredP.Str} {f : List (PredP.Str × Nat)} {F : PredP.Str → PredP.Str → Bool} {A : PredP.Str → Bool} {eb fb : Nat} {ao : Option Nat} {w : World} {ok : Nat → Prop} {e : PredP.Rows} {cs : List Value} {k bar : Nat} {r : PredP.Parts} {e2 : PredP.Rows} {g : PredP.Str → Bool} {wr : World}
    (h : EI U C l0 f F A eb fb ao w ok e cs k (.cons bar r e2) g wr) {x : Nat × PredP.Str} (h1 : PredP.firstClash C [(bar, fun x => PredP.telR x (F x) l0.contains (A x) r && g x)] = none) (h2 : PredP.firstClash C (PredP.placesR F l0.contains A r) = some x) : PredP.firstClash C (PredP.placesE F l0.contains (fun _ => false) A e) = some x := by
  rw [h.cla, PredP.placesE]
  rw [show ∀ (a : PredP.Place) L, a :: L = [a] ++ L from fun _ _ => rfl, clash_none h1, clash_app, h2]; rfl

set_option maxRecDepth 100000 in
set_option maxHeartbeats 4000000 in
theorem clashIn_any {U C : List PredP.Str} (hC : CandsOf U C) (l0 : List PredP.Str) (f : List (PredP.Str × Nat)) (F : PredP.Str → PredP.Str → Bool) (eb fb : Nat) (ao : Option Nat) (e : PredP.Rows) (IH : Hid (∀ r : PredP.Parts, SizeOf.sizeOf r < SizeOf.sizeOf e → ClaR U C l0 f F eb fb ao r)) : ClaE U C l0 f F eb fb ao e := by
  intro ok w v cs vb A hst hsl hrows hnm hwd hva
  have hU : 2 * U.length < maxLen := by have := hC.few; unfold maxLen; omega
  have hmm := @run_makeMap Tryz.prog
  have hB0 : ∀ o, Below w.heap.size w ((w.alloc o).alloc (.map #[] 0)) := fun o => ((Below.refl _ w).alloc (Nat.le_refl _) o).alloc (by simp) _
  have hout0 : ∀ o, SetOf U ((w.alloc o).alloc (.map #[] 0)) (w.heap.size + 1) (fun _ => false) := fun o => by
    have := SetOf.made U (w.alloc o)
    simpa using this
  rcases hsl with ⟨rfl, rfl⟩ | ⟨g1, n1, cap1, rfl, hn1, hok1, hg1, hus, hcell1⟩
  · have he : e = .nil := rowsAt.done (k := 0) (n := 0) (cs := []) hrows (by omega) rfl
    subst he
    clear IH hrows hva hout0 hst
    go_enter Tryz.func81, Tryz.ntmps81
    go_wp2_with fail
    refine wp_loop_rounds 1 ?_
    rw [rounds_succ]
    go_wp2_with fail
    go_ret
    exact ⟨_, rfl, hB0 _, by rw [PredP.placesE]; rfl⟩
  · have HC1 := PredP.hide hcell1
    have HST := PredP.hide hst
    have HVA := PredP.hide hva
    have hrel0 : ∀ t, EI U C l0 f F A eb fb ao w ok e cs 0 e (fun _ => false) ((w.alloc (.cells #[.map (some eb), .map (some fb), .map ao] t)).alloc (.map #[] 0)) := fun t =>
      ⟨by simpa using hrows, rfl, Nat.le_refl _, hnm, hwd, hout0 _, hB0 _, past_fresh rfl, past_fresh rfl, past_fresh rfl⟩
    have HREL := PredP.hide hrel0
    clear hcell1 hst hva hrel0 hrows hnm hwd hout0
    unfold maxLen at hn1
    go_enter Tryz.func81, Tryz.ntmps81
    go_wp2_with fail
    go_loopw [16] (fun t wr => ∃ k : Nat, ∃ e' g, k ≤ n1 ∧ t = .int .i64 k ∧ EI U C l0 f F A eb fb ao w ok e cs k e' g wr) (fun t _ => n1 - (intOf t).toNat)
    case atStart => exact ⟨0, e, _, by omega, rfl, HREL.out _⟩
    case round =>
      clear HREL
      obtain ⟨k, e', g, hk, rfl, hP⟩ := hrel
      by_cases hlt : k < n1
      · obtain ⟨bar, r, e2, u, us, he, hc0, hc1, hu, hps, hrest⟩ := hP.rows.at hlt hus
        subst he
        have k0 := sl_cell hg1 HC1.out hP.low hc0
        have k1 := sl_cell hg1 HC1.out hP.low hc1
        have hsz : SizeOf.sizeOf r < SizeOf.sizeOf e := by have := hP.size; simp at this; omega
        have hnm : NamesIn f (PredP.namesR r) := by
          have := hP.names; rw [PredP.namesE] at this
          exact fun x hx => this x (List.mem_append_left _ hx)
        have hwd : WordsIn U (PredP.wordsR r) := by
          have := hP.words; rw [PredP.wordsE] at this
          exact fun x hx => this x (List.mem_append_left _ hx)
        have hTR : ∀ W', Below w.heap.size w W' → Calls Tryz.prog 114 #[.agg #[.map (some eb), .map (some fb), .map ao], u, .map (some vb)] W' (TelPost U W' (fun x => PredP.telR x (F x) l0.contains (A x) r)) := fun W' hW =>
          (tel_all U l0 hU f F eb fb ao (SizeOf.sizeOf r)).2.1 r (Nat.le_refl _) ok W' u us (.map (some vb)) A (HST.out.below hW) (hu.below hW).off (hps.below hW) hnm hwd (.inr ⟨vb, rfl, HVA.out.below hW⟩)
        have hCR : ∀ W', Below w.heap.size w W' → Calls Tryz.prog 118 #[.agg #[.map (some eb), .map (some fb), .map ao], u, .map (some vb)] W' (CPost W' (PredP.firstClash C (PredP.placesR F l0.contains A r))) := fun W' hW =>
          IH.out r hsz ok W' u us vb A (HST.out.below hW) (hu.below hW) (hps.below hW) hnm hwd (HVA.out.below hW)
        have HTR := PredP.hide hTR
        have HCR := PredP.hide hCR
        obtain ⟨ua, un, uc, rfl⟩ := hu.form
        have hbW : Below wr.heap.size wr (wr.alloc (.cells #[.int .i64 (bar : Int), .slice ua un uc] 227)) := (Below.refl _ _).alloc (Nat.le_refl _) _
        have x0 : (wr.alloc (.cells #[.int .i64 (bar : Int), .slice ua un uc] 227)).cell? ⟨wr.heap.size, 0, none⟩ = some (.int .i64 (bar : Int)) := cell_fresh rfl
        have x1 : (wr.alloc (.cells #[.int .i64 (bar : Int), .slice ua un uc] 227)).cell? ⟨wr.heap.size, 1, none⟩ = some (.slice ua un uc) := cell_fresh rfl
        have b0 := fun o => ((((Below.refl _ wr).alloc (Nat.le_refl _) o)).cell (World.block_lt_of_cell? _ _ hP.c0)).trans hP.c0
        have b1 := fun o => ((((Below.refl _ wr).alloc (Nat.le_refl _) o)).cell (World.block_lt_of_cell? _ _ hP.c1)).trans hP.c1
        have b2 := fun o => ((((Below.refl _ wr).alloc (Nat.le_refl _) o)).cell (World.block_lt_of_cell? _ _ hP.c2)).trans hP.c2
        have hlo := hP.out.lt
        clear hc0 hc1 hu hps hTR hCR
        go_wp2_with (first
          | (go_at_call 118; refine (HCR.out _ hlow4).mono ?_; rintro e5 w5 ⟨v5, rfl, hb5, hce5⟩; rcases hce5.form with ⟨ho5, rfl⟩ | ⟨x5, q5, ho5, rfl⟩)
          | (go_at_call 77; refine (addAll_may U hU _ (w.heap.size + 1) (.map (some tb)) _ _ (hP.out.below hb3z) (.inr ⟨tb, rfl, hs2.below hb3⟩) (fun e => by cases e; have := hbW.size; omega)).mono ?_; rintro e4 w4 ⟨rfl, hbt4, hs4⟩; have hlow4 : Below w.heap.size w w4 := hbt4.belowOf (Below.all hP.low hb3z) (by omega) (Below.all hP.low hb3z).size; have v0 := hbt4.cellAt u0 (by omega); have v1 := hbt4.cellAt u1 (by omega); have v2 := hbt4.cellAt u2 (by omega); have vx := hbt4.cellAt ux (by omega))
          | (go_at_call 117; refine (clashAt_any hC _ bar tb (w.heap.size + 1) _ g hs2 (hP.out.below hb2z)).mono ?_; rintro e3 w3 ⟨v3, rfl, hb3, hce3⟩; have hb3z := Below.all hb2z hb3; have u0 := (hb3z.cell (World.block_lt_of_cell? _ _ hP.c0)).trans hP.c0; have u1 := (hb3z.cell (World.block_lt_of_cell? _ _ hP.c1)).trans hP.c1; have u2 := (hb3z.cell (World.block_lt_of_cell? _ _ hP.c2)).trans hP.c2; have ux := (hb3.cell (p := ⟨wr.heap.size, 1, none⟩) (World.block_lt_of_cell? _ _ tx1)).trans tx1; rcases hce3.form with ⟨ho3, rfl⟩ | ⟨x3, q3, ho3, rfl⟩)
          | (go_at_call 114; refine (HTR.out _ (Below.all hP.low hbW)).mono ?_; rintro e2 w2 ⟨tb, rfl, hwh, hs2, hb2⟩; have hb2z := Below.all hbW hb2; have tx0 := (hb2.cell (p := ⟨wr.heap.size, 0, none⟩) (World.block_lt_of_cell? _ _ x0)).trans x0; have tx1 := (hb2.cell (p := ⟨wr.heap.size, 1, none⟩) (World.block_lt_of_cell? _ _ x1)).trans x1))
        · exact ⟨⟨k + 1, e2, _, by omega, by go_num, hP.step hb3z hbt4 hs4 hb5 hrest ho3 ho5⟩, by simp [intOf]; omega⟩
        · go_ret
          refine ⟨_, rfl, Below.all hlow4 hb5, ?_⟩
          rw [hP.some2 ho3 ho5]
          rw [ho5] at hce5
          exact CErr.below (o := some x5) hce5 (Below.refl _ _) hlow4.size
        · go_ret
          refine ⟨_, rfl, Below.all hP.low hb3z, ?_⟩
          rw [hP.some1 ho3]
          rw [ho3] at hce3
          exact CErr.below (o := some x3) hce3 (Below.refl _ _) (Below.all hP.low hb2z).size
      · have he0 : e' = .nil := hP.rows.done hlt hus
        subst he0
        go_wp2_with fail
        go_ret
        exact ⟨_, rfl, hP.low, by rw [hP.cla, PredP.placesE]; rfl⟩

theorem cla_all {U C : List PredP.Str} (hC : CandsOf U C) (l0 : List PredP.Str) (f : List (PredP.Str × Nat)) (F : PredP.Str → PredP.Str → Bool) (eb fb : Nat) (ao : Option Nat) (n : Nat) :
    (∀ r : PredP.Parts, SizeOf.sizeOf r ≤ n → ClaR U C l0 f F eb fb ao r) ∧ ∀ e : PredP.Rows, SizeOf.sizeOf e ≤ n → ClaE U C l0 f F eb fb ao e := by
  induction n using Nat.strongRecOn with
  | _ n ih =>
    have hr : ∀ r : PredP.Parts, SizeOf.sizeOf r ≤ n → ClaR U C l0 f F eb fb ao r := fun r hr => clashInRow_any hC l0 f F eb fb ao r (PredP.hide fun e he => (ih (SizeOf.sizeOf e) (by omega)).2 e (Nat.le_refl _))
    exact ⟨hr, fun e he => clashIn_any hC l0 f F eb fb ao e (PredP.hide fun r hr' => hr r (by omega))⟩

end Go.Proofs.YtpcmemcanpgadaaGreatDoor

/-
  checkClashes.
-/
namespace Go.Proofs.YtpcmemcanpgadaaGreatDoor
open Go.RowKit Go.Maps

theorem Known.sts {G : List PredP.Rule} {eb fb ab : Nat} {f fa : List (PredP.Str × Nat)} {l0 : List PredP.Str} {c d : Words} {W : World} (h : Known G eb fb ab f fa l0 c d W) : Sts (allWords G) l0 f (Fof c) eb fb W :=
  ⟨h.empty, h.fmap, fun p hp => ⟨c p.1, h.fset p hp, h.fU p.1, fun _ => rfl⟩⟩
def placesQ (G : List PredP.Rule) (r : PredP.Rule) : List PredP.Place := PredP.placesE (fun w n => (PredP.fsts G w).contains n) (PredP.nul G).contains (fun _ => false) (fun w => (PredP.afts G w).contains r.name) r.body
theorem places_flat (G : List PredP.Rule) : PredP.places G = G.flatMap (placesQ G) := rfl
theorem clash_rules_none {C : List PredP.Str} {g : PredP.Rule → List PredP.Place} : ∀ {xs : List PredP.Rule}, (∀ x, x ∈ xs → PredP.firstClash C (g x) = none) → PredP.firstClash C (xs.flatMap g) = none
  | [], _ => rfl
  | x :: xs, h => by
    rw [List.flatMap_cons, clash_none (h x List.mem_cons_self)]
    exact clash_rules_none fun y hy => h y (List.mem_cons_of_mem _ hy)

theorem clash_rules_some {C : List PredP.Str} {g : PredP.Rule → List PredP.Place} {G : List PredP.Rule} {k : Nat} {q : PredP.Rule} (hq : G[k]? = some q) (hn : ∀ x, x ∈ G.take k → PredP.firstClash C (g x) = none) {x : Nat × PredP.Str} (h : PredP.firstClash C (g q) = some x) : PredP.firstClash C (G.flatMap g) = some x := by
  have e : G.flatMap g = (G.take k ++ q :: G.drop (k + 1)).flatMap g := by rw [← split_at hq]
  rw [e, List.flatMap_append, clash_none (clash_rules_none hn), List.flatMap_cons, clash_app, h]; rfl

structure CCI (w : World) (G : List PredP.Rule) (C : List PredP.Str) (eb fb ab : Nat) (k : Nat) (wr : World) : Prop where
  low : Below w.heap.size w wr
  calm : ∀ x, x ∈ G.take k → PredP.firstClash C (placesQ G x) = none
  c0 : wr.cell? ⟨w.heap.size, 0, none⟩ = some (.map (some eb))
  c1 : wr.cell? ⟨w.heap.size, 1, none⟩ = some (.map (some fb))
  c2 : wr.cell? ⟨w.heap.size, 2, none⟩ = some (.map (some ab))

set_option maxRecDepth 100000 in
set_option maxHeartbeats 4000000 in
theorem checkClashes_any (ok : Nat → Prop) (w : World) (v : Value) (cs : List Value) (G : List PredP.Rule) (C : List PredP.Str) (hC : CandsOf (allWords G) C) (hG : G ≠ []) (hK : PredP.AllKnown G) (hsl : slAt ok w 3 v cs) (hr : rulesAt ok w G cs) (eb fb ab : Nat) (f fa : List (PredP.Str × Nat)) (l0 : List PredP.Str) (c d : Words) (hkn : Known G eb fb ab f fa l0 c d w) :
    Calls Tryz.prog 49 #[v, .agg #[.map (some eb), .map (some fb), .map (some ab)]] w (CPost w (PredP.firstClash C (PredP.places G))) := by
  obtain ⟨g, cap, rfl, hm, hg, hcell⟩ := rules_slice hsl hr hG
  have HC := PredP.hide hcell
  have HR := PredP.hide hr
  have HK := PredP.hide hkn
  have hrel0 : ∀ t, CCI w G C eb fb ab 0 (w.alloc (.cells #[.map (some eb), .map (some fb), .map (some ab)] t)) := fun t => ⟨(Below.refl _ _).alloc (Nat.le_refl _) _, fun x hx => by simp at hx, cell_fresh rfl, cell_fresh rfl, cell_fresh rfl⟩
  have HREL := PredP.hide hrel0
  clear hcell hsl hr hG hkn hrel0
  unfold maxLen at hm
  go_enter Tryz.func49, Tryz.ntmps49
  go_wp2_with fail
  go_loopw [10] (fun t wr => ∃ k : Nat, k ≤ G.length ∧ t = .int .i64 k ∧ CCI w G C eb fb ab k wr) (fun t _ => G.length - (intOf t).toNat)
  case atStart => exact ⟨0, by omega, rfl, HREL.out _⟩
  case round =>
    clear HREL
    obtain ⟨k, hk, rfl, hP⟩ := hrel
    by_cases hk' : k < G.length
    · obtain ⟨q, hq⟩ : ∃ q, G[k]? = some q := ⟨G[k], List.getElem?_eq_getElem hk'⟩
      have hqm := List.mem_of_getElem? hq
      obtain ⟨a, u, us, e0, e1, e2, hnm, ha, hu, hrows⟩ := HR.out.get hq
      have k0 := sl_cell hg HC.out hP.low e0
      have k1 := sl_cell hg HC.out hP.low e1
      have k2 := sl_cell hg HC.out hP.low e2
      have hqn : q.name ∈ f.map (·.1) := (HK.out.names q.name).1 (List.mem_map.2 ⟨q, hqm, rfl⟩)
      obtain ⟨tb, hl, hin⟩ := look_in (f := fa) (s := q.name) (by rw [HK.out.same]; simpa using hqn)
      have hread : ∀ W', Below w.heap.size w W' → (Instr.lookup 89 (.map (some ab)) (.string a) false).run Tryz.prog W' = .ok (.map (some tb)) W' := fun W' hW => by
        rw [(HK.out.amap.below hW).read a (le_max ha), hnm, hl]
      have hF : (fun w n => (PredP.fsts G w).contains n) = Fof c := funext fun x => funext fun n => (HK.out.fst x n).symm
      have hA : (fun w => (PredP.afts G w).contains q.name) = fun x => Fof d x q.name := funext fun x => (HK.out.aft x q.name).symm
      have hl0 : (PredP.nul G).contains = l0.contains := funext fun x => (HK.out.nul x).symm
      have hpq : placesQ G q = PredP.placesE (Fof c) l0.contains (fun _ => false) (fun x => Fof d x q.name) q.body := by
        unfold placesQ
        rw [hF, hA, hl0]
      have hCE : ∀ W', Below w.heap.size w W' → Calls Tryz.prog 81 #[.agg #[.map (some eb), .map (some fb), .map (some ab)], u, .map (some tb)] W' (CPost W' (PredP.firstClash C (placesQ G q))) := fun W' hW => by
        rw [hpq]
        exact (cla_all hC l0 f (Fof c) eb fb (some ab) (SizeOf.sizeOf q.body)).2 q.body (Nat.le_refl _) ok W' u us tb _ (HK.out.sts.below hW) (hu.below hW) (hrows.below hW) (fun x hx => by
          have := (HK.out.names x.1).1 (by simpa using hK q hqm x hx)
          simpa using this) (fun x hx => List.mem_cons_of_mem _ (List.mem_flatMap.2 ⟨q, hqm, hx⟩)) ⟨d q.name, (HK.out.aset _ hin).below hW, HK.out.aU _, fun _ => rfl⟩
      obtain ⟨ua, un, uc, rfl⟩ := hu.form
      have hbW : Below wr.heap.size wr (wr.alloc (.cells #[.string a, .int .i64 (q.pos : Int), .slice ua un uc] 97)) := (Below.refl _ _).alloc (Nat.le_refl _) _
      have x0 : (wr.alloc (.cells #[.string a, .int .i64 (q.pos : Int), .slice ua un uc] 97)).cell? ⟨wr.heap.size, 0, none⟩ = some (.string a) := cell_fresh rfl
      have x2 : (wr.alloc (.cells #[.string a, .int .i64 (q.pos : Int), .slice ua un uc] 97)).cell? ⟨wr.heap.size, 2, none⟩ = some (.slice ua un uc) := cell_fresh rfl
      have hrd := hread _ (Below.all hP.low hbW)
      have s0 := (hbW.cell (World.block_lt_of_cell? _ _ hP.c0)).trans hP.c0
      have s1 := (hbW.cell (World.block_lt_of_cell? _ _ hP.c1)).trans hP.c1
      have s2 := (hbW.cell (World.block_lt_of_cell? _ _ hP.c2)).trans hP.c2
      have HCE := PredP.hide hCE
      have HQ := PredP.hide hq
      clear hCE hread hq hqm hqn hl hin e0 e1 e2 hnm hu hrows hF hA hl0 hpq
      go_wp2_with (go_at_call 81; refine (HCE.out _ (Below.all hP.low hbW)).mono ?_; rintro e3 w3 ⟨v3, rfl, hb3, hce3⟩; have hb3z := Below.all hbW hb3; rcases hce3.form with ⟨ho3, rfl⟩ | ⟨x3, q3, ho3, rfl⟩)
      · exact ⟨⟨k + 1, by omega, by go_num, Below.all hP.low hb3z, fun x hx => by
          rw [List.take_add_one, HQ.out] at hx
          rcases List.mem_append.1 hx with hx | hx
          · exact hP.calm x hx
          · simp at hx; subst hx; exact ho3, (hb3z.cell (World.block_lt_of_cell? _ _ hP.c0)).trans hP.c0, (hb3z.cell (World.block_lt_of_cell? _ _ hP.c1)).trans hP.c1, (hb3z.cell (World.block_lt_of_cell? _ _ hP.c2)).trans hP.c2⟩, by simp [intOf]; omega⟩
      · go_ret
        refine ⟨_, rfl, Below.all hP.low hb3z, ?_⟩
        have hs : PredP.firstClash C (PredP.places G) = some x3 := by rw [places_flat]; exact clash_rules_some HQ.out hP.calm ho3
        rw [hs]
        rw [ho3] at hce3
        exact CErr.below (o := some x3) hce3 (Below.refl _ _) (Below.all hP.low hbW).size
    · go_wp2_with fail
      go_ret
      refine ⟨_, rfl, hP.low, ?_⟩
      have hn := hP.calm
      rw [List.take_of_length_le (by omega)] at hn
      rw [places_flat, clash_rules_none hn]
      rfl

end Go.Proofs.YtpcmemcanpgadaaGreatDoor
