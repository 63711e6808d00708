import Derived.Test.YtpcmemcanpgadaaGreatDoorMapG
/-
  sizeOf: how many words the sets have.
-/
namespace Go.Proofs.YtpcmemcanpgadaaGreatDoor
open Go.RowKit Go.Maps

def partSum (c : PredP.Str → List PredP.Str) (left : Lit → Bool) (f : List (PredP.Str × Nat)) : Nat := (f.map fun p => if left (.string p.1) then 0 else (c p.1).length).sum
def total (c : PredP.Str → List PredP.Str) (f : List (PredP.Str × Nat)) : Nat := (f.map fun p => (c p.1).length).sum
theorem partSum_none (c : PredP.Str → List PredP.Str) (left : Lit → Bool) : ∀ (f : List (PredP.Str × Nat)), (∀ p, p ∈ f → left (.string p.1) = true) → partSum c left f = 0
  | [], _ => rfl
  | p :: f, h => by
    have h1 := partSum_none c left f (fun q hq => h q (List.mem_cons_of_mem _ hq))
    unfold partSum at *
    rw [List.map_cons, List.sum_cons, h p List.mem_cons_self, h1]; rfl
theorem partSum_all (c : PredP.Str → List PredP.Str) (left : Lit → Bool) (h : ∀ z, left z = false) (f : List (PredP.Str × Nat)) : partSum c left f = total c f := by
  unfold partSum total
  simp [h]
theorem partSum_le (c : PredP.Str → List PredP.Str) (left : Lit → Bool) : ∀ (f : List (PredP.Str × Nat)), partSum c left f ≤ total c f
  | [] => Nat.le_refl _
  | p :: f => by
    have h1 := partSum_le c left f
    unfold partSum total at *
    rw [List.map_cons, List.sum_cons, List.map_cons, List.sum_cons]
    split <;> omega
theorem partSum_same (c : PredP.Str → List PredP.Str) (left : Lit → Bool) (s : PredP.Str) : ∀ (f : List (PredP.Str × Nat)), s ∉ f.map (·.1) → partSum c (fun z => left z && !z.sameKey (.string s)) f = partSum c left f
  | [], _ => rfl
  | p :: f, h => by
    have hne : p.1 ≠ s := fun e => h (by rw [List.map_cons, e]; exact List.mem_cons_self)
    have h1 := partSum_same c left s f (fun hm => h (List.mem_cons_of_mem _ hm))
    unfold partSum at *
    rw [List.map_cons, List.sum_cons, List.map_cons, List.sum_cons, h1]
    have : (p.1 == s) = false := by simpa using hne
    simp [sameKey_str, this]
theorem partSum_step (c : PredP.Str → List PredP.Str) (left : Lit → Bool) (s : PredP.Str) (hl : left (.string s) = true) : ∀ (f : List (PredP.Str × Nat)), (f.map (·.1)).Nodup → s ∈ f.map (·.1) → partSum c (fun z => left z && !z.sameKey (.string s)) f = partSum c left f + (c s).length
  | [], _, h => by simp at h
  | p :: f, hn, h => by
    rw [List.map_cons, List.nodup_cons] at hn
    by_cases hp : p.1 = s
    · have h1 := partSum_same c left s f (by rw [← hp]; exact hn.1)
      unfold partSum at *
      rw [List.map_cons, List.sum_cons, List.map_cons, List.sum_cons, h1]
      simp [sameKey_str, hp, hl]; omega
    · have h1 := partSum_step c left s hl f hn.2 (by rcases List.mem_cons.1 h with h | h; exact absurd h.symm hp; exact h)
      unfold partSum at *
      rw [List.map_cons, List.sum_cons, List.map_cons, List.sum_cons, h1]
      have : (p.1 == s) = false := by simpa using hp
      simp [sameKey_str, this]; omega

structure SzRel (w : World) (b : Nat) (f : List (PredP.Str × Nat)) (c : PredP.Str → List PredP.Str) (D : DataW (Option Nat)) (r : Nat) (left : Lit → Bool) (cnt acc : Nat) (wr : World) : Prop where
  rg : wr.ranges Tryz.prog 9 blkElem b r f.length D left cnt
  below : Below w.heap.size w wr
  sum : acc = partSum c left f
  lefts : ∀ s, left (.string s) = true → (f.map (·.1)).contains s = true
  rlt : w.heap.size ≤ r

set_option maxRecDepth 100000 in
set_option maxHeartbeats 2000000 in
theorem sizeOf_any (w : World) (b : Nat) (f : List (PredP.Str × Nat)) (c : PredP.Str → List PredP.Str) (hm : MapAt w b f) (hs : ∀ p, p ∈ f → SetAt w p.2 (c p.1)) (ht : total c f < maxLen) :
    Calls Tryz.prog 113 #[.map (some b)] w fun e w' => e = .returned (.int .i64 (total c f : Int)) ∧ Below w.heap.size w w' := by
  obtain ⟨D, hown, hnd, hat, hz, hh⟩ := hm
  have HS := PredP.hide hs
  have HAT := PredP.hide hat
  have HH := PredP.hide hh
  clear hs hat hh
  have ht' := ht
  unfold maxLen at ht'
  go_enter Tryz.func113, Tryz.ntmps113
  go_wp2_with (at_range; refine wpList_range_own _ rfl _ 89 rfl 9 88 lawStr undMap _ b f.length _ rfl hown ?_; intro w0 hrg0 hg0 hs0)
  go_frame
  have hrel0 : SzRel w b f c D w.heap.size (Maps.has D) (Maps.size D) 0 w0 := ⟨hrg0, (Below.refl _ w).grown hg0 (Nat.le_refl _) (fun k e => by cases e), (partSum_none c _ f (fun p hp => by rw [HH.out]; simp; exact ⟨_, hp⟩)).symm, fun s h => by rw [← HH.out]; exact h, Nat.le_refl _⟩
  go_loopw [3] (fun t wr => ∃ left cnt acc, t = .int .i64 (acc : Nat) ∧ SzRel w b f c D w.heap.size left cnt acc wr) (fun _ wr => wr.rangeLeft b w.heap.size)
  case atStart => exact ⟨_, _, 0, rfl, hrel0⟩
  case round =>
    clear hrel0
    obtain ⟨left, cnt, acc, rfl, hR⟩ := hrel
    have hacc : acc ≤ total c f := by rw [hR.sum]; exact partSum_le c left f
    go_wp2_with (at_next; refine wpList_next_ranges _ rfl _ rfl 9 lawStr blkElem Value.string (fun o : Option Nat => .map o) (fun key kl hk => by obtain ⟨x, rfl, _⟩ := Go.WideMaps.string_of_keyOf undStr hk; exact ⟨x, rfl⟩) (fun v y hv => by cases v with | map o => exact ⟨o, rfl⟩ | _ => cases hv) b w.heap.size f.length _ _ _ rfl hR.rg ?_ ?_)
    · intro hc0 hl0
      have hsum : (acc : Int) = (total c f : Int) := by rw [hR.sum, partSum_all c left hl0]
      have HSum := PredP.hide hsum
      clear hsum
      go_wp2_with fail
      go_ret
      exact ⟨by rw [HSum.out]; rfl, hR.below⟩
    · intro x o kl y ys w1 cnt1 hkey hlk hv hat1 hrg1 hlt hg1 hs1 hen
      obtain ⟨x', ex, ekl, hx⟩ := Go.WideMaps.string_of_keyOf undStr hkey
      cases ex
      have ekl' : kl = .string (PredP.bs x) := ekl
      rw [ekl'] at hlk hrg1 hat1
      obtain ⟨tb, hl, hin⟩ := look_in (hR.lefts _ hlk)
      have ho : o = some tb := by
        have h1 := hat1 (.held none)
        rw [HAT.out, hl] at h1
        have h2 : DataW.held o = y := by simp [blkElem] at hv; exact hv.1
        rw [← h2] at h1
        cases h1; rfl
      subst ho
      have hb1 : Below w.heap.size w w1 := hR.below.grown hg1 hR.below.size (fun k e => by cases e; exact hR.rlt)
      have hset := (HS.out _ hin).below hb1
      obtain ⟨D2, hown2, _, _, hz2⟩ := hset
      have hsum := partSum_step c left (PredP.bs x) hlk f hnd (by have := hR.lefts _ hlk; simpa using this)
      have hle2 : acc + Maps.size D2 ≤ total c f := by rw [hz2, hR.sum, ← hsum]; exact partSum_le c _ f
      have hrel1 : SzRel w b f c D w.heap.size (fun z => left z && !z.sameKey (.string (PredP.bs x))) cnt1 (acc + Maps.size D2) w1 := ⟨hrg1, hb1, by rw [hsum, hz2, hR.sum], fun s h => hR.lefts s (by rw [Bool.and_eq_true] at h; exact h.1), hR.rlt⟩
      have hmu : w1.rangeLeft b w.heap.size < wr.rangeLeft b w.heap.size := by rw [hrg1.left_eq, hR.rg.left_eq]; exact hlt
      have HR1 := PredP.hide hrel1
      have HMu := PredP.hide hmu
      clear hrel1 hmu hsum hz2 hl hin hat1 hv ekl ekl' hkey
      go_wp2_with (at_len; refine wpList_len_own _ rfl _ 88 rfl 9 100 undSet _ tb _ D2 rfl hown2 ?_)
      exact ⟨⟨_, _, acc + Maps.size D2, by go_num, HR1.out⟩, HMu.out⟩

end Go.Proofs.YtpcmemcanpgadaaGreatDoor

/-
  growAll, with either step. (By program: gen_grow.py.)
-/
namespace Go.Proofs.YtpcmemcanpgadaaGreatDoor
open Go.RowKit Go.Maps

structure GrowRel (f : List (PredP.Str × Nat)) (J : (PredP.Str → List PredP.Str) → World → Prop) (Done : (PredP.Str → List PredP.Str) → Prop) (w : World) (bf : Int) (c : PredP.Str → List PredP.Str) (wr : World) : Prop where
  inv : J c wr
  low : -1 ≤ bf
  le : bf ≤ (total c f : Int)
  fin : bf = (total c f : Int) → Done c

set_option maxRecDepth 100000 in
set_option maxHeartbeats 2000000 in
theorem growF (b : Nat) (f : List (PredP.Str × Nat)) (lb : List Value) (J : (PredP.Str → List PredP.Str) → World → Prop) (Done : (PredP.Str → List PredP.Str) → Prop) (T : Nat) (hT : T < maxLen)
    (hJ : ∀ c W, J c W → MapAt W b f ∧ (∀ p, p ∈ f → SetAt W p.2 (c p.1)) ∧ total c f ≤ T) (hB : ∀ c W W', J c W → Below W.heap.size W W' → J c W')
    (hstep : ∀ c W, J c W → Calls Tryz.prog 76 lb.toArray W fun e W' => e = .returned (.tuple #[]) ∧ ∃ c', J c' W' ∧ total c f ≤ total c' f ∧ (total c' f = total c f → Done c'))
    (w : World) (c0 : PredP.Str → List PredP.Str) (h0 : J c0 w) :
    Calls Tryz.prog 75 #[.map (some b), .func (.func 76) #[] lb.toArray] w fun e w' => e = .returned (.tuple #[]) ∧ ∃ c, J c w' ∧ Done c := by
  have HJ := PredP.hide hJ
  have HB := PredP.hide hB
  have HST := PredP.hide hstep
  have H0 := PredP.hide h0
  clear hJ hB hstep h0
  unfold maxLen at hT
  go_enter Tryz.func75, Tryz.ntmps75
  go_wp2_with fail
  go_loopw [4] (fun t wr => ∃ bf c, t = .int .i64 bf ∧ GrowRel f J Done w bf c wr) (fun t _ => ((T : Int) - intOf t).toNat)
  case atStart => exact ⟨-1, c0, rfl, H0.out, by omega, by omega, fun e => by omega⟩
  case round =>
    obtain ⟨bf, c, rfl, hR⟩ := hrel
    obtain ⟨m1, s1, t1⟩ := HJ.out _ _ hR.inv
    have C1 := PredP.hide (sizeOf_any wr b f c m1 s1 (by unfold maxLen; omega))
    have C2 : Hid (∀ W, J c W → Calls Tryz.prog 113 #[.map (some b)] W fun e w' => e = .returned (.int .i64 (total c f : Int)) ∧ Below W.heap.size W w') := PredP.hide (fun W hW => by
      obtain ⟨m2, s2, t2⟩ := HJ.out _ _ hW
      exact sizeOf_any W b f c m2 s2 (by unfold maxLen; omega))
    have hlow := hR.low
    have hle := hR.le
    clear m1 s1
    by_cases hlt : bf < (total c f : Int)
    · go_wp2_with (first
        | (go_at_call 76; refine (HST.out _ _ hj2).mono ?_; rintro e w3 ⟨rfl, c', hj3, hge, hfin⟩)
        | (go_at_call 113; refine (C2.out _ hj1).mono ?_; rintro e w2 ⟨rfl, hb2⟩; have hj2 := HB.out _ _ _ hj1 hb2)
        | (go_at_call 113; refine C1.out.mono ?_; rintro e w1 ⟨rfl, hb1⟩; have hj1 := HB.out _ _ _ hR.inv hb1))
      have t3 := (HJ.out _ _ hj3).2.2
      exact ⟨⟨_, c', rfl, hj3, by omega, by omega, fun e => hfin (by omega)⟩, by simp only [intOf]; omega⟩
    · go_wp2_with (go_at_call 113; refine C1.out.mono ?_; rintro e w1 ⟨rfl, hb1⟩; have hj1 := HB.out _ _ _ hR.inv hb1)
      go_end0
      exact ⟨rfl, c, hj1, hR.fin (by omega)⟩

set_option maxRecDepth 100000 in
set_option maxHeartbeats 2000000 in
theorem growA (b : Nat) (f : List (PredP.Str × Nat)) (lb : List Value) (J : (PredP.Str → List PredP.Str) → World → Prop) (Done : (PredP.Str → List PredP.Str) → Prop) (T : Nat) (hT : T < maxLen)
    (hJ : ∀ c W, J c W → MapAt W b f ∧ (∀ p, p ∈ f → SetAt W p.2 (c p.1)) ∧ total c f ≤ T) (hB : ∀ c W W', J c W → Below W.heap.size W W' → J c W')
    (hstep : ∀ c W, J c W → Calls Tryz.prog 79 lb.toArray W fun e W' => e = .returned (.tuple #[]) ∧ ∃ c', J c' W' ∧ total c f ≤ total c' f ∧ (total c' f = total c f → Done c'))
    (w : World) (c0 : PredP.Str → List PredP.Str) (h0 : J c0 w) :
    Calls Tryz.prog 75 #[.map (some b), .func (.func 79) #[] lb.toArray] w fun e w' => e = .returned (.tuple #[]) ∧ ∃ c, J c w' ∧ Done c := by
  have HJ := PredP.hide hJ
  have HB := PredP.hide hB
  have HST := PredP.hide hstep
  have H0 := PredP.hide h0
  clear hJ hB hstep h0
  unfold maxLen at hT
  go_enter Tryz.func75, Tryz.ntmps75
  go_wp2_with fail
  go_loopw [4] (fun t wr => ∃ bf c, t = .int .i64 bf ∧ GrowRel f J Done w bf c wr) (fun t _ => ((T : Int) - intOf t).toNat)
  case atStart => exact ⟨-1, c0, rfl, H0.out, by omega, by omega, fun e => by omega⟩
  case round =>
    obtain ⟨bf, c, rfl, hR⟩ := hrel
    obtain ⟨m1, s1, t1⟩ := HJ.out _ _ hR.inv
    have C1 := PredP.hide (sizeOf_any wr b f c m1 s1 (by unfold maxLen; omega))
    have C2 : Hid (∀ W, J c W → Calls Tryz.prog 113 #[.map (some b)] W fun e w' => e = .returned (.int .i64 (total c f : Int)) ∧ Below W.heap.size W w') := PredP.hide (fun W hW => by
      obtain ⟨m2, s2, t2⟩ := HJ.out _ _ hW
      exact sizeOf_any W b f c m2 s2 (by unfold maxLen; omega))
    have hlow := hR.low
    have hle := hR.le
    clear m1 s1
    by_cases hlt : bf < (total c f : Int)
    · go_wp2_with (first
        | (go_at_call 79; refine (HST.out _ _ hj2).mono ?_; rintro e w3 ⟨rfl, c', hj3, hge, hfin⟩)
        | (go_at_call 113; refine (C2.out _ hj1).mono ?_; rintro e w2 ⟨rfl, hb2⟩; have hj2 := HB.out _ _ _ hj1 hb2)
        | (go_at_call 113; refine C1.out.mono ?_; rintro e w1 ⟨rfl, hb1⟩; have hj1 := HB.out _ _ _ hR.inv hb1))
      have t3 := (HJ.out _ _ hj3).2.2
      exact ⟨⟨_, c', rfl, hj3, by omega, by omega, fun e => hfin (by omega)⟩, by simp only [intOf]; omega⟩
    · go_wp2_with (go_at_call 113; refine C1.out.mono ?_; rintro e w1 ⟨rfl, hb1⟩; have hj1 := HB.out _ _ _ hR.inv hb1)
      go_end0
      exact ⟨rfl, c, hj1, hR.fin (by omega)⟩

end Go.Proofs.YtpcmemcanpgadaaGreatDoor

/-
  afterWithin.
-/
namespace Go.Proofs.YtpcmemcanpgadaaGreatDoor
open Go.RowKit Go.Maps

/-- which words are behind the expression within a part -/
def withinP (F : PredP.Str → PredP.Str → Bool) (l0 : List PredP.Str) (A : PredP.Str → Bool) : PredP.Part → PredP.Str → Bool
  | .br .loop _ e, x => PredP.fstE x (F x) l0.contains e || A x
  | _, x => A x
def AftPost (U : List PredP.Str) (w : World) (va : Value) (g : PredP.Str → Bool) (e : Ending) (w' : World) : Prop := ∃ v, e = .returned v ∧ MaySet U w' v g ∧ (v = va ∨ ∃ b, v = .map (some b) ∧ w.heap.size ≤ b) ∧ Below w.heap.size w w'

set_option maxRecDepth 100000 in
set_option maxHeartbeats 2000000 in
theorem afterWithin_any (U l0 : List PredP.Str) (hU : 2 * U.length < maxLen) (f : List (PredP.Str × Nat)) (F : PredP.Str → PredP.Str → Bool) (eb fb : Nat) (ao : Option Nat) (p : PredP.Part) (ok : Nat → Prop) (w : World) (v va : Value) (A : PredP.Str → Bool)
    (hst : Sts U l0 f F eb fb w) (hp : partAt ok w p v) (hnm : NamesIn f (PredP.namesP p)) (hwd : WordsIn U (PredP.wordsP p)) (hva : MaySet U w va A) :
    Calls Tryz.prog 116 #[.agg #[.map (some eb), .map (some fb), .map ao], v, va] w (AftPost U w va (withinP F l0 A p)) := by
  obtain ⟨vo, rfl⟩ := hva.form
  have hB0 : ∀ o, Below w.heap.size w (w.alloc o) := fun o => (Below.refl _ w).alloc (Nat.le_refl _) o
  have HVA := PredP.hide hva
  cases p with
  | word s =>
    unfold partAt at hp
    obtain ⟨b, a, rfl, _⟩ := hp
    clear hst hnm hwd hva
    have as1 := as_word_loop
    go_enter Tryz.func116, Tryz.ntmps116
    go_wp2_with fail
    go_ret
    exact ⟨_, rfl, HVA.out.below (hB0 _), .inl rfl, hB0 _⟩
  | name s q =>
    unfold partAt at hp
    obtain ⟨b, a, rfl, _⟩ := hp
    clear hst hnm hwd hva
    have as1 := as_name_loop
    go_enter Tryz.func116, Tryz.ntmps116
    go_wp2_with fail
    go_ret
    exact ⟨_, rfl, HVA.out.below (hB0 _), .inl rfl, hB0 _⟩
  | br k q e =>
    unfold partAt at hp
    obtain ⟨b, u, cs, rfl, hok, hb, c0, c1, hsl, hrows⟩ := hp
    cases k with
    | opt =>
      clear hst hnm hwd hva hsl hrows
      simp only [tyOf]
      have as1 := as_option_loop
      go_enter Tryz.func116, Tryz.ntmps116
      go_wp2_with fail
      go_ret
      exact ⟨_, rfl, HVA.out.below (hB0 _), .inl rfl, hB0 _⟩
    | grp =>
      clear hst hnm hwd hva hsl hrows
      simp only [tyOf]
      have as1 := as_group_loop
      go_enter Tryz.func116, Tryz.ntmps116
      go_wp2_with fail
      go_ret
      exact ⟨_, rfl, HVA.out.below (hB0 _), .inl rfl, hB0 _⟩
    | loop =>
      have hC : ∀ W, Below w.heap.size w W → Calls Tryz.prog 78 #[.agg #[.map (some eb), .map (some fb), .map ao], u, .map none] W (TelPost U W (fun x => PredP.telE x (F x) l0.contains false e)) := fun W hW =>
        (tel_all U l0 hU f F eb fb ao (SizeOf.sizeOf e)).2.2 e (Nat.le_refl _) ok W u cs (.map none) (fun _ => false) (hst.below hW) (hsl.below hW) (hrows.below hW) (fun x hx => hnm x (by rw [PredP.namesP]; exact hx)) (fun x hx => hwd x (by rw [PredP.wordsP]; exact hx)) (.inl ⟨rfl, fun _ => rfl⟩)
      have HC := PredP.hide hC
      obtain ⟨ua, un, uc, rfl⟩ := hsl.form
      have hvlt : ∀ bb, vo = some bb → bb < w.heap.size := fun bb hbb => by
        rcases hva with ⟨h, _⟩ | ⟨b2, h, hs⟩
        · rw [hbb] at h; cases h
        · rw [hbb] at h; cases h; exact hs.lt
      have HLT := PredP.hide hvlt
      clear hst hsl hrows hnm hwd hC hva hvlt
      simp only [tyOf]
      have as1 := as_loop_loop
      go_enter Tryz.func116, Tryz.ntmps116
      go_wp2_with fail
      have hBW : Below w.heap.size w (w.alloc (.cells #[.map (some eb), .map (some fb), .map ao] 91)) := hB0 _
      have x0 : (w.alloc (.cells #[.map (some eb), .map (some fb), .map ao] 91)).cell? ⟨w.heap.size, 0, none⟩ = some (.map (some eb)) := cell_fresh rfl
      have x1 : (w.alloc (.cells #[.map (some eb), .map (some fb), .map ao] 91)).cell? ⟨w.heap.size, 1, none⟩ = some (.map (some fb)) := cell_fresh rfl
      have x2 : (w.alloc (.cells #[.map (some eb), .map (some fb), .map ao] 91)).cell? ⟨w.heap.size, 2, none⟩ = some (.map ao) := cell_fresh rfl
      generalize w.alloc (.cells #[.map (some eb), .map (some fb), .map ao] 91) = W at hBW x0 x1 x2 ⊢
      have d0 := (hBW.cell (p := ⟨b, 0, none⟩) hb).trans c0
      have d1 := (hBW.cell (p := ⟨b, 1, none⟩) hb).trans c1
      have hBd : Below w.heap.size w { W with drawn := W.drawn + 1 } := ⟨hBW.os, hBW.tape, hBW.output, hBW.size, hBW.block⟩
      go_still_tail 6, mixed
      generalize { W with drawn := W.drawn + 1 } = Wd at hBd ⊢
      go_wp2_with (first
        | (go_at_call 78; refine (HC.out _ hBd).mono ?_; rintro e2 w2 ⟨fbk, rfl, hwh, hs2, hb2⟩; have hbz := Below.all hBd hb2)
        | (go_at_call 77; refine (addAll_may U hU _ fbk (.map vo) _ _ hs2 (HVA.out.below hbz) (fun e => by cases e; have := HLT.out _ rfl; have := hBd.size; omega)).mono ?_; rintro e3 w3 ⟨rfl, hbt3, hs3⟩))
      go_ret
      exact ⟨_, rfl, .inr ⟨fbk, rfl, hs3.cast fun x => by rw [telE_false]; rfl⟩, .inr ⟨fbk, rfl, by have := hBd.size; omega⟩, hbt3.belowOf hbz (by have := hBd.size; omega) hbz.size⟩

end Go.Proofs.YtpcmemcanpgadaaGreatDoor

/-
  What is known of a grammar's rules while their sets grow.
-/
namespace Go.Proofs.YtpcmemcanpgadaaGreatDoor
open Go.RowKit Go.Maps

/-- what stays as it is: where all lies -/
structure KS where
  w0 : World
  U : List PredP.Str
  l0 : List PredP.Str
  f : List (PredP.Str × Nat)
  fa : List (PredP.Str × Nat)
  eb : Nat
  fb : Nat
  ab : Nat
  rp : Nat
  sp : Nat
  v : Value
def KS.all (S : KS) : List Nat := S.eb :: S.fb :: S.ab :: S.rp :: S.sp :: (S.f.map (·.2) ++ S.fa.map (·.2))
structure Apart (S : KS) : Prop where
  nd : S.all.Nodup
  lo : ∀ b, b ∈ S.f.map (·.2) ++ S.fa.map (·.2) → S.w0.heap.size ≤ b
  nf : (S.f.map (·.1)).Nodup
  na : (S.fa.map (·.1)).Nodup
  same : S.fa.map (·.1) = S.f.map (·.1)
  hU : 2 * S.U.length < maxLen
abbrev Words := PredP.Str → List PredP.Str
structure Kn (S : KS) (c d : Words) (W : World) : Prop where
  low : Below S.w0.heap.size S.w0 W
  empty : SetAt W S.eb S.l0
  fmap : MapAt W S.fb S.f
  amap : MapAt W S.ab S.fa
  fset : ∀ p, p ∈ S.f → SetAt W p.2 (c p.1)
  aset : ∀ p, p ∈ S.fa → SetAt W p.2 (d p.1)
  fU : ∀ n x, x ∈ c n → x ∈ S.U
  aU : ∀ n x, x ∈ d n → x ∈ S.U
  rc : W.cell? ⟨S.rp, 0, none⟩ = some S.v
  s0 : W.cell? ⟨S.sp, 0, none⟩ = some (.map (some S.eb))
  s1 : W.cell? ⟨S.sp, 1, none⟩ = some (.map (some S.fb))
  s2 : W.cell? ⟨S.sp, 2, none⟩ = some (.map (some S.ab))
def Fof (c : Words) : PredP.Str → PredP.Str → Bool := fun x n => (c n).contains x

theorem nodup_map_inj {α β : Type} {g : α → β} : ∀ {l : List α}, (l.map g).Nodup → ∀ {a b : α}, a ∈ l → b ∈ l → g a = g b → a = b
  | [], _, _, _, h, _, _ => by simp at h
  | x :: l, hn, a, b, ha, hb, e => by
    rw [List.map_cons, List.nodup_cons] at hn
    rcases List.mem_cons.1 ha with ha | ha
    · rcases List.mem_cons.1 hb with hb | hb
      · rw [ha, hb]
      · exact absurd (List.mem_map.2 ⟨b, hb, by rw [← e, ha]⟩) hn.1
    · rcases List.mem_cons.1 hb with hb | hb
      · exact absurd (List.mem_map.2 ⟨a, ha, by rw [e, hb]⟩) hn.1
      · exact nodup_map_inj hn.2 ha hb e

theorem Apart.parts {S : KS} (h : Apart S) : (∀ b, b ∈ S.f.map (·.2) ++ S.fa.map (·.2) → b ≠ S.eb ∧ b ≠ S.fb ∧ b ≠ S.ab ∧ b ≠ S.rp ∧ b ≠ S.sp ∧ S.w0.heap.size ≤ b) ∧ (S.f.map (·.2)).Nodup ∧ (S.fa.map (·.2)).Nodup ∧ ∀ b, b ∈ S.f.map (·.2) → b ∉ S.fa.map (·.2) := by
  have hn := h.nd
  unfold KS.all at hn
  rw [List.nodup_cons, List.nodup_cons, List.nodup_cons, List.nodup_cons, List.nodup_cons, List.nodup_append] at hn
  obtain ⟨h1, h2, h3, h4, h5, h6, h7, h8⟩ := hn
  refine ⟨fun b hb => ⟨fun e => h1 ?_, fun e => h2 ?_, fun e => h3 ?_, fun e => h4 ?_, fun e => h5 ?_, h.lo b hb⟩, h6, h7, fun b hb hb' => h8 b hb b hb' rfl⟩
  · rw [← e]; exact List.mem_cons_of_mem _ (List.mem_cons_of_mem _ (List.mem_cons_of_mem _ (List.mem_cons_of_mem _ hb)))
  · rw [← e]; exact List.mem_cons_of_mem _ (List.mem_cons_of_mem _ (List.mem_cons_of_mem _ hb))
  · rw [← e]; exact List.mem_cons_of_mem _ (List.mem_cons_of_mem _ hb)
  · rw [← e]; exact List.mem_cons_of_mem _ hb
  · rw [← e]; exact hb

def updS (c : Words) (n : PredP.Str) (l : List PredP.Str) : Words := fun m => if m = n then l else c m
theorem updS_same (c : Words) (n : PredP.Str) (l : List PredP.Str) : updS c n l n = l := by simp [updS]
theorem updS_other (c : Words) {n m : PredP.Str} (l : List PredP.Str) (h : m ≠ n) : updS c n l m = c m := by simp [updS, h]
def Le (c c' : Words) : Prop := ∀ n x, x ∈ c n → x ∈ c' n
theorem Le.refl (c : Words) : Le c c := fun _ _ h => h
theorem Le.trans {a b c : Words} (h : Le a b) (k : Le b c) : Le a c := fun n x hx => k n x (h n x hx)
theorem Le.upd {c : Words} {n : PredP.Str} {l : List PredP.Str} (h : ∀ x, x ∈ c n → x ∈ l) : Le c (updS c n l) := fun m x hx => by
  by_cases hm : m = n
  · subst hm; rw [updS_same]; exact h x hx
  · rw [updS_other c l hm]; exact hx

theorem Kn.onward {S : KS} {c d : Words} {W W' : World} (h : Kn S c d W) (hb : Below W.heap.size W W') : Kn S c d W' :=
  ⟨Below.all h.low hb, h.empty.below hb, h.fmap.below hb, h.amap.below hb, fun p hp => (h.fset p hp).below hb, fun p hp => (h.aset p hp).below hb, h.fU, h.aU,
    (hb.cell (World.block_lt_of_cell? _ _ h.rc)).trans h.rc, (hb.cell (World.block_lt_of_cell? _ _ h.s0)).trans h.s0, (hb.cell (World.block_lt_of_cell? _ _ h.s1)).trans h.s1, (hb.cell (World.block_lt_of_cell? _ _ h.s2)).trans h.s2⟩
theorem Kn.sts {S : KS} {c d : Words} {W : World} (h : Kn S c d W) : Sts S.U S.l0 S.f (Fof c) S.eb S.fb W :=
  ⟨h.empty, h.fmap, fun p hp => ⟨c p.1, h.fset p hp, h.fU p.1, fun _ => rfl⟩⟩
theorem But.blockAt {r : Nat} {w w' : World} (h : But r w w') {b : Nat} (hl : b < w.heap.size) (hr : r ≠ b) : w'.heap[b]? = w.heap[b]? := h.block b hl (fun e => hr e.symm)
/-- one set of first grows -/
theorem Kn.setF {S : KS} {c d : Words} {W W' : World} (h : Kn S c d W) (hA : Apart S) {n : PredP.Str} {b : Nat} (hin : (n, b) ∈ S.f) (hbt : But b W W') {l : List PredP.Str} (hs : SetAt W' b l) (hl : ∀ x, x ∈ l → x ∈ S.U) : Kn S (updS c n l) d W' := by
  obtain ⟨hp, hn1, hn2, hdis⟩ := hA.parts
  have hbf : b ∈ S.f.map (·.2) := List.mem_map.2 ⟨_, hin, rfl⟩
  obtain ⟨q1, q2, q3, q4, q5, q6⟩ := hp b (List.mem_append_left _ hbf)
  refine ⟨hbt.belowOf h.low q6 h.low.size, h.empty.block (hbt.blockAt h.empty.lt q1), h.fmap.block (hbt.blockAt h.fmap.lt q2), h.amap.block (hbt.blockAt h.amap.lt q3), fun p hp => ?_, fun p hp => ?_, fun m x hx => ?_, h.aU, hbt.cellAt h.rc q4.symm, hbt.cellAt h.s0 q5.symm, hbt.cellAt h.s1 q5.symm, hbt.cellAt h.s2 q5.symm⟩
  · by_cases e : p.1 = n
    · have : p = (n, b) := nodup_map_inj hA.nf hp hin e
      subst this
      rw [updS_same]; exact hs
    · rw [updS_other c l e]
      have hne : b ≠ p.2 := fun e' => e (by have := nodup_map_inj hn1 hp hin e'.symm; rw [this])
      exact (h.fset p hp).block (hbt.blockAt (h.fset p hp).lt hne)
  · have hne : b ≠ p.2 := fun e' => hdis b hbf (List.mem_map.2 ⟨p, hp, e'.symm⟩)
    exact (h.aset p hp).block (hbt.blockAt (h.aset p hp).lt hne)
  · by_cases e : m = n
    · subst e; rw [updS_same] at hx; exact hl x hx
    · rw [updS_other c l e] at hx; exact h.fU m x hx
/-- one set of after grows -/
theorem Kn.setA {S : KS} {c d : Words} {W W' : World} (h : Kn S c d W) (hA : Apart S) {n : PredP.Str} {b : Nat} (hin : (n, b) ∈ S.fa) (hbt : But b W W') {l : List PredP.Str} (hs : SetAt W' b l) (hl : ∀ x, x ∈ l → x ∈ S.U) : Kn S c (updS d n l) W' := by
  obtain ⟨hp, hn1, hn2, hdis⟩ := hA.parts
  have hbf : b ∈ S.fa.map (·.2) := List.mem_map.2 ⟨_, hin, rfl⟩
  obtain ⟨q1, q2, q3, q4, q5, q6⟩ := hp b (List.mem_append_right _ hbf)
  refine ⟨hbt.belowOf h.low q6 h.low.size, h.empty.block (hbt.blockAt h.empty.lt q1), h.fmap.block (hbt.blockAt h.fmap.lt q2), h.amap.block (hbt.blockAt h.amap.lt q3), fun p hp => ?_, fun p hp => ?_, h.fU, fun m x hx => ?_, hbt.cellAt h.rc q4.symm, hbt.cellAt h.s0 q5.symm, hbt.cellAt h.s1 q5.symm, hbt.cellAt h.s2 q5.symm⟩
  · have hne : b ≠ p.2 := fun e' => hdis p.2 (List.mem_map.2 ⟨p, hp, rfl⟩) (by rw [← e']; exact hbf)
    exact (h.fset p hp).block (hbt.blockAt (h.fset p hp).lt hne)
  · by_cases e : p.1 = n
    · have : p = (n, b) := nodup_map_inj hA.na hp hin e
      subst this
      rw [updS_same]; exact hs
    · rw [updS_other d l e]
      have hne : b ≠ p.2 := fun e' => e (by have := nodup_map_inj hn2 hp hin e'.symm; rw [this])
      exact (h.aset p hp).block (hbt.blockAt (h.aset p hp).lt hne)
  · by_cases e : m = n
    · subst e; rw [updS_same] at hx; exact hl x hx
    · rw [updS_other d l e] at hx; exact h.aU m x hx

/-! Sums. -/
theorem SetAt.nodup {w : World} {b : Nat} {l : List PredP.Str} (h : SetAt w b l) : l.Nodup := by
  obtain ⟨D, _, h, _⟩ := h
  exact h
theorem total_le {c c' : Words} (h : Le c c') : ∀ (f : List (PredP.Str × Nat)), (∀ p, p ∈ f → (c p.1).Nodup) → total c f ≤ total c' f
  | [], _ => Nat.le_refl _
  | p :: f, hn => by
    have h1 := total_le h f (fun q hq => hn q (List.mem_cons_of_mem _ hq))
    have h2 := PredP.nodup_le (c p.1) (c' p.1) (hn p List.mem_cons_self) (h p.1)
    unfold total at *
    rw [List.map_cons, List.sum_cons, List.map_cons, List.sum_cons]
    omega
theorem total_eq {c c' : Words} (h : Le c c') : ∀ (f : List (PredP.Str × Nat)), (∀ p, p ∈ f → (c p.1).Nodup) → total c' f = total c f → ∀ p, p ∈ f → ∀ x, x ∈ c' p.1 → x ∈ c p.1
  | [], _, _, p, hp, _, _ => by simp at hp
  | p :: f, hn, ht, q, hq, x, hx => by
    have h1 := total_le h f (fun q hq => hn q (List.mem_cons_of_mem _ hq))
    have h2 := PredP.nodup_le (c p.1) (c' p.1) (hn p List.mem_cons_self) (h p.1)
    have ht' : (c' p.1).length + total c' f = (c p.1).length + total c f := by
      unfold total at ht ⊢
      rw [List.map_cons, List.sum_cons, List.map_cons, List.sum_cons] at ht
      exact ht
    rcases List.mem_cons.1 hq with hq | hq
    · subst hq
      refine Classical.byContradiction fun hno => ?_
      have h3 := PredP.nodup_le (x :: c q.1) (c' q.1) (List.nodup_cons.2 ⟨hno, hn q List.mem_cons_self⟩) (fun y hy => by
        rcases List.mem_cons.1 hy with e | hy
        · rw [e]; exact hx
        · exact h q.1 y hy)
      rw [List.length_cons] at h3
      omega
    · exact total_eq h f (fun q hq => hn q (List.mem_cons_of_mem _ hq)) (by omega) q hq x hx
theorem total_bound {c : Words} {U : List PredP.Str} : ∀ (f : List (PredP.Str × Nat)), (∀ p, p ∈ f → (c p.1).Nodup) → (∀ n x, x ∈ c n → x ∈ U) → total c f ≤ f.length * U.length
  | [], _, _ => by simp [total]
  | p :: f, hn, hU => by
    have h1 := total_bound f (fun q hq => hn q (List.mem_cons_of_mem _ hq)) hU
    have h2 := PredP.nodup_le (c p.1) U (hn p List.mem_cons_self) (hU p.1)
    unfold total at *
    rw [List.map_cons, List.sum_cons, List.length_cons, Nat.add_mul]
    omega

end Go.Proofs.YtpcmemcanpgadaaGreatDoor
