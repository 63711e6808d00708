import Derived.Test.YtpcmemcanpgadaaGreatDoorHand
/-
  setsOf, the second step: the sets of after grow.
-/
namespace Go.Proofs.YtpcmemcanpgadaaGreatDoor
open Go.RowKit Go.Maps

structure ARel (S : KS) (G : List PredP.Rule) (c d : Words) (Bd : PredP.Str → PredP.Str → Bool) (k : Nat) (d' : Words) (wr : World) : Prop where
  kn : Kn S c d' wr
  le : Le d d'
  bd : Bnd d' Bd
  seen : ∀ j q, j < k → G[j]? = some q → ∀ n x, PredP.occE x (Fof c x) S.l0.contains n (Fof d x q.name) q.body = true → x ∈ d' n
theorem ARel.start {S : KS} {G : List PredP.Rule} {c d : Words} {Bd : PredP.Str → PredP.Str → Bool} {W : World} (h : Kn S c d W) (hb : Bnd d Bd) : ARel S G c d Bd 0 d W :=
  ⟨h, .refl d, hb, fun j q hj => by omega⟩
theorem ARel.step {S : KS} {G : List PredP.Rule} {c d : Words} {Bd : PredP.Str → PredP.Str → Bool} {k : Nat} {d' d2 : Words} {wr w2 : World} (h : ARel S G c d Bd k d' wr) {q : PredP.Rule} (hq : G[k]? = some q) (hk : Kn S c d2 w2) (hb : Bnd d2 Bd) (hl : Le d' d2)
    (ho : ∀ n x, PredP.occE x (Fof c x) S.l0.contains n (Fof d' x q.name) q.body = true → x ∈ d2 n) : ARel S G c d Bd (k + 1) d2 w2 :=
  ⟨hk, h.le.trans hl, hb, fun j q' hj hq' n x hx => by
    by_cases e : j = k
    · subst e
      rw [hq] at hq'; cases hq'
      exact ho n x (PredP.occE_mono x _ _ n (Fof_le h.le x _) _ hx)
    · exact hl n x (h.seen j q' (by omega) hq' n x hx)⟩

/-- what is behind a rule, handed in -/
theorem Arg.outer {S : KS} {c : Words} {Bd : PredP.Str → PredP.Str → Bool} {q : PredP.Rule} {tb : Nat} {W : World} (hin : (q.name, tb) ∈ S.fa) (hB : ∀ n x, PredP.occE x (Fof c x) S.l0.contains n (Bd x q.name) q.body = true → Bd x n = true) : Arg S c Bd tb (fun d x => Fof d x q.name) q.body W :=
  ⟨fun d' _ hk _ => ⟨d' q.name, hk.aset _ hin, hk.aU _, fun _ => rfl⟩, fun _ _ x hl h => Fof_le hl x _ h, fun _ hb n x h => hB n x (PredP.occE_mono x _ _ n (fun h => hb _ x (Fof_mem.1 h)) _ h)⟩

set_option maxRecDepth 100000 in
set_option maxHeartbeats 2000000 in
theorem stepA_any (S : KS) (hA : Apart S) (ok : Nat → Prop) (cs : List Value) (G : List PredP.Rule) (hG : G ≠ []) (hsl : slAt ok S.w0 3 S.v cs) (hr : rulesAt ok S.w0 G cs) (hfit : ∀ q, q ∈ G → Fits S q) (c d : Words) (Bd : PredP.Str → PredP.Str → Bool)
    (hB : ∀ q, q ∈ G → ∀ n x, PredP.occE x (Fof c x) S.l0.contains n (Bd x q.name) q.body = true → Bd x n = true) (W : World) (h : Kn S c d W) (hbd : Bnd d Bd) :
    Calls Tryz.prog 79 #[.pointer (some ⟨S.rp, 0, none⟩), .pointer (some ⟨S.sp, 0, none⟩)] W fun e W' => e = .returned (.tuple #[]) ∧ ∃ d', ARel S G c d Bd G.length d' W' := by
  obtain ⟨g, cap, hv, hm, hg, hcell⟩ := rules_slice hsl hr hG
  have HC := PredP.hide hcell
  have HR := PredP.hide hr
  have HF := PredP.hide hfit
  have HK := PredP.hide (ARel.start (G := G) h hbd)
  have HBB := PredP.hide hB
  have rc := h.rc
  rw [hv] at rc
  clear hcell hsl hr hG hfit h hv hB hbd
  unfold maxLen at hm
  go_enter Tryz.func79, Tryz.ntmps79
  go_wp2_with fail
  clear rc
  go_loopw [6] (fun t wr => ∃ k : Nat, ∃ d', k ≤ G.length ∧ t = .int .i64 k ∧ ARel S G c d Bd k d' wr) (fun t _ => G.length - (intOf t).toNat)
  case atStart => exact ⟨0, d, by omega, rfl, HK.out⟩
  case round =>
    clear HK
    obtain ⟨k, d', hk, rfl, hS⟩ := hrel
    by_cases hk' : k < G.length
    · obtain ⟨q, hq⟩ : ∃ q, G[k]? = some q := ⟨G[k], List.getElem?_eq_getElem hk'⟩
      obtain ⟨a, u, us, e0, e1, e2, hnm, ha, hu, hrows⟩ := HR.out.get hq
      obtain ⟨hf1, hf2, hf3⟩ := HF.out q (List.mem_of_getElem? hq)
      have k0 := sl_cell hg HC.out hS.kn.low e0
      have k1 := sl_cell hg HC.out hS.kn.low e1
      have k2 := sl_cell hg HC.out hS.kn.low e2
      obtain ⟨tb, hl, hin⟩ := look_in (f := S.fa) (s := q.name) (by rw [hA.same]; exact hf1)
      have hread : ∀ W', Below wr.heap.size wr W' → (Instr.lookup 89 (.map (some S.ab)) (.string a) false).run Tryz.prog W' = .ok (.map (some tb)) W' := fun W' hW => by
        rw [(hS.kn.amap.below hW).read a (le_max ha), hnm, hl]
      have hC : ∀ W', Below wr.heap.size wr W' → Calls Tryz.prog 80 #[.agg #[.map (some S.eb), .map (some S.fb), .map (some S.ab)], u, .map (some tb)] W' (HandPost S c Bd d' (fun d x => Fof d x q.name) q.body W') := fun W' hW =>
        hand_all S hA c Bd (SizeOf.sizeOf q.body) q.body (Nat.le_refl _) ok W' u us tb _ d' (hS.kn.onward hW) hS.bd hu hrows hf2 hf3 (.outer hin (HBB.out q (List.mem_of_getElem? hq)))
      obtain ⟨ua, un, uc, rfl⟩ := hu.form
      have HC1 := PredP.hide hC
      have HQ := PredP.hide hq
      have hbW : Below wr.heap.size wr (wr.alloc (.cells #[.string a, .int .i64 (q.pos : Int), .slice ua un uc] 97)) := (Below.refl _ _).alloc (Nat.le_refl _) _
      have x0 : (wr.alloc (.cells #[.string a, .int .i64 (q.pos : Int), .slice ua un uc] 97)).cell? ⟨wr.heap.size, 0, none⟩ = some (.string a) := cell_fresh rfl
      have x2 : (wr.alloc (.cells #[.string a, .int .i64 (q.pos : Int), .slice ua un uc] 97)).cell? ⟨wr.heap.size, 2, none⟩ = some (.slice ua un uc) := cell_fresh rfl
      have hrd := hread _ hbW
      have hK1 := hS.kn.onward hbW
      have s0 := hK1.s0
      have s1 := hK1.s1
      have s2 := hK1.s2
      clear hC hread hq hin hl e0 e1 e2 hnm hu hrows hf1 hf2 hf3 hK1
      go_wp2_with (go_at_call 80; refine (HC1.out _ hbW).mono ?_; rintro e w1 ⟨rfl, hba, d2, hk2, hb2, hl2, ho2⟩)
      exact ⟨⟨k + 1, d2, by omega, by go_num, hS.step HQ.out hk2 hb2 hl2 ho2⟩, by simp [intOf]; omega⟩
    · go_wp2_with fail
      go_end0
      have ek : k = G.length := by omega
      subst ek
      exact ⟨rfl, d', hS⟩

end Go.Proofs.YtpcmemcanpgadaaGreatDoor

/-
  setsOf: why the growing ends at the least sets.
-/
namespace Go.Proofs.YtpcmemcanpgadaaGreatDoor
open Go.RowKit Go.Maps

def FB (G : List PredP.Rule) (x n : PredP.Str) : Bool := (PredP.fsts G x).contains n
def AB (G : List PredP.Rule) (x n : PredP.Str) : Bool := (PredP.afts G x).contains n
theorem FB_name {G : List PredP.Rule} {x n : PredP.Str} (h : FB G x n = true) : n ∈ PredP.names G := PredP.least_sub _ _ (by simpa [FB, PredP.fsts] using h)
theorem AB_name {G : List PredP.Rule} {x n : PredP.Str} (h : AB G x n = true) : n ∈ PredP.names G := PredP.least_sub _ _ (by simpa [AB, PredP.afts] using h)

/-- what the statements of the rules' memory want -/
structure RulesOk (S : KS) (ok : Nat → Prop) (cs : List Value) (G : List PredP.Rule) : Prop where
  apart : Apart S
  ne : G ≠ []
  sl : slAt ok S.w0 3 S.v cs
  rules : rulesAt ok S.w0 G cs
  fits : ∀ q, q ∈ G → Fits S q
  names : ∀ n, n ∈ PredP.names G ↔ n ∈ S.f.map (·.1)
  nul : ∀ x, S.l0.contains x = (PredP.nul G).contains x
  known : PredP.AllKnown G
  room : S.f.length * S.U.length < maxLen

theorem RulesOk.l0 {S : KS} {ok : Nat → Prop} {cs : List Value} {G : List PredP.Rule} (h : RulesOk S ok cs G) : S.l0.contains = (PredP.nul G).contains := funext h.nul

def JF (S : KS) (G : List PredP.Rule) (d : Words) (c : Words) (W : World) : Prop := Kn S c d W ∧ Bnd c (FB G)
def DoneF (S : KS) (G : List PredP.Rule) (c : Words) : Prop := ∀ q, q ∈ G → ∀ x, PredP.fstE x (Fof c x) S.l0.contains q.body = true → x ∈ c q.name
theorem FB_closed {S : KS} {ok : Nat → Prop} {cs : List Value} {G : List PredP.Rule} (h : RulesOk S ok cs G) : ∀ q, q ∈ G → ∀ x, PredP.fstE x (FB G x) S.l0.contains q.body = true → FB G x q.name = true := fun q hq x hx => by
  rw [h.l0] at hx
  have := PredP.least_closed (PredP.names G) (PredP.fstStep G (PredP.nul G).contains x) q.name (List.mem_map.2 ⟨q, hq, rfl⟩) (List.any_eq_true.2 ⟨q, hq, by rw [Bool.and_eq_true]; exact ⟨by simp, hx⟩⟩)
  exact this
theorem same_back {c c' : Words} {G : List PredP.Rule} {f : List (PredP.Str × Nat)} {Bd : PredP.Str → PredP.Str → Bool} (hn : ∀ n, n ∈ PredP.names G → n ∈ f.map (·.1)) (hB : ∀ x n, Bd x n = true → n ∈ PredP.names G) (hle : Le c c') (hnd : ∀ p, p ∈ f → (c p.1).Nodup) (hb : Bnd c' Bd) (ht : total c' f = total c f) : Le c' c := fun n x hx => by
  obtain ⟨p, hp, rfl⟩ := List.mem_map.1 (hn n (hB x n (hb n x hx)))
  exact total_eq hle f hnd ht p hp x hx
theorem F_step {S : KS} {ok : Nat → Prop} {cs : List Value} {G : List PredP.Rule} (h : RulesOk S ok cs G) {c d c' : Words} {W W' : World} (hj : JF S G d c W) (hR : FRel S G c d G.length c' W') : JF S G d c' W' ∧ total c S.f ≤ total c' S.f ∧ (total c' S.f = total c S.f → DoneF S G c') := by
  have hb' : Bnd c' (FB G) := hR.snd (FB G) (FB_closed h) hj.2
  have hnd : ∀ p, p ∈ S.f → (c p.1).Nodup := fun p hp => (hj.1.fset p hp).nodup
  refine ⟨⟨hR.kn, hb'⟩, total_le hR.le S.f hnd, fun ht q hq x hx => ?_⟩
  have hback : Le c' c := same_back (fun n hn => (h.names n).1 hn) (fun x n => FB_name) hR.le hnd hb' ht
  obtain ⟨j, hj', hjq⟩ := List.getElem_of_mem hq
  exact hR.seen j q hj' (by rw [List.getElem?_eq_getElem hj', hjq]) x (PredP.fstE_mono x _ (Fof_le hback x) _ hx)
theorem F_done {S : KS} {ok : Nat → Prop} {cs : List Value} {G : List PredP.Rule} (h : RulesOk S ok cs G) {c d : Words} {W : World} (hj : JF S G d c W) (hD : DoneF S G c) (x n : PredP.Str) : Fof c x n = FB G x n := by
  refine PredP.least_eq (PredP.names G) (PredP.fstStep G (PredP.nul G).contains x) (PredP.fstStep_mono G _ x) (fun n => Fof c x n) ?_ ?_ n
  · intro m _ hs
    obtain ⟨q, hq, hx⟩ := List.any_eq_true.1 hs
    rw [Bool.and_eq_true, beq_iff_eq] at hx
    rw [← hx.1]
    exact Fof_mem.2 (hD q hq x (by rw [h.l0]; exact hx.2))
  · intro m hm
    have := hj.2 m x (Fof_mem.1 hm)
    simpa [FB, PredP.fsts] using this

/-! The sets of after. -/
mutual
theorem occP_names {w : PredP.Str} {f k : PredP.Str → Bool} {n : PredP.Str} : ∀ (p : PredP.Part) (b : Bool), PredP.occP w f k n b p = true → ∃ q, (n, q) ∈ PredP.namesP p
  | .word _, b, h => by simp [PredP.occP] at h
  | .name s q, b, h => by
    rw [PredP.occP, Bool.and_eq_true, beq_iff_eq] at h
    exact ⟨q, by rw [PredP.namesP, h.1]; simp⟩
  | .br _ _ e, b, h => by
    rw [PredP.occP] at h
    rw [PredP.namesP]
    exact occE_names e _ h
theorem occR_names {w : PredP.Str} {f k : PredP.Str → Bool} {n : PredP.Str} : ∀ (p : PredP.Parts) (b : Bool), PredP.occR w f k n b p = true → ∃ q, (n, q) ∈ PredP.namesR p
  | .nil, b, h => by simp [PredP.occR] at h
  | .cons p ps, b, h => by
    rw [PredP.occR, Bool.or_eq_true] at h
    rw [PredP.namesR]
    rcases h with h | h
    · obtain ⟨q, hq⟩ := occP_names p _ h
      exact ⟨q, List.mem_append_left _ hq⟩
    · obtain ⟨q, hq⟩ := occR_names ps _ h
      exact ⟨q, List.mem_append_right _ hq⟩
theorem occE_names {w : PredP.Str} {f k : PredP.Str → Bool} {n : PredP.Str} : ∀ (e : PredP.Rows) (b : Bool), PredP.occE w f k n b e = true → ∃ q, (n, q) ∈ PredP.namesE e
  | .nil, b, h => by simp [PredP.occE] at h
  | .cons _ r e, b, h => by
    rw [PredP.occE, Bool.or_eq_true] at h
    rw [PredP.namesE]
    rcases h with h | h
    · obtain ⟨q, hq⟩ := occR_names r _ h
      exact ⟨q, List.mem_append_left _ hq⟩
    · obtain ⟨q, hq⟩ := occE_names e _ h
      exact ⟨q, List.mem_append_right _ hq⟩
end
theorem occ_known {G : List PredP.Rule} (hK : PredP.AllKnown G) {q : PredP.Rule} (hq : q ∈ G) {w n : PredP.Str} {f k : PredP.Str → Bool} {b : Bool} (h : PredP.occE w f k n b q.body = true) : n ∈ PredP.names G := by
  obtain ⟨p, hp⟩ := occE_names q.body b h
  have := hK q hq (n, p) hp
  simpa using this

def JA (S : KS) (G : List PredP.Rule) (c : Words) (d : Words) (W : World) : Prop := Kn S c d W ∧ Bnd d (AB G) ∧ ∀ n, (PredP.names G).head? = some n → [] ∈ d n
def DoneA (S : KS) (G : List PredP.Rule) (c : Words) (d : Words) : Prop := ∀ q, q ∈ G → ∀ n x, PredP.occE x (Fof c x) S.l0.contains n (Fof d x q.name) q.body = true → x ∈ d n
theorem AB_closed {S : KS} {ok : Nat → Prop} {cs : List Value} {G : List PredP.Rule} (h : RulesOk S ok cs G) {c : Words} (hc : ∀ x n, Fof c x n = FB G x n) : ∀ q, q ∈ G → ∀ n x, PredP.occE x (Fof c x) S.l0.contains n (AB G x q.name) q.body = true → AB G x n = true := fun q hq n x hx => by
  have hn := occ_known h.known hq hx
  have hf : Fof c x = (PredP.fsts G x).contains := funext fun n => hc x n
  rw [h.l0, hf] at hx
  exact PredP.least_closed (PredP.names G) (PredP.aftStep G (PredP.fsts G x).contains (PredP.nul G).contains x) n hn (by
    simp only [PredP.aftStep, Bool.or_eq_true]
    exact .inr (List.any_eq_true.2 ⟨q, hq, hx⟩))
theorem A_step {S : KS} {ok : Nat → Prop} {cs : List Value} {G : List PredP.Rule} (h : RulesOk S ok cs G) {c d d' : Words} {W W' : World} (hj : JA S G c d W) (hR : ARel S G c d (AB G) G.length d' W') : JA S G c d' W' ∧ total d S.fa ≤ total d' S.fa ∧ (total d' S.fa = total d S.fa → DoneA S G c d') := by
  have hnd : ∀ p, p ∈ S.fa → (d p.1).Nodup := fun p hp => (hj.1.aset p hp).nodup
  refine ⟨⟨hR.kn, hR.bd, fun n hn => hR.le _ _ (hj.2.2 n hn)⟩, total_le hR.le S.fa hnd, fun ht q hq n x hx => ?_⟩
  have hback : Le d' d := same_back (fun n hn => by rw [h.apart.same]; exact (h.names n).1 hn) (fun x n => AB_name) hR.le hnd hR.bd ht
  obtain ⟨j, hj', hjq⟩ := List.getElem_of_mem hq
  exact hR.seen j q hj' (by rw [List.getElem?_eq_getElem hj', hjq]) n x (PredP.occE_mono x _ _ n (Fof_le hback x _) _ hx)
theorem A_done {S : KS} {ok : Nat → Prop} {cs : List Value} {G : List PredP.Rule} (h : RulesOk S ok cs G) {c d : Words} {W : World} (hc : ∀ x n, Fof c x n = FB G x n) (hj : JA S G c d W) (hD : DoneA S G c d) (x n : PredP.Str) : Fof d x n = AB G x n := by
  have hf : Fof c x = (PredP.fsts G x).contains := funext fun n => hc x n
  refine PredP.least_eq (PredP.names G) (PredP.aftStep G (PredP.fsts G x).contains (PredP.nul G).contains x) (PredP.aftStep_mono G _ _ x) (fun n => Fof d x n) ?_ ?_ n
  · intro m _ hs
    simp only [PredP.aftStep, Bool.or_eq_true, Bool.and_eq_true, beq_iff_eq] at hs
    rcases hs with ⟨h1, h2⟩ | hs
    · rw [h2]; exact Fof_mem.2 (hj.2.2 m h1)
    · obtain ⟨q, hq, hx⟩ := List.any_eq_true.1 hs
      exact Fof_mem.2 (hD q hq m x (by rw [h.l0, hf]; exact hx))
  · intro m hm
    have := hj.2.1 m x (Fof_mem.1 hm)
    simpa [AB, PredP.afts] using this

/-- growAll, the first time -/
theorem growF_any {S : KS} {ok : Nat → Prop} {cs : List Value} {G : List PredP.Rule} (h : RulesOk S ok cs G) (d : Words) (w : World) (c0 : Words) (h0 : JF S G d c0 w) :
    Calls Tryz.prog 75 #[.map (some S.fb), .func (.func 76) #[] #[.pointer (some ⟨S.rp, 0, none⟩), .pointer (some ⟨S.sp, 0, none⟩)]] w fun e w' => e = .returned (.tuple #[]) ∧ ∃ c, Kn S c d w' ∧ ∀ x n, Fof c x n = FB G x n :=
  (growF S.fb S.f [.pointer (some ⟨S.rp, 0, none⟩), .pointer (some ⟨S.sp, 0, none⟩)] (JF S G d) (DoneF S G) (S.f.length * S.U.length) h.room
    (fun c W hj => ⟨hj.1.fmap, hj.1.fset, total_bound S.f (fun p hp => (hj.1.fset p hp).nodup) hj.1.fU⟩) (fun c W W' hj hb => ⟨hj.1.onward hb, hj.2⟩)
    (fun c W hj => (stepF_any S h.apart ok cs G h.ne h.sl h.rules h.fits c d W hj.1).mono fun e W' ⟨he, c', hR⟩ => by
      obtain ⟨h1, h2, h3⟩ := F_step h hj hR
      exact ⟨he, c', h1, h2, h3⟩) w c0 h0).mono fun e w' ⟨he, c, hj, hD⟩ => ⟨he, c, hj.1, F_done h hj hD⟩
/-- and the second time -/
theorem growA_any {S : KS} {ok : Nat → Prop} {cs : List Value} {G : List PredP.Rule} (h : RulesOk S ok cs G) (c : Words) (hc : ∀ x n, Fof c x n = FB G x n) (w : World) (d0 : Words) (h0 : JA S G c d0 w) :
    Calls Tryz.prog 75 #[.map (some S.ab), .func (.func 79) #[] #[.pointer (some ⟨S.rp, 0, none⟩), .pointer (some ⟨S.sp, 0, none⟩)]] w fun e w' => e = .returned (.tuple #[]) ∧ ∃ d, Kn S c d w' ∧ ∀ x n, Fof d x n = AB G x n :=
  (growA S.ab S.fa [.pointer (some ⟨S.rp, 0, none⟩), .pointer (some ⟨S.sp, 0, none⟩)] (JA S G c) (DoneA S G c) (S.f.length * S.U.length) h.room
    (fun d W hj => ⟨hj.1.amap, hj.1.aset, by
      have hl : S.fa.length = S.f.length := by have := congrArg List.length h.apart.same; simpa using this
      rw [← hl]
      exact total_bound S.fa (fun p hp => (hj.1.aset p hp).nodup) hj.1.aU⟩) (fun d W W' hj hb => ⟨hj.1.onward hb, hj.2⟩)
    (fun d W hj => (stepA_any S h.apart ok cs G h.ne h.sl h.rules h.fits c d (AB G) (AB_closed h hc) W hj.1 hj.2.1).mono fun e W' ⟨he, d', hR⟩ => by
      obtain ⟨h1, h2, h3⟩ := A_step h hj hR
      exact ⟨he, d', h1, h2, h3⟩) w d0 h0).mono fun e w' ⟨he, d, hj, hD⟩ => ⟨he, d, hj.1, A_done h hc hj hD⟩

end Go.Proofs.YtpcmemcanpgadaaGreatDoor
