import Derived.Test.YtpcmemcanpgadaaGreatDoorNoneG
import Derived.Test.YtpcmemcanpgadaaGreatDoorTellG
/-
  Maps of sets; sets of words within a known list of words.
-/
namespace Go.Proofs.YtpcmemcanpgadaaGreatDoor
open Go.RowKit Go.Maps

theorem undMap : Tryz.prog.underlying 89 = some (.map 9 88) := by kernel_rfl
theorem zeroSet (w : World) : (zeroValue 88).run Tryz.prog w = .ok (.map none) w := by kernel_rfl

/-- an element that is a map is told by its block -/
def blkElem : Value → Option (DataW (Option Nat) × List MemPlace)
  | .map o => some (.held o, [])
  | _ => none
theorem blkElem_inv {v : Value} {o : Option Nat} {ps : List MemPlace} (h : blkElem v = some (.held o, ps)) : v = .map o := by
  cases v with
  | map q => simp [blkElem] at h; rw [h.1]
  | _ => cases h

def look (f : List (PredP.Str × Nat)) (s : PredP.Str) : Option Nat := (f.find? fun p => p.1 == s).map (·.2)
/-- the block b is a map that leads from just these names to these blocks -/
def MapAt (w : World) (b : Nat) (f : List (PredP.Str × Nat)) : Prop :=
  ∃ D : DataW (Option Nat), w.ownsMap Tryz.prog 9 blkElem b f.length D ∧ (f.map (·.1)).Nodup ∧ (∀ s, D.atKey (.string s) (.held none) = .held (look f s)) ∧ Maps.size D = f.length ∧ ∀ s, Maps.has D (.string s) = (f.map (·.1)).contains s
theorem MapAt.lt {w : World} {b : Nat} {f : List (PredP.Str × Nat)} (h : MapAt w b f) : b < w.heap.size := by
  obtain ⟨D, h, _⟩ := h
  exact h.lt
theorem MapAt.kept {w w' : World} {b : Nat} {f : List (PredP.Str × Nat)} {row : Option Nat} (h : MapAt w b f) (hg : w.grownBy w' row) (hne : some b ≠ row) : MapAt w' b f := by
  obtain ⟨D, h, r⟩ := h
  exact ⟨D, h.kept hg hne, r⟩
theorem MapAt.block {w w' : World} {b : Nat} {f : List (PredP.Str × Nat)} (h : MapAt w b f) (hb : w'.heap[b]? = w.heap[b]?) : MapAt w' b f := by
  obtain ⟨D, ⟨es, clock, h1, h2⟩, r⟩ := h
  exact ⟨D, ⟨es, clock, hb.trans h1, h2⟩, r⟩
theorem MapAt.below {w w' : World} {b : Nat} {f : List (PredP.Str × Nat)} (h : MapAt w b f) (hb : Below w.heap.size w w') : MapAt w' b f := h.block (hb.block b h.lt)
theorem MapAt.made (w : World) : MapAt (w.alloc (.map #[] 0)) w.heap.size [] := ⟨_, World.ownsMap_made w _ _ _, by simp, fun _ => rfl, rfl, fun _ => rfl⟩
/-- reading at a name -/
theorem MapAt.read {w : World} {b : Nat} {f : List (PredP.Str × Nat)} (h : MapAt w b f) (a : ByteArray) (ha : a.size ≤ maxLen) :
    (Instr.lookup 89 (.map (some b)) (.string a) false).run Tryz.prog w = .ok (.map (look f (PredP.bs a))) w := by
  obtain ⟨D, hown, _, hat, _⟩ := h
  obtain ⟨v, ps, hrun, hv⟩ := hown.lookup lawStr undMap (zeroSet w) (zd := .held none) (zp := []) rfl (keyS a ha)
  rw [hat] at hv
  rw [hrun, blkElem_inv hv]
/-- laying an entry -/
theorem MapAt.write {w : World} {b : Nat} {f : List (PredP.Str × Nat)} (h : MapAt w b f) (a : ByteArray) (ha : a.size ≤ maxLen) (hl : f.length < maxLen) (hnew : (f.map (·.1)).contains (PredP.bs a) = false) (c : Nat) :
    ∃ w1, (Instr.mapUpdate 89 (.map (some b)) (.string a) (.map (some c))).run Tryz.prog w = .ok () w1 ∧ MapAt w1 b ((PredP.bs a, c) :: f) ∧ w.grownBy w1 (some b) := by
  obtain ⟨D, hown, hn, hat, hz, hh⟩ := h
  obtain ⟨w1, h1, h2, h3⟩ := hown.update lawStr undMap hl (keyS a ha) (val := .map (some c)) (d := .held (some c)) (ps := []) rfl
  have hT := hown.tidy lawStr
  have hsz : Maps.size (D.put (.string (PredP.bs a)) (.held (some c))) = f.length + 1 := by
    rw [size_put hT, hh, hnew, hz]; simp
  refine ⟨w1, h1, ⟨_, ?_, ?_, ?_, by simpa using hsz, ?_⟩, h3⟩
  · have := owns_tight h2
    rw [hsz] at this
    simpa using this
  · rw [List.map_cons, List.nodup_cons]
    exact ⟨by simpa using hnew, hn⟩
  · intro s
    by_cases hs : s = PredP.bs a
    · subst hs
      rw [atKey_put_same hT.isMap (isKey _)]
      simp [look]
    · rw [atKey_put_other (by simpa using hs), hat s]
      have : (PredP.bs a == s) = false := by simpa using fun e => hs e.symm
      simp [look, this]
  · intro s
    by_cases hs : s = PredP.bs a
    · subst hs
      rw [has_put_same hT.isMap (isKey _)]; simp
    · rw [has_put_other (by simpa using hs), hh s]
      simp [hs]

/-- a set of words of U that answers as g -/
def SetOf (U : List PredP.Str) (w : World) (b : Nat) (g : PredP.Str → Bool) : Prop := ∃ l, SetAt w b l ∧ (∀ x, x ∈ l → x ∈ U) ∧ ∀ x, l.contains x = g x
theorem SetOf.lt {U : List PredP.Str} {w : World} {b : Nat} {g : PredP.Str → Bool} (h : SetOf U w b g) : b < w.heap.size := by
  obtain ⟨l, h, _⟩ := h
  exact h.lt
theorem SetOf.below {U : List PredP.Str} {w w' : World} {b : Nat} {g : PredP.Str → Bool} (h : SetOf U w b g) (hb : Below w.heap.size w w') : SetOf U w' b g := by
  obtain ⟨l, h, r⟩ := h
  exact ⟨l, h.below hb, r⟩
theorem SetOf.block {U : List PredP.Str} {w w' : World} {b : Nat} {g : PredP.Str → Bool} (h : SetOf U w b g) (hb : w'.heap[b]? = w.heap[b]?) : SetOf U w' b g := by
  obtain ⟨l, h, r⟩ := h
  exact ⟨l, h.block hb, r⟩
theorem SetOf.made (U : List PredP.Str) (w : World) : SetOf U (w.alloc (.map #[] 0)) w.heap.size (fun _ => false) := ⟨[], SetAt.made w, fun x hx => by simp at hx, fun x => rfl⟩
theorem SetOf.cast {U : List PredP.Str} {w : World} {b : Nat} {g g' : PredP.Str → Bool} (h : SetOf U w b g) (he : ∀ x, g x = g' x) : SetOf U w b g' := by
  obtain ⟨l, h, r, s⟩ := h
  exact ⟨l, h, r, fun x => (s x).trans (he x)⟩
/-- a set, or none -/
def MaySet (U : List PredP.Str) (w : World) (v : Value) (g : PredP.Str → Bool) : Prop := (v = .map none ∧ ∀ x, g x = false) ∨ ∃ b, v = .map (some b) ∧ SetOf U w b g
theorem MaySet.below {U : List PredP.Str} {w w' : World} {v : Value} {g : PredP.Str → Bool} (h : MaySet U w v g) (hb : Below w.heap.size w w') : MaySet U w' v g := by
  rcases h with h | ⟨b, e, h⟩
  · exact .inl h
  · exact .inr ⟨b, e, h.below hb⟩
theorem MaySet.form {U : List PredP.Str} {w : World} {v : Value} {g : PredP.Str → Bool} (h : MaySet U w v g) : ∃ o, v = .map o := by
  rcases h with ⟨rfl, _⟩ | ⟨b, rfl, _⟩ <;> exact ⟨_, rfl⟩

theorem range_nil (w : World) : (Instr.range 88 (.map none)).run Tryz.prog w = .ok (.pointer (some ⟨w.heap.size, 0, none⟩)) (w.alloc (.mapIter none 0 #[] 0)) := by kernel_rfl
theorem run_getObj_iter {P : Program} {w : World} {r : Nat} {m : Option Nat} {x y : Nat} {s : Array Nat} (hb : w.heap[r]? = some (.mapIter m x s y)) : (getObj r).run P w = .ok (.mapIter m x s y) w := by simp [getObj, Sem.run, hb]
theorem next_nil (w : World) (ty : TypeId) : (Instr.next (.pointer (some ⟨w.heap.size, 0, none⟩)) false ty).run Tryz.prog (w.alloc (.mapIter none 0 #[] 0)) = .ok (.tuple #[.bool false]) (w.alloc (.mapIter none 0 #[] 0)) := by
  have h := run_getObj_iter (P := Tryz.prog) (World.alloc_heap_new w (.mapIter none 0 #[] 0))
  simp [Instr.next, Sem.run_bind, h, Result.andThen]
set_option maxRecDepth 100000 in
set_option maxHeartbeats 1000000 in
theorem addAll_may (U : List PredP.Str) (hU : 2 * U.length < maxLen) (w : World) (b : Nat) (v : Value) (g g' : PredP.Str → Bool) (h : SetOf U w b g) (h' : MaySet U w v g') (hne : v ≠ .map (some b)) :
    Calls Tryz.prog 77 #[.map (some b), v] w fun e w' => e = .returned (.tuple #[]) ∧ But b w w' ∧ SetOf U w' b (fun x => g x || g' x) := by
  rcases h' with ⟨rfl, hz⟩ | ⟨b', rfl, l', hs', hu', hg'⟩
  · have H := PredP.hide h
    clear h hne
    go_enter Tryz.func77, Tryz.ntmps77
    have hr1 := range_nil w
    have hn1 := next_nil w
    go_wp2_with fail
    refine wp_loop_rounds 1 ?_
    rw [rounds_succ]
    go_wp2_with fail
    go_end0
    have hb : Below w.heap.size w (w.alloc (.mapIter none 0 #[] 0)) := (Below.refl _ _).alloc (Nat.le_refl _) _
    exact ⟨rfl, But.of_below hb, (H.out.below hb).cast fun x => by rw [hz]; simp⟩
  · obtain ⟨l, hs, hu, hg⟩ := h
    have n1 : l.length ≤ U.length := by
      obtain ⟨D, _, hn, _⟩ := hs
      exact PredP.nodup_le l U hn hu
    have n2 : l'.length ≤ U.length := by
      obtain ⟨D, _, hn, _⟩ := hs'
      exact PredP.nodup_le l' U hn hu'
    refine (addAll_any w b b' l l' (fun e => hne (by rw [e])) (by omega) hs hs').mono ?_
    rintro e w' ⟨rfl, hb, l2, h2, hc⟩
    refine ⟨rfl, hb, l2, h2, fun x hx => ?_, fun x => by rw [hc, hg, hg']⟩
    have : (l.contains x || l'.contains x) = true := by rw [← hc]; simpa using hx
    rw [Bool.or_eq_true] at this
    rcases this with h | h
    · exact hu x (by simpa using h)
    · exact hu' x (by simpa using h)

end Go.Proofs.YtpcmemcanpgadaaGreatDoor

/-
  Tells: tells, tellsRow, firstOf.
-/
namespace Go.Proofs.YtpcmemcanpgadaaGreatDoor
open Go.RowKit Go.Maps

/-- what is known of the rules: which may be nothing (l0), with which words they begin (F x n: n may with x) -/
structure Sts (U l0 : List PredP.Str) (f : List (PredP.Str × Nat)) (F : PredP.Str → PredP.Str → Bool) (eb fb : Nat) (w : World) : Prop where
  empty : SetAt w eb l0
  map : MapAt w fb f
  sets : ∀ p, p ∈ f → SetOf U w p.2 (fun x => F x p.1)
theorem Sts.below {U l0 : List PredP.Str} {f : List (PredP.Str × Nat)} {F : PredP.Str → PredP.Str → Bool} {eb fb : Nat} {w w' : World} (h : Sts U l0 f F eb fb w) (hb : Below w.heap.size w w') : Sts U l0 f F eb fb w' :=
  ⟨h.empty.below hb, h.map.below hb, fun p hp => (h.sets p hp).below hb⟩
def NamesIn (f : List (PredP.Str × Nat)) (ns : List (PredP.Str × Nat)) : Prop := ∀ x, x ∈ ns → (f.map (·.1)).contains x.1 = true
def WordsIn (U ws : List PredP.Str) : Prop := ∀ s, s ∈ ws → s ∈ U
def TelPost (U : List PredP.Str) (w : World) (g : PredP.Str → Bool) (e : Ending) (w' : World) : Prop := ∃ b, e = .returned (.map (some b)) ∧ w.heap.size ≤ b ∧ SetOf U w' b g ∧ Below w.heap.size w w'
def FstPost (U : List PredP.Str) (f : List (PredP.Str × Nat)) (w : World) (g : PredP.Str → Bool) (e : Ending) (w' : World) : Prop := ∃ b, e = .returned (.map (some b)) ∧ (b ∈ f.map (·.2) ∨ w.heap.size ≤ b) ∧ SetOf U w' b g ∧ Below w.heap.size w w'
def TelE (U l0 : List PredP.Str) (f : List (PredP.Str × Nat)) (F : PredP.Str → PredP.Str → Bool) (eb fb : Nat) (av : Value) (e : PredP.Rows) : Prop :=
  ∀ (ok : Nat → Prop) (w : World) (v : Value) (cs : List Value) (va : Value) (A : PredP.Str → Bool), Sts U l0 f F eb fb w → slAt ok w 2 v cs → rowsAt ok w e cs → NamesIn f (PredP.namesE e) → WordsIn U (PredP.wordsE e) → MaySet U w va A →
    Calls Tryz.prog 78 #[.agg #[.map (some eb), .map (some fb), av], v, va] w (TelPost U w (fun x => PredP.telE x (F x) l0.contains (A x) e))
/-- a slice of one cell each, wherever in its block it begins -/
def slOff (ok : Nat → Prop) (w : World) (v : Value) (cs : List Value) : Prop :=
  (v = .slice none 0 0 ∧ cs = []) ∨ ∃ g o n cap, v = .slice (some ⟨g, o, none⟩) n cap ∧ n ≤ maxLen ∧ ok g ∧ g < w.heap.size ∧ cs.length = n * 1 ∧ ∀ j u, cs[j]? = some u → w.cell? ⟨g, o + j, none⟩ = some u
theorem slAt.off {ok : Nat → Prop} {w : World} {v : Value} {cs : List Value} (h : slAt ok w 1 v cs) : slOff ok w v cs := by
  rcases h with h | ⟨g, n, cap, h1, h2, h3, h4, h5, h6⟩
  · exact .inl h
  · exact .inr ⟨g, 0, n, cap, h1, Nat.le_trans h2 (Nat.min_le_right _ _), h3, h4, h5, fun j u hu => by rw [Nat.zero_add]; exact h6 j u hu⟩
def TelR (U l0 : List PredP.Str) (f : List (PredP.Str × Nat)) (F : PredP.Str → PredP.Str → Bool) (eb fb : Nat) (av : Value) (ps : PredP.Parts) : Prop :=
  ∀ (ok : Nat → Prop) (w : World) (v : Value) (us : List Value) (va : Value) (A : PredP.Str → Bool), Sts U l0 f F eb fb w → slOff ok w v us → partsAt ok w ps us → NamesIn f (PredP.namesR ps) → WordsIn U (PredP.wordsR ps) → MaySet U w va A →
    Calls Tryz.prog 114 #[.agg #[.map (some eb), .map (some fb), av], v, va] w (TelPost U w (fun x => PredP.telR x (F x) l0.contains (A x) ps))
def FstP (U l0 : List PredP.Str) (f : List (PredP.Str × Nat)) (F : PredP.Str → PredP.Str → Bool) (eb fb : Nat) (av : Value) (p : PredP.Part) : Prop :=
  ∀ (ok : Nat → Prop) (w : World) (v : Value), Sts U l0 f F eb fb w → partAt ok w p v → NamesIn f (PredP.namesP p) → WordsIn U (PredP.wordsP p) →
    Calls Tryz.prog 132 #[.agg #[.map (some eb), .map (some fb), av], v] w (FstPost U f w (fun x => PredP.fstP x (F x) l0.contains p))

theorem telR_stop {x : PredP.Str} {f k : PredP.Str → Bool} {b : Bool} {p : PredP.Part} {ps : PredP.Parts} (h : PredP.derP false k p = false) : PredP.telR x f k b (.cons p ps) = PredP.fstP x f k p := by
  simp [PredP.telR, PredP.fstR, PredP.derR, h]
theorem telR_on {x : PredP.Str} {f k : PredP.Str → Bool} {b : Bool} {p : PredP.Part} {ps : PredP.Parts} (h : PredP.derP false k p = true) : PredP.telR x f k b (.cons p ps) = (PredP.fstP x f k p || PredP.telR x f k b ps) := by
  simp [PredP.telR, PredP.fstR, PredP.derR, h, Bool.or_assoc]
theorem telR_nil {x : PredP.Str} {f k : PredP.Str → Bool} {b : Bool} : PredP.telR x f k b .nil = b := by
  simp [PredP.telR, PredP.fstR, PredP.derR]

/-- the parts of a row that are behind -/
structure RowT (U l0 : List PredP.Str) (f : List (PredP.Str × Nat)) (F : PredP.Str → PredP.Str → Bool) (A : PredP.Str → Bool) (eb fb : Nat) (av : Value) (w : World) (ok : Nat → Prop) (ps : PredP.Parts) (us : List Value) (ob j : Nat) (ps' : PredP.Parts) (g : PredP.Str → Bool) (wr : World) : Prop where
  parts : partsAt ok w ps' (us.drop j)
  tel : ∀ x, PredP.telR x (F x) l0.contains (A x) ps = (g x || PredP.telR x (F x) l0.contains (A x) ps')
  size : SizeOf.sizeOf ps' ≤ SizeOf.sizeOf ps
  names : NamesIn f (PredP.namesR ps')
  words : WordsIn U (PredP.wordsR ps')
  out : SetOf U wr ob g
  below : Below w.heap.size w wr
  c0 : wr.cell? ⟨w.heap.size, 0, none⟩ = some (.map (some eb))
  c1 : wr.cell? ⟨w.heap.size, 1, none⟩ = some (.map (some fb))
  c2 : wr.cell? ⟨w.heap.size, 2, none⟩ = some av

theorem But.cellAt {r : Nat} {w w' : World} (h : But r w w') {b o : Nat} {v : Value} (hv : w.cell? ⟨b, o, none⟩ = some v) (hr : b ≠ r) : w'.cell? ⟨b, o, none⟩ = some v := (h.cell (World.block_lt_of_cell? w _ hv) hr).trans hv
theorem But.belowOf {r N : Nat} {w0 w w' : World} (h : But r w w') (hb : Below N w0 w) (hr : N ≤ r) (hN : N ≤ w.heap.size) : Below N w0 w' :=
  ⟨h.os.trans hb.os, h.tape.trans hb.tape, h.output.trans hb.output, Nat.le_trans hb.size h.size, fun k hk => (h.block k (by omega) (by omega)).trans (hb.block k hk)⟩

theorem RowT.low {U l0 : List PredP.Str} {f : List (PredP.Str × Nat)} {F : PredP.Str → PredP.Str → Bool} {A : PredP.Str → Bool} {eb fb : Nat} {av : Value} {w : World} {ok : Nat → Prop} {ps : PredP.Parts} {us : List Value} {j : Nat} {ps' : PredP.Parts} {g : PredP.Str → Bool} {wr w1 w2 : World}
    (h : RowT U l0 f F A eb fb av w ok ps us (w.heap.size + 1) j ps' g wr) (hb1 : Below wr.heap.size wr w1) (hbt : But (w.heap.size + 1) w1 w2) : Below w.heap.size w w2 :=
  hbt.belowOf (Below.all h.below hb1) (by omega) (Below.all h.below hb1).size
theorem RowT.box {U l0 : List PredP.Str} {f : List (PredP.Str × Nat)} {F : PredP.Str → PredP.Str → Bool} {A : PredP.Str → Bool} {eb fb : Nat} {av : Value} {w : World} {ok : Nat → Prop} {ps : PredP.Parts} {us : List Value} {j : Nat} {ps' : PredP.Parts} {g : PredP.Str → Bool} {wr w1 w2 : World}
    (h : RowT U l0 f F A eb fb av w ok ps us (w.heap.size + 1) j ps' g wr) (hb1 : Below wr.heap.size wr w1) (hbt : But (w.heap.size + 1) w1 w2) : w2.cell? ⟨w.heap.size, 0, none⟩ = some (.map (some eb)) ∧ w2.cell? ⟨w.heap.size, 1, none⟩ = some (.map (some fb)) ∧ w2.cell? ⟨w.heap.size, 2, none⟩ = some av :=
  ⟨hbt.cellAt ((hb1.cell (World.block_lt_of_cell? _ _ h.c0)).trans h.c0) (by omega), hbt.cellAt ((hb1.cell (World.block_lt_of_cell? _ _ h.c1)).trans h.c1) (by omega), hbt.cellAt ((hb1.cell (World.block_lt_of_cell? _ _ h.c2)).trans h.c2) (by omega)⟩
theorem RowT.step {U l0 : List PredP.Str} {f : List (PredP.Str × Nat)} {F : PredP.Str → PredP.Str → Bool} {A : PredP.Str → Bool} {eb fb : Nat} {av : Value} {w : World} {ok : Nat → Prop} {ps : PredP.Parts} {us : List Value} {j : Nat} {ps' : PredP.Parts} {g : PredP.Str → Bool} {wr w1 w2 w3 : World}
    (h : RowT U l0 f F A eb fb av w ok ps us (w.heap.size + 1) j ps' g wr) (hb1 : Below wr.heap.size wr w1) (hbt : But (w.heap.size + 1) w1 w2) {p : PredP.Part} {ps2 : PredP.Parts} (hp : ps' = .cons p ps2) (hd : PredP.derP false l0.contains p = true)
    (hs : SetOf U w2 (w.heap.size + 1) (fun x => g x || PredP.fstP x (F x) l0.contains p)) (hb3 : Below w2.heap.size w2 w3) (hpr : partsAt ok w ps2 (us.drop (j + 1))) (hsz : SizeOf.sizeOf ps2 ≤ SizeOf.sizeOf ps) (hn : NamesIn f (PredP.namesR ps2)) (hw : WordsIn U (PredP.wordsR ps2)) :
    RowT U l0 f F A eb fb av w ok ps us (w.heap.size + 1) (j + 1) ps2 (fun x => g x || PredP.fstP x (F x) l0.contains p) w3 := by
  obtain ⟨d0, d1, d2⟩ := h.box hb1 hbt
  exact ⟨hpr, fun x => by rw [h.tel, hp, telR_on hd, Bool.or_assoc], hsz, hn, hw, hs.below hb3, Below.all (h.low hb1 hbt) hb3, (hb3.cell (World.block_lt_of_cell? _ _ d0)).trans d0, (hb3.cell (World.block_lt_of_cell? _ _ d1)).trans d1, (hb3.cell (World.block_lt_of_cell? _ _ d2)).trans d2⟩

set_option maxRecDepth 100000 in
set_option maxHeartbeats 2000000 in
theorem tellsRow_any (U l0 : List PredP.Str) (hU : 2 * U.length < maxLen) (f : List (PredP.Str × Nat)) (F : PredP.Str → PredP.Str → Bool) (eb fb : Nat) (ao : Option Nat) (ps : PredP.Parts) (IH : Hid (∀ p : PredP.Part, SizeOf.sizeOf p < SizeOf.sizeOf ps → FstP U l0 f F eb fb (.map ao) p)) : TelR U l0 f F eb fb (.map ao) ps := by
  intro ok w v us va A hst hsl hps hnm hwd hva
  obtain ⟨vo, rfl⟩ := hva.form
  have hmm := @run_makeMap Tryz.prog
  have hvne : Value.map vo ≠ .map (some (w.heap.size + 1)) := by
    intro e
    rcases hva with ⟨h, _⟩ | ⟨b, h, hs⟩
    · rw [h] at e; cases e
    · rw [h] at e; cases e
      have := hs.lt; omega
  have hB0 : ∀ o, Below w.heap.size w ((w.alloc o).alloc (.map #[] 0)) := fun o => ((Below.refl _ w).alloc (Nat.le_refl _) o).alloc (by simp) _
  have hout0 : ∀ o, SetOf U ((w.alloc o).alloc (.map #[] 0)) (w.heap.size + 1) (fun _ => false) := fun o => by
    have := SetOf.made U (w.alloc o)
    simpa using this
  rcases hsl with ⟨rfl, rfl⟩ | ⟨g1, o1, n1, cap1, rfl, hn1, hok1, hg1, hus, hcell1⟩
  · have he : ps = .nil := partsAt.done (k := 0) (n := 0) (cs := []) hps (by omega) rfl
    subst he
    have HVA := PredP.hide hva
    have HO := PredP.hide hout0
    have HVN := PredP.hide hvne
    clear IH hps hva hout0 hst hvne
    go_enter Tryz.func114, Tryz.ntmps114
    go_wp2_with fail
    refine wp_loop_rounds 1 ?_
    rw [rounds_succ]
    go_wp2_with (go_at_call 77; refine (addAll_may U hU _ (w.heap.size + 1) (.map vo) _ _ (HO.out _) (HVA.out.below (hB0 _)) HVN.out).mono ?_; rintro e w2 ⟨rfl, hbt2, hs2⟩)
    go_ret
    exact ⟨w.heap.size + 1, rfl, by omega, hs2.cast fun x => by rw [telR_nil]; simp, hbt2.belowOf (hB0 _) (by omega) (by simp; omega)⟩
  · have HC1 := PredP.hide hcell1
    have HST := PredP.hide hst
    have HVA := PredP.hide hva
    have HVN := PredP.hide hvne
    have hrel0 : ∀ t, RowT U l0 f F A eb fb (.map ao) w ok ps us (w.heap.size + 1) 0 ps (fun _ => false) ((w.alloc (.cells #[.map (some eb), .map (some fb), .map ao] t)).alloc (.map #[] 0)) := fun t =>
      ⟨by simpa using hps, fun x => by simp, Nat.le_refl _, hnm, hwd, hout0 _, hB0 _, past_fresh rfl, past_fresh rfl, past_fresh rfl⟩
    have HREL := PredP.hide hrel0
    have hfb : ∀ b, b ∈ f.map (·.2) → b < w.heap.size := fun b hb => by
      obtain ⟨p, hp, rfl⟩ := List.mem_map.1 hb
      exact (hst.sets p hp).lt
    have HFB := PredP.hide hfb
    clear hcell1 hst hva hvne hrel0 hps hnm hwd hfb hout0
    unfold maxLen at hn1
    go_enter Tryz.func114, Tryz.ntmps114
    go_wp2_with fail
    go_loopw [13] (fun t wr => ∃ j : Nat, ∃ ps' g, j ≤ n1 ∧ t = .int .i64 j ∧ RowT U l0 f F A eb fb (.map ao) w ok ps us (w.heap.size + 1) j ps' g wr) (fun t _ => n1 - (intOf t).toNat)
    case atStart => exact ⟨0, ps, _, by omega, rfl, HREL.out _⟩
    case round =>
      clear HREL
      obtain ⟨j, ps', g, hj, rfl, hP⟩ := hrel
      have b0 := hP.c0
      have b1 := hP.c1
      have b2 := hP.c2
      by_cases hlt1 : j < n1
      · obtain ⟨p, ps2, v, hp, hv, hpv, hprest⟩ := hP.parts.at hlt1 hus
        have kv := (hP.below.cell (p := ⟨g1, o1 + j, none⟩) hg1).trans (HC1.out _ _ hv)
        have hszp : SizeOf.sizeOf p < SizeOf.sizeOf ps := by have := hP.size; rw [hp] at this; simp at this; omega
        have hszs : SizeOf.sizeOf ps2 ≤ SizeOf.sizeOf ps := by have := hP.size; rw [hp] at this; simp at this; omega
        have hnm2 : NamesIn f (PredP.namesP p) ∧ NamesIn f (PredP.namesR ps2) := by
          have := hP.names; rw [hp, PredP.namesR] at this
          exact ⟨fun x hx => this x (List.mem_append_left _ hx), fun x hx => this x (List.mem_append_right _ hx)⟩
        have hwd2 : WordsIn U (PredP.wordsP p) ∧ WordsIn U (PredP.wordsR ps2) := by
          have := hP.words; rw [hp, PredP.wordsR] at this
          exact ⟨fun x hx => this x (List.mem_append_left _ hx), fun x hx => this x (List.mem_append_right _ hx)⟩
        have HP := PredP.hide hp
        have HPV := PredP.hide hpv
        obtain ⟨T, bp, rfl⟩ := hpv.iface
        have HCall := PredP.hide (IH.out p hszp ok _ _ (HST.out.below hP.below) (hpv.below hP.below) hnm2.1 hwd2.1)
        have HNul : Hid (∀ w', Below w.heap.size w w' → Calls Tryz.prog 74 #[.iface T (.pointer (some ⟨bp, 0, none⟩)), .map (some eb)] w' fun e w'' => e = .returned (.bool (PredP.derP false l0.contains p)) ∧ Below w'.heap.size w' w'') :=
          PredP.hide (fun w' hb => (nul_all (SizeOf.sizeOf p)).1 p (Nat.le_refl _) ok w' _ eb l0 (hpv.below hb) (HST.out.empty.below hb))
        clear hv hp hpv
        have hne : ∀ fbk, (fbk ∈ f.map (·.2) ∨ wr.heap.size ≤ fbk) → Value.map (some fbk) ≠ .map (some (w.heap.size + 1)) := fun fbk h e => by
          have e' : fbk = w.heap.size + 1 := by cases e; rfl
          rcases h with h | h
          · have := HFB.out _ h; omega
          · have := hP.out.lt; omega
        have HNE := PredP.hide hne
        clear hne
        cases hd : PredP.derP false l0.contains p
        · rw [hd] at HNul
          go_wp2_with (first
            | (go_at_call 132; refine HCall.out.mono ?_; rintro e w1 ⟨fbk, rfl, hwh, hs1, hb1⟩)
            | (go_at_call 77; refine (addAll_may U hU _ (w.heap.size + 1) (.map (some fbk)) _ _ (hP.out.below hb1) (.inr ⟨_, rfl, hs1⟩) (HNE.out _ hwh)).mono ?_; rintro e w2 ⟨rfl, hbt2, hs2⟩; have d0 := (hP.box hb1 hbt2).1)
            | (go_at_call 74; refine (HNul.out _ (hP.low hb1 hbt2)).mono ?_; rintro e w3 ⟨rfl, hb3⟩))
          go_ret
          exact ⟨w.heap.size + 1, rfl, by omega, (hs2.below hb3).cast fun x => by rw [hP.tel, HP.out, telR_stop hd], Below.all (hP.low hb1 hbt2) hb3⟩
        · rw [hd] at HNul
          go_wp2_with (first
            | (go_at_call 132; refine HCall.out.mono ?_; rintro e w1 ⟨fbk, rfl, hwh, hs1, hb1⟩)
            | (go_at_call 77; refine (addAll_may U hU _ (w.heap.size + 1) (.map (some fbk)) _ _ (hP.out.below hb1) (.inr ⟨_, rfl, hs1⟩) (HNE.out _ hwh)).mono ?_; rintro e w2 ⟨rfl, hbt2, hs2⟩; have d0 := (hP.box hb1 hbt2).1)
            | (go_at_call 74; refine (HNul.out _ (hP.low hb1 hbt2)).mono ?_; rintro e w3 ⟨rfl, hb3⟩))
          exact ⟨⟨j + 1, ps2, _, by omega, by go_num, hP.step hb1 hbt2 HP.out hd hs2 hb3 hprest hszs hnm2.2 hwd2.2⟩, by simp [intOf]; omega⟩
      · have hp0 : ps' = .nil := hP.parts.done hlt1 hus
        have HP0 := PredP.hide hp0
        clear hp0
        go_wp2_with (go_at_call 77; refine (addAll_may U hU _ (w.heap.size + 1) (.map vo) _ _ hP.out (HVA.out.below hP.below) HVN.out).mono ?_; rintro e w2 ⟨rfl, hbt2, hs2⟩)
        go_ret
        exact ⟨w.heap.size + 1, rfl, by omega, hs2.cast fun x => by rw [hP.tel, HP0.out, telR_nil], hP.low (Below.refl _ _) hbt2⟩

end Go.Proofs.YtpcmemcanpgadaaGreatDoor

/-
  tells.
-/
namespace Go.Proofs.YtpcmemcanpgadaaGreatDoor
open Go.RowKit Go.Maps

/-- the rows that are behind -/
structure RowsT (U l0 : List PredP.Str) (f : List (PredP.Str × Nat)) (F : PredP.Str → PredP.Str → Bool) (A : PredP.Str → Bool) (eb fb : Nat) (av : Value) (w : World) (ok : Nat → Prop) (es : PredP.Rows) (cs : List Value) (ob k : Nat) (es' : PredP.Rows) (g : PredP.Str → Bool) (wr : World) : Prop where
  rows : rowsAt ok w es' (cs.drop (k * 2))
  tel : ∀ x, PredP.telE x (F x) l0.contains (A x) es = (g x || PredP.telE x (F x) l0.contains (A x) es')
  size : SizeOf.sizeOf es' ≤ SizeOf.sizeOf es
  names : NamesIn f (PredP.namesE es')
  words : WordsIn U (PredP.wordsE es')
  out : SetOf U wr ob g
  below : Below w.heap.size w wr
  c0 : wr.cell? ⟨w.heap.size, 0, none⟩ = some (.map (some eb))
  c1 : wr.cell? ⟨w.heap.size, 1, none⟩ = some (.map (some fb))
  c2 : wr.cell? ⟨w.heap.size, 2, none⟩ = some av
theorem RowsT.low {U l0 : List PredP.Str} {f : List (PredP.Str × Nat)} {F : PredP.Str → PredP.Str → Bool} {A : PredP.Str → Bool} {eb fb : Nat} {av : Value} {w : World} {ok : Nat → Prop} {es : PredP.Rows} {cs : List Value} {k : Nat} {es' : PredP.Rows} {g : PredP.Str → Bool} {wr w1 w2 : World}
    (h : RowsT U l0 f F A eb fb av w ok es cs (w.heap.size + 1) k es' g wr) (hb1 : Below wr.heap.size wr w1) (hbt : But (w.heap.size + 1) w1 w2) : Below w.heap.size w w2 :=
  hbt.belowOf (Below.all h.below hb1) (by omega) (Below.all h.below hb1).size
theorem RowsT.step {U l0 : List PredP.Str} {f : List (PredP.Str × Nat)} {F : PredP.Str → PredP.Str → Bool} {A : PredP.Str → Bool} {eb fb : Nat} {av : Value} {w : World} {ok : Nat → Prop} {es : PredP.Rows} {cs : List Value} {k : Nat} {es' : PredP.Rows} {g : PredP.Str → Bool} {wr w1 w2 : World}
    (h : RowsT U l0 f F A eb fb av w ok es cs (w.heap.size + 1) k es' g wr) (hb1 : Below wr.heap.size wr w1) (hbt : But (w.heap.size + 1) w1 w2) {bar : Nat} {r : PredP.Parts} {es2 : PredP.Rows} (hp : es' = .cons bar r es2)
    (hs : SetOf U w2 (w.heap.size + 1) (fun x => g x || PredP.telR x (F x) l0.contains (A x) r)) (hpr : rowsAt ok w es2 (cs.drop ((k + 1) * 2))) :
    RowsT U l0 f F A eb fb av w ok es cs (w.heap.size + 1) (k + 1) es2 (fun x => g x || PredP.telR x (F x) l0.contains (A x) r) w2 := by
  have hn := h.names
  have hw := h.words
  have hz := h.size
  rw [hp] at hn hw hz
  rw [PredP.namesE] at hn
  rw [PredP.wordsE] at hw
  simp at hz
  exact ⟨hpr, fun x => by rw [h.tel, hp, PredP.telE, Bool.or_assoc], by omega, fun x hx => hn x (List.mem_append_right _ hx), fun x hx => hw x (List.mem_append_right _ hx), hs, h.low hb1 hbt,
    hbt.cellAt ((hb1.cell (World.block_lt_of_cell? _ _ h.c0)).trans h.c0) (by omega), hbt.cellAt ((hb1.cell (World.block_lt_of_cell? _ _ h.c1)).trans h.c1) (by omega), hbt.cellAt ((hb1.cell (World.block_lt_of_cell? _ _ h.c2)).trans h.c2) (by omega)⟩

set_option maxRecDepth 100000 in
set_option maxHeartbeats 2000000 in
theorem tells_any (U l0 : List PredP.Str) (hU : 2 * U.length < maxLen) (f : List (PredP.Str × Nat)) (F : PredP.Str → PredP.Str → Bool) (eb fb : Nat) (ao : Option Nat) (es : PredP.Rows) (IH : Hid (∀ r : PredP.Parts, SizeOf.sizeOf r < SizeOf.sizeOf es → TelR U l0 f F eb fb (.map ao) r)) : TelE U l0 f F eb fb (.map ao) es := by
  intro ok w v cs va A hst hsl hps hnm hwd hva
  obtain ⟨vo, rfl⟩ := hva.form
  have hmm := @run_makeMap Tryz.prog
  have hB0 : ∀ o, Below w.heap.size w ((w.alloc o).alloc (.map #[] 0)) := fun o => ((Below.refl _ w).alloc (Nat.le_refl _) o).alloc (by simp) _
  have hout0 : ∀ o, SetOf U ((w.alloc o).alloc (.map #[] 0)) (w.heap.size + 1) (fun _ => false) := fun o => by
    have := SetOf.made U (w.alloc o)
    simpa using this
  rcases hsl with ⟨rfl, rfl⟩ | ⟨g1, n1, cap1, rfl, hn1, hok1, hg1, hus, hcell1⟩
  · have he : es = .nil := rowsAt.done (k := 0) (n := 0) (cs := []) hps (by omega) rfl
    subst he
    have HO := PredP.hide hout0
    clear IH hps hva hout0 hst
    go_enter Tryz.func78, Tryz.ntmps78
    go_wp2_with fail
    refine wp_loop_rounds 1 ?_
    rw [rounds_succ]
    go_wp2_with fail
    go_ret
    exact ⟨w.heap.size + 1, rfl, by omega, (HO.out _).cast fun x => by rw [PredP.telE], hB0 _⟩
  · have HC1 := PredP.hide hcell1
    have HST := PredP.hide hst
    have HVA := PredP.hide hva
    have hrel0 : ∀ t, RowsT U l0 f F A eb fb (.map ao) w ok es cs (w.heap.size + 1) 0 es (fun _ => false) ((w.alloc (.cells #[.map (some eb), .map (some fb), .map ao] t)).alloc (.map #[] 0)) := fun t =>
      ⟨by simpa using hps, fun x => by simp, Nat.le_refl _, hnm, hwd, hout0 _, hB0 _, past_fresh rfl, past_fresh rfl, past_fresh rfl⟩
    have HREL := PredP.hide hrel0
    clear hcell1 hst hva hrel0 hps hnm hwd hout0
    unfold maxLen at hn1
    go_enter Tryz.func78, Tryz.ntmps78
    go_wp2_with fail
    go_loopw [13] (fun t wr => ∃ k : Nat, ∃ es' g, k ≤ n1 ∧ t = .int .i64 k ∧ RowsT U l0 f F A eb fb (.map ao) w ok es cs (w.heap.size + 1) k es' g wr) (fun t _ => n1 - (intOf t).toNat)
    case atStart => exact ⟨0, es, _, by omega, rfl, HREL.out _⟩
    case round =>
      clear HREL
      obtain ⟨k, es', g, hk, rfl, hP⟩ := hrel
      by_cases hlt : k < n1
      · obtain ⟨bar, r, e2, u, us, he, hc0, hc1, hu, hps, hrest⟩ := hP.rows.at hlt hus
        have k0 := sl_cell hg1 HC1.out hP.below hc0
        have k1 := sl_cell hg1 HC1.out hP.below hc1
        have hsz : SizeOf.sizeOf r < SizeOf.sizeOf es := by have := hP.size; rw [he] at this; simp at this; omega
        have hnm : NamesIn f (PredP.namesR r) := by
          have := hP.names; rw [he, PredP.namesE] at this
          exact fun x hx => this x (List.mem_append_left _ hx)
        have hwd : WordsIn U (PredP.wordsR r) := by
          have := hP.words; rw [he, PredP.wordsE] at this
          exact fun x hx => this x (List.mem_append_left _ hx)
        have HE := PredP.hide he
        have hb0 : ∀ o, Below wr.heap.size wr (wr.alloc o) := fun o => (Below.refl _ _).alloc (Nat.le_refl _) o
        have b0 := fun o => ((hb0 o).cell (World.block_lt_of_cell? _ _ hP.c0)).trans hP.c0
        have b1 := fun o => ((hb0 o).cell (World.block_lt_of_cell? _ _ hP.c1)).trans hP.c1
        have b2 := fun o => ((hb0 o).cell (World.block_lt_of_cell? _ _ hP.c2)).trans hP.c2
        have hC : ∀ o, Calls Tryz.prog 114 #[.agg #[.map (some eb), .map (some fb), .map ao], u, .map vo] (wr.alloc o) (TelPost U (wr.alloc o) (fun x => PredP.telR x (F x) l0.contains (A x) r)) := fun o => by
          have hB := Below.all hP.below (hb0 o)
          exact IH.out r hsz ok _ _ us _ A (HST.out.below hB) (hu.below hB).off (hps.below hB) hnm hwd (HVA.out.below hB)
        have HCall := PredP.hide hC
        have hlo := hP.out.lt
        obtain ⟨ua, un, uc, rfl⟩ := hu.form
        clear hc0 hc1 he hu hps hC
        go_wp2_with (first
          | (go_at_call 114; refine (HCall.out _).mono ?_; rintro e w1 ⟨fbk, rfl, hwh, hs1, hb1⟩; have hbz := Below.all (hb0 _) hb1)
          | (go_at_call 77; refine (addAll_may U hU _ (w.heap.size + 1) (.map (some fbk)) _ _ (hP.out.below hbz) (.inr ⟨_, rfl, hs1⟩) (fun e => by cases e; simp at hwh; omega)).mono ?_; rintro e w2 ⟨rfl, hbt2, hs2⟩))
        exact ⟨⟨k + 1, e2, _, by omega, by go_num, hP.step hbz hbt2 HE.out hs2 hrest⟩, by simp [intOf]; omega⟩
      · have he0 : es' = .nil := hP.rows.done hlt hus
        have HE0 := PredP.hide he0
        clear he0
        go_wp2_with fail
        go_ret
        exact ⟨w.heap.size + 1, rfl, by omega, hP.out.cast fun x => by rw [hP.tel, HE0.out, PredP.telE]; simp, hP.below⟩

end Go.Proofs.YtpcmemcanpgadaaGreatDoor

/-
  firstOf; the knot.
-/
namespace Go.Proofs.YtpcmemcanpgadaaGreatDoor
open Go.RowKit Go.Maps

theorem look_in {f : List (PredP.Str × Nat)} {s : PredP.Str} (h : (f.map (·.1)).contains s = true) : ∃ b, look f s = some b ∧ (s, b) ∈ f := by
  induction f with
  | nil => simp at h
  | cons p f ih =>
    by_cases hp : p.1 = s
    · subst hp
      exact ⟨p.2, by simp [look], List.mem_cons_self⟩
    · have h' : (f.map (·.1)).contains s = true := by
        rw [List.map_cons, List.contains_cons, Bool.or_eq_true] at h
        rcases h with h | h
        · rw [beq_iff_eq] at h; exact absurd h.symm hp
        · exact h
      obtain ⟨b, h1, h2⟩ := ih h'
      have hb : (p.1 == s) = false := by simpa using hp
      exact ⟨b, by unfold look at h1 ⊢; rw [List.find?_cons, hb]; exact h1, List.mem_cons_of_mem _ h2⟩
theorem telE_false (x : PredP.Str) (f k : PredP.Str → Bool) : ∀ e : PredP.Rows, PredP.telE x f k false e = PredP.fstE x f k e
  | .nil => by rw [PredP.telE, PredP.fstE]
  | .cons _ r e => by rw [PredP.telE, PredP.fstE, telE_false x f k e]; simp [PredP.telR]

set_option maxRecDepth 100000 in
set_option maxHeartbeats 2000000 in
theorem firstOf_any (U l0 : List PredP.Str) (f : List (PredP.Str × Nat)) (F : PredP.Str → PredP.Str → Bool) (eb fb : Nat) (ao : Option Nat) (p : PredP.Part) (IH : Hid (∀ e : PredP.Rows, SizeOf.sizeOf e < SizeOf.sizeOf p → TelE U l0 f F eb fb (.map ao) e)) : FstP U l0 f F eb fb (.map ao) p := by
  intro ok w v hst hp hnm hwd
  have hmm := @run_makeMap Tryz.prog
  have hB0 : ∀ o, Below w.heap.size w (w.alloc o) := fun o => (Below.refl _ w).alloc (Nat.le_refl _) o
  cases p with
  | word s =>
    unfold partAt at hp
    obtain ⟨b, a, rfl, hok, hb, c0, hs, ha, _⟩ := hp
    have hU : PredP.bs a ∈ U := by rw [hs]; exact hwd s (by rw [PredP.wordsP]; simp)
    have HS := PredP.hide hs
    obtain ⟨w1, hrun1, hset1, hgr1⟩ := set_one (w.alloc (.cells #[.map (some eb), .map (some fb), .map ao] 91)) a (le_max ha)
    have c01 : ((w.alloc (.cells #[.map (some eb), .map (some fb), .map ao] 91)).alloc (.map #[] 0)).cell? ⟨b, 0, none⟩ = some (.string a) := ((((Below.refl _ w).alloc (Nat.le_refl _) _).alloc (by simp) _).cell (p := ⟨b, 0, none⟩) hb).trans c0
    have asword := as_word_word
    have hsz : (w.alloc (.cells #[.map (some eb), .map (some fb), .map ao] 91)).heap.size = w.heap.size + 1 := by simp
    rw [hsz] at hrun1 hset1 hgr1
    clear IH hst hs hnm hwd hsz
    go_enter Tryz.func132, Tryz.ntmps132
    go_wp2_with fail
    go_ret
    have hb1 : Below w.heap.size w w1 := (((Below.refl _ w).alloc (Nat.le_refl _) _).alloc (by simp) _).grown hgr1 (by simp; omega) (fun j e => by cases e; omega)
    refine ⟨w.heap.size + 1, rfl, .inr (by omega), ⟨_, hset1, fun x hx => by simp at hx; rw [hx]; exact hU, fun x => ?_⟩, hb1⟩
    show _ = PredP.fstP x (F x) l0.contains (.word s)
    rw [show PredP.fstP x (F x) l0.contains (.word s) = (s == x) by unfold PredP.fstP; rfl, ← HS.out, Bool.eq_iff_iff]
    simp only [List.contains_cons, List.contains_nil, Bool.or_false, beq_iff_eq]
    exact ⟨Eq.symm, Eq.symm⟩
  | name s q =>
    unfold partAt at hp
    obtain ⟨b, a, rfl, hok, hb, c0, hs, ha, c1, _⟩ := hp
    obtain ⟨tb, hl, hin⟩ := look_in (hnm (s, q) (by rw [PredP.namesP]; simp))
    have hread : ∀ W, Below w.heap.size w W → (Instr.lookup 89 (.map (some fb)) (.string a) false).run Tryz.prog W = .ok (.map (some tb)) W := fun W hW => by
      rw [(hst.map.below hW).read a (le_max ha), hs, hl]
    have HF := PredP.hide (hst.sets _ hin)
    have HIN := PredP.hide hin
    have HRead := PredP.hide hread
    have asword := as_name_word
    have asname := as_name_name
    clear IH hst hs hnm hwd hin hl hread
    go_enter Tryz.func132, Tryz.ntmps132
    go_wp2_with fail
    have hBW : Below w.heap.size w (w.alloc (.cells #[.map (some eb), .map (some fb), .map ao] 91)) := hB0 _
    have x1 : (w.alloc (.cells #[.map (some eb), .map (some fb), .map ao] 91)).cell? ⟨w.heap.size, 1, none⟩ = some (.map (some fb)) := cell_fresh rfl
    generalize w.alloc (.cells #[.map (some eb), .map (some fb), .map ao] 91) = W at hBW x1 ⊢
    have c01 := (hBW.cell (p := ⟨b, 0, none⟩) hb).trans c0
    have hBd : Below w.heap.size w { W with drawn := W.drawn + 1 } := ⟨hBW.os, hBW.tape, hBW.output, hBW.size, hBW.block⟩
    have hrd := HRead.out _ hBd
    go_still_tail 6, mixed
    generalize { W with drawn := W.drawn + 1 } = Wd at hBd hrd ⊢
    go_wp2_with fail
    go_ret
    refine ⟨tb, rfl, .inl (List.mem_map.2 ⟨_, HIN.out, rfl⟩), (HF.out.below hBd).cast fun x => ?_, hBd⟩
    show _ = PredP.fstP x (F x) l0.contains (.name s q)
    unfold PredP.fstP; rfl
  | br k q e =>
    unfold partAt at hp
    obtain ⟨b, u, cs, rfl, hok, hb, c0, c1, hsl, hrows⟩ := hp
    have hC : ∀ W, Below w.heap.size w W → Calls Tryz.prog 78 #[.agg #[.map (some eb), .map (some fb), .map ao], u, .map none] W (TelPost U W (fun x => PredP.telE x (F x) l0.contains false e)) := fun W hW =>
      IH.out e (by simp; omega) ok W u cs (.map none) (fun _ => false) (hst.below hW) (hsl.below hW) (hrows.below hW) (fun x hx => hnm x (by rw [PredP.namesP]; exact hx)) (fun x hx => hwd x (by rw [PredP.wordsP]; exact hx)) (.inl ⟨rfl, fun _ => rfl⟩)
    have HC := PredP.hide hC
    obtain ⟨ua, un, uc, rfl⟩ := hsl.form
    clear IH hst hsl hrows hnm hwd hC
    cases k with
    | opt =>
      simp only [tyOf]
      have asword := as_option_word
      have asname := as_option_name
      go_enter Tryz.func132, Tryz.ntmps132
      go_wp2_with fail
      have hBW : Below w.heap.size w (w.alloc (.cells #[.map (some eb), .map (some fb), .map ao] 91)) := hB0 _
      have x0 : (w.alloc (.cells #[.map (some eb), .map (some fb), .map ao] 91)).cell? ⟨w.heap.size, 0, none⟩ = some (.map (some eb)) := cell_fresh rfl
      have x1 : (w.alloc (.cells #[.map (some eb), .map (some fb), .map ao] 91)).cell? ⟨w.heap.size, 1, none⟩ = some (.map (some fb)) := cell_fresh rfl
      have x2 : (w.alloc (.cells #[.map (some eb), .map (some fb), .map ao] 91)).cell? ⟨w.heap.size, 2, none⟩ = some (.map ao) := cell_fresh rfl
      generalize w.alloc (.cells #[.map (some eb), .map (some fb), .map ao] 91) = W at hBW x0 x1 x2 ⊢
      have d0 := (hBW.cell (p := ⟨b, 0, none⟩) hb).trans c0
      have d1 := (hBW.cell (p := ⟨b, 1, none⟩) hb).trans c1
      have e0 : W.drew.cell? ⟨b, 0, none⟩ = some (.int .i64 (q : Int)) := d0
      have e1 : W.drew.cell? ⟨b, 1, none⟩ = some (.slice ua un uc) := d1
      have hlW := World.block_lt_of_cell? W _ x0
      go_region_law (first
        | (go_simp; rw [m_opt b _ _ (by kernel_rfl) q ua un uc e0 e1]; go_simp; go_at_call 202; refine (bracket_within _ q ua un uc).mono ?_; rintro e1 w1 ⟨rfl, hb1⟩; have y0 := (hb1.cell (p := ⟨w.heap.size, 0, none⟩) hlW).trans x0; have y1 := (hb1.cell (p := ⟨w.heap.size, 1, none⟩) hlW).trans x1; have y2 := (hb1.cell (p := ⟨w.heap.size, 2, none⟩) hlW).trans x2; have hbz : Below w.heap.size w w1 := hBW.trans (((Below.refl _ W).drew.trans hb1).mono hBW.size))
        | (go_simp; go_at_call 78; refine (HC.out _ hbz).mono ?_; rintro e2 w2 ⟨fbk, rfl, hwh, hs2, hb2⟩))
      all_goals
        go_wp2_with fail
        go_ret
        exact ⟨fbk, rfl, .inr (Nat.le_trans hbz.size hwh), hs2.cast fun x => by rw [telE_false]; exact (PredP.fstP.eq_3 ..).symm, Below.all hbz hb2⟩
    | loop =>
      simp only [tyOf]
      have asword := as_loop_word
      have asname := as_loop_name
      go_enter Tryz.func132, Tryz.ntmps132
      go_wp2_with fail
      have hBW : Below w.heap.size w (w.alloc (.cells #[.map (some eb), .map (some fb), .map ao] 91)) := hB0 _
      have x0 : (w.alloc (.cells #[.map (some eb), .map (some fb), .map ao] 91)).cell? ⟨w.heap.size, 0, none⟩ = some (.map (some eb)) := cell_fresh rfl
      have x1 : (w.alloc (.cells #[.map (some eb), .map (some fb), .map ao] 91)).cell? ⟨w.heap.size, 1, none⟩ = some (.map (some fb)) := cell_fresh rfl
      have x2 : (w.alloc (.cells #[.map (some eb), .map (some fb), .map ao] 91)).cell? ⟨w.heap.size, 2, none⟩ = some (.map ao) := cell_fresh rfl
      generalize w.alloc (.cells #[.map (some eb), .map (some fb), .map ao] 91) = W at hBW x0 x1 x2 ⊢
      have d0 := (hBW.cell (p := ⟨b, 0, none⟩) hb).trans c0
      have d1 := (hBW.cell (p := ⟨b, 1, none⟩) hb).trans c1
      have e0 : W.drew.cell? ⟨b, 0, none⟩ = some (.int .i64 (q : Int)) := d0
      have e1 : W.drew.cell? ⟨b, 1, none⟩ = some (.slice ua un uc) := d1
      have hlW := World.block_lt_of_cell? W _ x0
      go_region_law (first
        | (go_simp; rw [m_loop b _ _ (by kernel_rfl) q ua un uc e0 e1]; go_simp; go_at_call 202; refine (bracket_within _ q ua un uc).mono ?_; rintro e1 w1 ⟨rfl, hb1⟩; have y0 := (hb1.cell (p := ⟨w.heap.size, 0, none⟩) hlW).trans x0; have y1 := (hb1.cell (p := ⟨w.heap.size, 1, none⟩) hlW).trans x1; have y2 := (hb1.cell (p := ⟨w.heap.size, 2, none⟩) hlW).trans x2; have hbz : Below w.heap.size w w1 := hBW.trans (((Below.refl _ W).drew.trans hb1).mono hBW.size))
        | (go_simp; go_at_call 78; refine (HC.out _ hbz).mono ?_; rintro e2 w2 ⟨fbk, rfl, hwh, hs2, hb2⟩))
      all_goals
        go_wp2_with fail
        go_ret
        exact ⟨fbk, rfl, .inr (Nat.le_trans hbz.size hwh), hs2.cast fun x => by rw [telE_false]; exact (PredP.fstP.eq_3 ..).symm, Below.all hbz hb2⟩
    | grp =>
      simp only [tyOf]
      have asword := as_group_word
      have asname := as_group_name
      go_enter Tryz.func132, Tryz.ntmps132
      go_wp2_with fail
      have hBW : Below w.heap.size w (w.alloc (.cells #[.map (some eb), .map (some fb), .map ao] 91)) := hB0 _
      have x0 : (w.alloc (.cells #[.map (some eb), .map (some fb), .map ao] 91)).cell? ⟨w.heap.size, 0, none⟩ = some (.map (some eb)) := cell_fresh rfl
      have x1 : (w.alloc (.cells #[.map (some eb), .map (some fb), .map ao] 91)).cell? ⟨w.heap.size, 1, none⟩ = some (.map (some fb)) := cell_fresh rfl
      have x2 : (w.alloc (.cells #[.map (some eb), .map (some fb), .map ao] 91)).cell? ⟨w.heap.size, 2, none⟩ = some (.map ao) := cell_fresh rfl
      generalize w.alloc (.cells #[.map (some eb), .map (some fb), .map ao] 91) = W at hBW x0 x1 x2 ⊢
      have d0 := (hBW.cell (p := ⟨b, 0, none⟩) hb).trans c0
      have d1 := (hBW.cell (p := ⟨b, 1, none⟩) hb).trans c1
      have e0 : W.drew.cell? ⟨b, 0, none⟩ = some (.int .i64 (q : Int)) := d0
      have e1 : W.drew.cell? ⟨b, 1, none⟩ = some (.slice ua un uc) := d1
      have hlW := World.block_lt_of_cell? W _ x0
      go_region_law (first
        | (go_simp; rw [m_grp b _ _ (by kernel_rfl) q ua un uc e0 e1]; go_simp; go_at_call 202; refine (bracket_within _ q ua un uc).mono ?_; rintro e1 w1 ⟨rfl, hb1⟩; have y0 := (hb1.cell (p := ⟨w.heap.size, 0, none⟩) hlW).trans x0; have y1 := (hb1.cell (p := ⟨w.heap.size, 1, none⟩) hlW).trans x1; have y2 := (hb1.cell (p := ⟨w.heap.size, 2, none⟩) hlW).trans x2; have hbz : Below w.heap.size w w1 := hBW.trans (((Below.refl _ W).drew.trans hb1).mono hBW.size))
        | (go_simp; go_at_call 78; refine (HC.out _ hbz).mono ?_; rintro e2 w2 ⟨fbk, rfl, hwh, hs2, hb2⟩))
      all_goals
        go_wp2_with fail
        go_ret
        exact ⟨fbk, rfl, .inr (Nat.le_trans hbz.size hwh), hs2.cast fun x => by rw [telE_false]; exact (PredP.fstP.eq_3 ..).symm, Below.all hbz hb2⟩

theorem tel_all (U l0 : List PredP.Str) (hU : 2 * U.length < maxLen) (f : List (PredP.Str × Nat)) (F : PredP.Str → PredP.Str → Bool) (eb fb : Nat) (ao : Option Nat) (n : Nat) :
    (∀ p : PredP.Part, SizeOf.sizeOf p ≤ n → FstP U l0 f F eb fb (.map ao) p) ∧ (∀ r : PredP.Parts, SizeOf.sizeOf r ≤ n → TelR U l0 f F eb fb (.map ao) r) ∧ (∀ e : PredP.Rows, SizeOf.sizeOf e ≤ n → TelE U l0 f F eb fb (.map ao) e) := by
  induction n using Nat.strongRecOn with
  | _ n ih =>
    have hp : ∀ p : PredP.Part, SizeOf.sizeOf p ≤ n → FstP U l0 f F eb fb (.map ao) p := fun p hp => firstOf_any U l0 f F eb fb ao p fun e he => (ih (SizeOf.sizeOf e) (by omega)).2.2 e (Nat.le_refl _)
    have hr : ∀ r : PredP.Parts, SizeOf.sizeOf r ≤ n → TelR U l0 f F eb fb (.map ao) r := fun r hr => tellsRow_any U l0 hU f F eb fb ao r fun p hp' => hp p (by omega)
    exact ⟨hp, hr, fun e he => tells_any U l0 hU f F eb fb ao e fun r hr' => hr r (by omega)⟩

end Go.Proofs.YtpcmemcanpgadaaGreatDoor
