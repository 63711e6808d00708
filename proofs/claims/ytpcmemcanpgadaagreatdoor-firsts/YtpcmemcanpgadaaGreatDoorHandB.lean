import Derived.Test.YtpcmemcanpgadaaGreatDoorWAft
import Derived.Test.YtpcmemcanpgadaaGreatDoorSetF
namespace Go.Proofs.YtpcmemcanpgadaaGreatDoor
open PredP (hide Str Rule bs)
open Go.RowKit Go.Maps
structure ButA (S:KS) (w w':World):Prop where
 os:w'.os=w.os
 tape:w'.tape=w.tape
 output:w'.output=w.output
 size:w.heap.size≤w'.heap.size
 block:∀k,k<w.heap.size→k∉S.fa.map (·.2)→w'.heap[k]?=w.heap[k]?
theorem ButA.refl (S:KS) (w:World):ButA S w w:=⟨rfl,rfl,rfl,Nat.le_refl _,fun _ _ _=>rfl⟩
theorem ButA.trans {S:KS} {a b c:World} (h:ButA S a b) (k:ButA S b c):ButA S a c :=
 ⟨k.os.trans h.os,k.tape.trans h.tape,k.output.trans h.output,Nat.le_trans h.size k.size,fun i hi hr=>(k.block i (Nat.lt_of_lt_of_le hi h.size) hr).trans (h.block i hi hr)⟩
theorem ButA.of_below {S:KS} {w w':World} (h:Below w.heap.size w w'):ButA S w w':=⟨h.os,h.tape,h.output,h.size,fun k hk _=>h.block k hk⟩
theorem ButA.of_but {S:KS} {w w':World} {b:Nat} (h:But b w w') (hb:b∈S.fa.map (·.2)):ButA S w w':=⟨h.os,h.tape,h.output,h.size,fun k hk hr=>h.block k hk (fun e=>hr (by rw[e];exact hb))⟩
theorem ButA.quiet {S:KS} {w A B:World} {N:Nat} (h:ButA S w A) (hq:Quiet N A B) (hN:w.heap.size≤N):ButA S w B :=
 ⟨hq.os.trans h.os,hq.tape.trans h.tape,hq.output.trans h.output,Nat.le_trans h.size hq.size,fun k hk hr=>(hq.low k (Nat.lt_of_lt_of_le hk hN) (Nat.lt_of_lt_of_le hk h.size)).trans (h.block k hk hr)⟩
theorem ButA.cellAt {S:KS} {w w':World} (h:ButA S w w') {b o:Nat} {v:Value} (hv:w.cell? ⟨b,o,none⟩=some v) (hr:b∉S.fa.map (·.2)):w'.cell? ⟨b,o,none⟩=some v :=
 (World.cell?_of_block (a:=⟨b,o,none⟩) (h.block b (World.block_lt_of_cell? w _ hv) hr)).trans hv
theorem ButA.keeps {S:KS} {w w':World} (h:ButA S w w') {N:Nat} (hN:∀b,b∈S.fa.map (·.2)→b<N):KeepsAbove N w w' :=
 ⟨h.size,fun k hk hA=>h.block k hA (fun hm=>by have:=hN k hm;omega)⟩
def Bnd (d:Words) (Bd:Str→Str→Bool):Prop:=∀n x,x∈d n→Bd x n=true
structure Arg (S:KS) (c:Words) (Bd:Str→Str→Bool) (vb:Nat) (A:Words→Str→Bool) (e:PredP.Rows) (W:World):Prop where
 hold:∀d W',Kn S c d W'→ButA S W W'→SetOf S.U W' vb (A d)
 mono:∀d d' x,Le d d'→A d x=true→A d' x=true
 snd:∀d,Bnd d Bd→∀n x,PredP.occE x (Fof c x) S.l0.contains n (A d x) e=true→Bd x n=true
def HandPost (S:KS) (c:Words) (Bd:Str→Str→Bool) (d:Words) (A:Words→Str→Bool) (e:PredP.Rows) (W:World) (r:Ending) (W':World):Prop :=
 r=.returned (.tuple #[])∧ButA S W W'∧∃d',Kn S c d' W'∧Bnd d' Bd∧Le d d'∧∀n x,PredP.occE x (Fof c x) S.l0.contains n (A d x) e=true→x∈d' n
def HandE (S:KS) (c:Words) (Bd:Str→Str→Bool) (e:PredP.Rows):Prop :=
 ∀(ok:Nat→Prop) (W:World) (v:Value) (cs:List Value) (vb:Nat) (A:Words→Str→Bool) (d:Words),Kn S c d W→Bnd d Bd→slAt ok S.w0 2 v cs→rowsAt ok S.w0 e cs→NamesIn S.f (PredP.namesE e)→WordsIn S.U (PredP.wordsE e)→Arg S c Bd vb A e W →
  Calls Tryz.prog 80 #[.agg #[.map (some S.eb),.map (some S.fb),.map (some S.ab)],v,.map (some vb)] W (HandPost S c Bd d A e W)
def withinE:PredP.Part→PredP.Rows
 | .br _ _ e=>e
 | _=>.nil
theorem withinP_br (F:Str→Str→Bool) (l0:List Str) (A:Str→Bool) (q:PredP.Br) (p:Nat) (e:PredP.Rows) (x:Str):withinP F l0 A (.br q p e) x=PredP.within x (F x) l0.contains (A x) q e:=by
 cases q<;>rfl
theorem occ_within {F:Str→Str→Bool} {l0:List Str} {A:Str→Bool} {p:PredP.Part} {y n:Str} (h:PredP.occE y (F y) l0.contains n (withinP F l0 A p y) (withinE p)=true):PredP.occP y (F y) l0.contains n (A y) p=true:=by
 cases p with
 | word s=>simp[withinE,PredP.occE]at h
 | name s q=>simp[withinE,PredP.occE]at h
 | br q r e=>rw[withinP_br]at h;rw[PredP.occP];exact h
theorem occ_part {F:Str→Str→Bool} {l0:List Str} {A:Str→Bool} {p:PredP.Part} {y n:Str} (h:PredP.occP y (F y) l0.contains n (A y) p=true) :
  (∃q,p=.name n q∧A y=true)∨PredP.occE y (F y) l0.contains n (withinP F l0 A p y) (withinE p)=true:=by
 cases p with
 | word s=>simp[PredP.occP]at h
 | name s q =>
  rw[PredP.occP,Bool.and_eq_true,beq_iff_eq]at h
  exact .inl ⟨q,by rw[h.1],h.2⟩
 | br q r e=>rw[PredP.occP]at h;exact .inr (by rw[withinP_br];exact h)
theorem tails_mem {ok:Nat→Prop} {w:World}:∀(ps:PredP.Parts) (us:List Value),partsAt ok w ps us→∀x,x∈tails ps us →
  partAt ok w x.1 x.2.2∧SizeOf.sizeOf x.1<SizeOf.sizeOf ps∧(∀n,n∈PredP.namesP x.1→n∈PredP.namesR ps)∧(∀n,n∈PredP.wordsP x.1→n∈PredP.wordsR ps)∧∀(y:Str) (f k:Str→Bool) (n:Str) (b:Bool),PredP.occP y f k n (PredP.telR y f k b x.2.1) x.1=true→PredP.occR y f k n b ps=true
 | .nil,us,h,x,hx=>by simp[tails]at hx
 | .cons p ps,us,h,x,hx=>by
  unfold partsAt at h
  obtain⟨v,l,rfl,hv,hl⟩:=h
  rw[tails]at hx
  rcases List.mem_cons.1 hx with rfl | hx
  ·exact⟨hv,by simp;omega,fun n hn=>by rw[PredP.namesR];exact List.mem_append_left _ hn,fun n hn=>by rw[PredP.wordsR];exact List.mem_append_left _ hn,fun y f k n b h=>by rw[PredP.occR,Bool.or_eq_true];exact .inl h⟩
  ·obtain⟨h1,h2,h3,h4,h5⟩:=tails_mem ps l hl x hx
   exact⟨h1,by simp;omega,fun n hn=>by rw[PredP.namesR];exact List.mem_append_right _ (h3 n hn),fun n hn=>by rw[PredP.wordsR];exact List.mem_append_right _ (h4 n hn),fun y f k n b h=>by rw[PredP.occR,Bool.or_eq_true];exact .inr (h5 y f k n b h)⟩
theorem occ_tails {ok:Nat→Prop} {w:World}:∀(ps:PredP.Parts) (us:List Value),partsAt ok w ps us→∀(y:Str) (f k:Str→Bool) (n:Str) (b:Bool),PredP.occR y f k n b ps=true →
  ∃x,x∈tails ps us∧PredP.occP y f k n (PredP.telR y f k b x.2.1) x.1=true
 | .nil,us,h,y,f,k,n,b,ho=>by simp[PredP.occR]at ho
 | .cons p ps,us,h,y,f,k,n,b,ho=>by
  unfold partsAt at h
  obtain⟨v,l,rfl,hv,hl⟩:=h
  rw[PredP.occR,Bool.or_eq_true]at ho
  rcases ho with ho | ho
  ·exact⟨(p,ps,v),by rw[tails];exact List.mem_cons_self,ho⟩
  ·obtain⟨x,h1,h2⟩:=occ_tails ps l hl y f k n b ho
   exact⟨x,by rw[tails];exact List.mem_cons_of_mem _ h1,h2⟩
structure HB (S:KS) (c:Words) (Bd:Str→Str→Bool) (w:World) (d s:Words) (Ds:List Nat) (W:World):Prop where
 kn:Kn S c s W
 bd:Bnd s Bd
 le:Le d s
 but:ButA S w W
 b0:W.cell? ⟨w.heap.size,0,none⟩=some (.map (some S.eb))
 b1:W.cell? ⟨w.heap.size,1,none⟩=some (.map (some S.fb))
 b2:W.cell? ⟨w.heap.size,2,none⟩=some (.map (some S.ab))
 mks:MarksAt (w.heap.size+1) Ds W
theorem MapAt.quiet {N:Nat} {A B:World} {b:Nat} {f:List (Str×Nat)} (h:MapAt A b f) (hq:Quiet N A B):MapAt B b f:=by
 obtain⟨D,⟨es,clock,h1,h2⟩,r⟩:=h
 exact⟨D,⟨es,clock,hq.same _ _ h1 rfl,h2⟩,r⟩
theorem Kn.quiet {S:KS} {c d:Words} {A B:World} {N:Nat} (h:Kn S c d A) (hq:Quiet N A B) (hN:S.w0.heap.size≤N):Kn S c d B :=
 ⟨hq.below h.low hN h.low.size,h.empty.quiet hq,h.fmap.quiet hq,h.amap.quiet hq,fun p hp=>(h.fset p hp).quiet hq,fun p hp=>(h.aset p hp).quiet hq,h.fU,h.aU,hq.cell h.rc,hq.cell h.s0,hq.cell h.s1,hq.cell h.s2⟩
theorem SetOf.quiet {U:List Str} {N:Nat} {A B:World} {b:Nat} {g:Str→Bool} (h:SetOf U A b g) (hq:Quiet N A B):SetOf U B b g:=by
 obtain⟨l,h,r⟩:=h
 exact⟨l,h.quiet hq,r⟩
theorem HB.quiet {S:KS} {c:Words} {Bd:Str→Str→Bool} {w:World} {d s:Words} {Ds:List Nat} {A B:World} {N:Nat} (h:HB S c Bd w d s Ds A) (hq:Quiet N A B) (hN:w.heap.size≤N) (hw:S.w0.heap.size≤w.heap.size) (hD:∀D∈Ds,D<N):HB S c Bd w d s Ds B :=
 ⟨h.kn.quiet hq (by omega),h.bd,h.le,h.but.quiet hq hN,hq.cell h.b0,hq.cell h.b1,hq.cell h.b2,h.mks.quiet hq hD⟩
theorem HB.onward {S:KS} {c:Words} {Bd:Str→Str→Bool} {w:World} {d s:Words} {Ds:List Nat} {A B:World} (h:HB S c Bd w d s Ds A) (hb:Below A.heap.size A B) (hw:S.w0.heap.size≤w.heap.size):HB S c Bd w d s Ds B :=
 h.quiet (N:=A.heap.size) (.of_below hb) h.but.size hw h.mks.lt
def Ahead (S:KS) (w:World):Prop:=∀b,b∈S.fa.map (·.2)→b<w.heap.size
theorem Kn.ahead {S:KS} {c d:Words} {W:World} (h:Kn S c d W):Ahead S W:=fun b hb=>by
 obtain⟨p,hp,rfl⟩:=List.mem_map.1 hb
 exact(h.aset p hp).lt
theorem MarksAt.butA {S:KS} {A B:World} (h:ButA S A B) {N:Nat} {Ds:List Nat} (hm:MarksAt N Ds A) (hN:∀b,b∈S.fa.map (·.2)→b<N):MarksAt N Ds B :=
 ⟨hm.1,fun D hD=>⟨(hm.2 D hD).1,(h.block D (hm.lt D hD) (fun hb=>by have:=hN D hb;have:=(hm.2 D hD).1;omega)).trans (hm.2 D hD).2⟩⟩
theorem HB.through {S:KS} {c:Words} {Bd:Str→Str→Bool} {w:World} {d s s':Words} {Ds:List Nat} {A B:World} (h:HB S c Bd w d s Ds A) (hw:Ahead S w) (hb:ButA S A B) (hk:Kn S c s' B) (hbd:Bnd s' Bd) (hle:Le s s'):HB S c Bd w d s' Ds B :=
 have hn:w.heap.size∉S.fa.map (·.2):=fun hm=>Nat.lt_irrefl _ (hw _ hm)
 ⟨hk,hbd,h.le.trans hle,h.but.trans hb,hb.cellAt h.b0 hn,hb.cellAt h.b1 hn,hb.cellAt h.b2 hn,MarksAt.butA hb h.mks (fun b hb=>Nat.lt_succ_of_lt (hw b hb))⟩
theorem HB.marked {S:KS} {c:Words} {Bd:Str→Str→Bool} {w:World} {d s:Words} {Ds Ds':List Nat} {A:World} (h:HB S c Bd w d s Ds A) (hm:MarksAt (w.heap.size+1) Ds' A):HB S c Bd w d s Ds' A :=
 ⟨h.kn,h.bd,h.le,h.but,h.b0,h.b1,h.b2,hm⟩
theorem HB.made {S:KS} {c:Words} {Bd:Str→Str→Bool} {w:World} {d:Words} (h:Kn S c d w) (hbd:Bnd d Bd) (t:Nat):HB S c Bd w d d [] (w.alloc (.cells #[.map (some S.eb),.map (some S.fb),.map (some S.ab)] t)) :=
 have hb:Below w.heap.size w (w.alloc (.cells #[.map (some S.eb),.map (some S.fb),.map (some S.ab)] t)):=(Below.refl _ _).alloc (Nat.le_refl _) _
 ⟨h.onward hb,hbd,.refl d,.of_below hb,cell_fresh rfl,cell_fresh rfl,cell_fresh rfl,⟨by simp,fun D hD=>by simp at hD⟩⟩
structure HR (S:KS) (c:Words) (ok:Nat→Prop) (e:PredP.Rows) (cs:List Value) (Ad:Str→Bool) (k:Nat) (e':PredP.Rows) (s:Words):Prop where
 rows:rowsAt ok S.w0 e' (cs.drop (k * 2))
 seen:∀n x,PredP.occE x (Fof c x) S.l0.contains n (Ad x) e=true→x∈s n∨PredP.occE x (Fof c x) S.l0.contains n (Ad x) e'=true
 sub:∀n x b,PredP.occE x (Fof c x) S.l0.contains n b e'=true→PredP.occE x (Fof c x) S.l0.contains n b e=true
 size:SizeOf.sizeOf e'≤SizeOf.sizeOf e
 names:NamesIn S.f (PredP.namesE e')
 words:WordsIn S.U (PredP.wordsE e')
theorem HR.step {S:KS} {c:Words} {ok:Nat→Prop} {e:PredP.Rows} {cs:List Value} {Ad:Str→Bool} {k:Nat} {bar:Nat} {r:PredP.Parts} {e2:PredP.Rows} {s s':Words} (h:HR S c ok e cs Ad k (.cons bar r e2) s) (hle:Le s s') (hrest:rowsAt ok S.w0 e2 (cs.drop ((k+1) * 2)))
  (hr:∀n x,PredP.occR x (Fof c x) S.l0.contains n (Ad x) r=true→x∈s' n):HR S c ok e cs Ad (k+1) e2 s':=by
 have h3:=h.names
 have h4:=h.words
 have h5:=h.size
 rw[PredP.namesE]at h3
 rw[PredP.wordsE]at h4
 simp at h5
 refine⟨hrest,fun n x hx=>?_,fun n x b hx=>h.sub n x b (by rw[PredP.occE,Bool.or_eq_true];exact .inr hx),by omega,fun x hx=>h3 x (List.mem_append_right _ hx),fun x hx=>h4 x (List.mem_append_right _ hx)⟩
 rcases h.seen n x hx with hx | hx
 ·exact .inl (hle n x hx)
 ·rw[PredP.occE,Bool.or_eq_true]at hx
  rcases hx with hx | hx
  ·exact .inl (hr n x hx)
  ·exact .inr hx
theorem Arg.inner {S:KS} {c:Words} {Bd:Str→Str→Bool} {vb:Nat} {g:Str→Bool} {e:PredP.Rows} {W:World} (hs:SetOf S.U W vb g) (hb:vb∉S.fa.map (·.2)) (hsnd:∀n x,PredP.occE x (Fof c x) S.l0.contains n (g x) e=true→Bd x n=true):Arg S c Bd vb (fun _=>g) e W :=
 ⟨fun _ _ _ hba=>hs.block (hba.block vb hs.lt hb),fun _ _ _ _ h=>h,fun _ _ n x h=>hsnd n x h⟩
end Go.Proofs.YtpcmemcanpgadaaGreatDoor
