import Derived.Test.YtpcmemcanpgadaaGreatDoorNoneG
import Derived.Test.YtpcmemcanpgadaaGreatDoorTellG
set_option maxHeartbeats 2000000
set_option maxRecDepth 100000
namespace Go.Proofs.YtpcmemcanpgadaaGreatDoor
open PredP (hide Str Rule bs)
section
open Go.RowKit Go.Maps
theorem undMap:Tryz.prog.underlying 89=some (.map 9 88):=by kernel_rfl
theorem zeroSet (w:World):(zeroValue 88).run Tryz.prog w=.ok (.map none) w:=by kernel_rfl
def blkElem:Value→Option (DataW (Option Nat)×List MemPlace)
 | .map o=>some (.held o,[])
 | _=>none
theorem blkElem_inv {v:Value} {o:Option Nat} {ps:List MemPlace} (h:blkElem v=some (.held o,ps)):v=.map o:=by
 cases v with
 | map q=>simp[blkElem]at h;rw[h.1]
 | _=>cases h
def look (f:List (Str×Nat)) (s:Str):Option Nat:=(f.find? fun p=>p.1==s).map (·.2)
def MapAt (w:World) (b:Nat) (f:List (Str×Nat)):Prop :=
 ∃D:DataW (Option Nat),w.ownsMap Tryz.prog 9 blkElem b f.length D∧(f.map (·.1)).Nodup∧(∀s,D.atKey (.string s) (.held none)=.held (look f s))∧Maps.size D=f.length∧∀s,Maps.has D (.string s)=(f.map (·.1)).contains s
theorem MapAt.lt {w:World} {b:Nat} {f:List (Str×Nat)} (h:MapAt w b f):b<w.heap.size:=by
 obtain⟨D,h,_⟩:=h
 exact h.lt
theorem MapAt.kept {w w':World} {b:Nat} {f:List (Str×Nat)} {row:Option Nat} (h:MapAt w b f) (hg:w.grownBy w' row) (hne:some b≠row):MapAt w' b f:=by
 obtain⟨D,h,r⟩:=h
 exact⟨D,h.kept hg hne,r⟩
theorem MapAt.block {w w':World} {b:Nat} {f:List (Str×Nat)} (h:MapAt w b f) (hb:w'.heap[b]?=w.heap[b]?):MapAt w' b f:=by
 obtain⟨D,⟨es,clock,h1,h2⟩,r⟩:=h
 exact⟨D,⟨es,clock,hb.trans h1,h2⟩,r⟩
theorem MapAt.below {w w':World} {b:Nat} {f:List (Str×Nat)} (h:MapAt w b f) (hb:Below w.heap.size w w'):MapAt w' b f:=h.block (hb.block b h.lt)
theorem MapAt.made (w:World):MapAt (w.alloc (.map #[] 0)) w.heap.size []:=⟨_,World.ownsMap_made w _ _ _,by simp,fun _=>rfl,rfl,fun _=>rfl⟩
theorem MapAt.read {w:World} {b:Nat} {f:List (Str×Nat)} (h:MapAt w b f) (a:ByteArray) (ha:a.size≤maxLen) :
  (Instr.lookup 89 (.map (some b)) (.string a) false).run Tryz.prog w=.ok (.map (look f (bs a))) w:=by
 obtain⟨D,hown,_,hat,_⟩:=h
 obtain⟨v,ps,hrun,hv⟩:=hown.lookup lawStr undMap (zeroSet w) (zd:=.held none) (zp:=[]) rfl (keyS a ha)
 rw[hat]at hv
 rw[hrun,blkElem_inv hv]
theorem MapAt.write {w:World} {b:Nat} {f:List (Str×Nat)} (h:MapAt w b f) (a:ByteArray) (ha:a.size≤maxLen) (hl:f.length<maxLen) (hnew:(f.map (·.1)).contains (bs a)=false) (c:Nat) :
  ∃w1,(Instr.mapUpdate 89 (.map (some b)) (.string a) (.map (some c))).run Tryz.prog w=.ok () w1∧MapAt w1 b ((bs a,c)::f)∧w.grownBy w1 (some b):=by
 obtain⟨D,hown,hn,hat,hz,hh⟩:=h
 obtain⟨w1,h1,h2,h3⟩:=hown.update lawStr undMap hl (keyS a ha) (val:=.map (some c)) (d:=.held (some c)) (ps:=[]) rfl
 have hT:=hown.tidy lawStr
 have hsz:Maps.size (D.put (.string (bs a)) (.held (some c)))=f.length+1:=by
  rw[size_put hT,hh,hnew,hz];simp
 refine⟨w1,h1,⟨_,?_,?_,?_,by simpa using hsz,?_⟩,h3⟩
 ·have:=owns_tight h2
  rw[hsz]at this
  simpa using this
 ·rw[List.map_cons,List.nodup_cons]
  exact⟨by simpa using hnew,hn⟩
 ·intro s
  by_cases hs:s=bs a
  ·subst hs
   rw[atKey_put_same hT.isMap (isKey _)]
   simp[look]
  ·rw[atKey_put_other (by simpa using hs),hat s]
   have:(bs a==s)=false:=by simpa using fun e=>hs e.symm
   simp[look,this]
 ·intro s
  by_cases hs:s=bs a
  ·subst hs
   rw[has_put_same hT.isMap (isKey _)];simp
  ·rw[has_put_other (by simpa using hs),hh s]
   simp[hs]
def SetOf (U:List Str) (w:World) (b:Nat) (g:Str→Bool):Prop:=∃l,SetAt w b l∧(∀x,x∈l→x∈U)∧∀x,l.contains x=g x
theorem SetOf.lt {U:List Str} {w:World} {b:Nat} {g:Str→Bool} (h:SetOf U w b g):b<w.heap.size:=by
 obtain⟨l,h,_⟩:=h
 exact h.lt
theorem SetOf.below {U:List Str} {w w':World} {b:Nat} {g:Str→Bool} (h:SetOf U w b g) (hb:Below w.heap.size w w'):SetOf U w' b g:=by
 obtain⟨l,h,r⟩:=h
 exact⟨l,h.below hb,r⟩
theorem SetOf.block {U:List Str} {w w':World} {b:Nat} {g:Str→Bool} (h:SetOf U w b g) (hb:w'.heap[b]?=w.heap[b]?):SetOf U w' b g:=by
 obtain⟨l,h,r⟩:=h
 exact⟨l,h.block hb,r⟩
theorem SetOf.made (U:List Str) (w:World):SetOf U (w.alloc (.map #[] 0)) w.heap.size (fun _=>false):=⟨[],SetAt.made w,fun x hx=>by simp at hx,fun x=>rfl⟩
theorem SetOf.cast {U:List Str} {w:World} {b:Nat} {g g':Str→Bool} (h:SetOf U w b g) (he:∀x,g x=g' x):SetOf U w b g':=by
 obtain⟨l,h,r,s⟩:=h
 exact⟨l,h,r,fun x=>(s x).trans (he x)⟩
def MaySet (U:List Str) (w:World) (v:Value) (g:Str→Bool):Prop:=(v=.map none∧∀x,g x=false)∨∃b,v=.map (some b)∧SetOf U w b g
theorem MaySet.below {U:List Str} {w w':World} {v:Value} {g:Str→Bool} (h:MaySet U w v g) (hb:Below w.heap.size w w'):MaySet U w' v g:=by
 rcases h with h | ⟨b,e,h⟩
 ·exact .inl h
 ·exact .inr ⟨b,e,h.below hb⟩
theorem MaySet.form {U:List Str} {w:World} {v:Value} {g:Str→Bool} (h:MaySet U w v g):∃o,v=.map o:=by
 rcases h with ⟨rfl,_⟩ | ⟨b,rfl,_⟩<;>exact⟨_,rfl⟩
theorem range_nil (w:World):(Instr.range 88 (.map none)).run Tryz.prog w=.ok (.pointer (some ⟨w.heap.size,0,none⟩)) (w.alloc (.mapIter none 0 #[] 0)):=by kernel_rfl
theorem run_getObj_iter {P:Program} {w:World} {r:Nat} {m:Option Nat} {x y:Nat} {s:Array Nat} (hb:w.heap[r]?=some (.mapIter m x s y)):(getObj r).run P w=.ok (.mapIter m x s y) w:=by simp[getObj,Sem.run,hb]
theorem next_nil (w:World) (ty:TypeId):(Instr.next (.pointer (some ⟨w.heap.size,0,none⟩)) false ty).run Tryz.prog (w.alloc (.mapIter none 0 #[] 0))=.ok (.tuple #[.bool false]) (w.alloc (.mapIter none 0 #[] 0)):=by
 have h:=run_getObj_iter (P:=Tryz.prog) (World.alloc_heap_new w (.mapIter none 0 #[] 0))
 simp[Instr.next,Sem.run_bind,h,Result.andThen]
theorem addAll_may (U:List Str) (hU:2 * U.length<maxLen) (w:World) (b:Nat) (v:Value) (g g':Str→Bool) (h:SetOf U w b g) (h':MaySet U w v g') (hne:v≠.map (some b)) :
  Calls Tryz.prog 77 #[.map (some b),v] w fun e w'=>e=.returned (.tuple #[])∧But b w w'∧SetOf U w' b (fun x=>g x||g' x):=by
 rcases h' with ⟨rfl,hz⟩ | ⟨b',rfl,l',hs',hu',hg'⟩
 ·have H:=hide h
  clear h hne
  go_enter Tryz.func77,Tryz.ntmps77
  have hr1:=range_nil w
  have hn1:=next_nil w
  go_wp2_with fail
  refine wp_loop_rounds 1 ?_
  rw[rounds_succ]
  go_wp2_with fail
  go_end0
  have hb:Below w.heap.size w (w.alloc (.mapIter none 0 #[] 0)):=(Below.refl _ _).alloc (Nat.le_refl _) _
  exact⟨rfl,But.of_below hb,(H.out.below hb).cast fun x=>by rw[hz];simp⟩
 ·obtain⟨l,hs,hu,hg⟩:=h
  have n1:l.length≤U.length:=by
   obtain⟨D,_,hn,_⟩:=hs
   exact PredP.nodup_le l U hn hu
  have n2:l'.length≤U.length:=by
   obtain⟨D,_,hn,_⟩:=hs'
   exact PredP.nodup_le l' U hn hu'
  refine(addAll_any w b b' l l' (fun e=>hne (by rw[e])) (by omega) hs hs').mono ?_
  rintro e w' ⟨rfl,hb,l2,h2,hc⟩
  refine⟨rfl,hb,l2,h2,fun x hx=>?_,fun x=>by rw[hc,hg,hg']⟩
  have:(l.contains x||l'.contains x)=true:=by rw[←hc];simpa using hx
  rw[Bool.or_eq_true]at this
  rcases this with h | h
  ·exact hu x (by simpa using h)
  ·exact hu' x (by simpa using h)
end
section
open Go.RowKit Go.Maps
structure Sts (U l0:List Str) (f:List (Str×Nat)) (F:Str→Str→Bool) (eb fb:Nat) (w:World):Prop where
 empty:SetAt w eb l0
 map:MapAt w fb f
 sets:∀p,p∈f→SetOf U w p.2 (fun x=>F x p.1)
theorem Sts.below {U l0:List Str} {f:List (Str×Nat)} {F:Str→Str→Bool} {eb fb:Nat} {w w':World} (h:Sts U l0 f F eb fb w) (hb:Below w.heap.size w w'):Sts U l0 f F eb fb w' :=
 ⟨h.empty.below hb,h.map.below hb,fun p hp=>(h.sets p hp).below hb⟩
def NamesIn (f:List (Str×Nat)) (ns:List (Str×Nat)):Prop:=∀x,x∈ns→(f.map (·.1)).contains x.1=true
def WordsIn (U ws:List Str):Prop:=∀s,s∈ws→s∈U
def TelPost (U:List Str) (w:World) (g:Str→Bool) (e:Ending) (w':World):Prop:=∃b,e=.returned (.map (some b))∧w.heap.size≤b∧SetOf U w' b g∧Below w.heap.size w w'
def FstPost (U:List Str) (f:List (Str×Nat)) (w:World) (g:Str→Bool) (e:Ending) (w':World):Prop:=∃b,e=.returned (.map (some b))∧(b∈f.map (·.2)∨w.heap.size≤b)∧SetOf U w' b g∧Below w.heap.size w w'
def TelE (U l0:List Str) (f:List (Str×Nat)) (F:Str→Str→Bool) (eb fb:Nat) (av:Value) (e:PredP.Rows):Prop :=
 ∀(ok:Nat→Prop) (w:World) (v:Value) (cs:List Value) (va:Value) (A:Str→Bool),Sts U l0 f F eb fb w→slAt ok w 2 v cs→rowsAt ok w e cs→NamesIn f (PredP.namesE e)→WordsIn U (PredP.wordsE e)→MaySet U w va A →
  Calls Tryz.prog 78 #[.agg #[.map (some eb),.map (some fb),av],v,va] w (TelPost U w (fun x=>PredP.telE x (F x) l0.contains (A x) e))
def slOff (ok:Nat→Prop) (w:World) (v:Value) (cs:List Value):Prop :=
 (v=.slice none 0 0∧cs=[])∨∃g o n cap,v=.slice (some ⟨g,o,none⟩) n cap∧n≤maxLen∧ok g∧g<w.heap.size∧cs.length=n * 1∧∀j u,cs[j]?=some u→w.cell? ⟨g,o+j,none⟩=some u
theorem slAt.off {ok:Nat→Prop} {w:World} {v:Value} {cs:List Value} (h:slAt ok w 1 v cs):slOff ok w v cs:=by
 rcases h with h | ⟨g,n,cap,h1,h2,h3,h4,h5,h6⟩
 ·exact .inl h
 ·exact .inr ⟨g,0,n,cap,h1,Nat.le_trans h2 (Nat.min_le_right _ _),h3,h4,h5,fun j u hu=>by rw[Nat.zero_add];exact h6 j u hu⟩
def TelR (U l0:List Str) (f:List (Str×Nat)) (F:Str→Str→Bool) (eb fb:Nat) (av:Value) (ps:PredP.Parts):Prop :=
 ∀(ok:Nat→Prop) (w:World) (v:Value) (us:List Value) (va:Value) (A:Str→Bool),Sts U l0 f F eb fb w→slOff ok w v us→partsAt ok w ps us→NamesIn f (PredP.namesR ps)→WordsIn U (PredP.wordsR ps)→MaySet U w va A →
  Calls Tryz.prog 114 #[.agg #[.map (some eb),.map (some fb),av],v,va] w (TelPost U w (fun x=>PredP.telR x (F x) l0.contains (A x) ps))
def FstP (U l0:List Str) (f:List (Str×Nat)) (F:Str→Str→Bool) (eb fb:Nat) (av:Value) (p:PredP.Part):Prop :=
 ∀(ok:Nat→Prop) (w:World) (v:Value),Sts U l0 f F eb fb w→partAt ok w p v→NamesIn f (PredP.namesP p)→WordsIn U (PredP.wordsP p) →
  Calls Tryz.prog 132 #[.agg #[.map (some eb),.map (some fb),av],v] w (FstPost U f w (fun x=>PredP.fstP x (F x) l0.contains p))
theorem telR_stop {x:Str} {f k:Str→Bool} {b:Bool} {p:PredP.Part} {ps:PredP.Parts} (h:PredP.derP false k p=false):PredP.telR x f k b (.cons p ps)=PredP.fstP x f k p:=by
 simp[PredP.telR,PredP.fstR,PredP.derR,h]
theorem telR_on {x:Str} {f k:Str→Bool} {b:Bool} {p:PredP.Part} {ps:PredP.Parts} (h:PredP.derP false k p=true):PredP.telR x f k b (.cons p ps)=(PredP.fstP x f k p||PredP.telR x f k b ps):=by
 simp[PredP.telR,PredP.fstR,PredP.derR,h,Bool.or_assoc]
theorem telR_nil {x:Str} {f k:Str→Bool} {b:Bool}:PredP.telR x f k b .nil=b:=by
 simp[PredP.telR,PredP.fstR,PredP.derR]
structure RowT (U l0:List Str) (f:List (Str×Nat)) (F:Str→Str→Bool) (A:Str→Bool) (eb fb:Nat) (av:Value) (w:World) (ok:Nat→Prop) (ps:PredP.Parts) (us:List Value) (ob j:Nat) (ps':PredP.Parts) (g:Str→Bool) (wr:World):Prop where
 parts:partsAt ok w ps' (us.drop j)
 tel:∀x,PredP.telR x (F x) l0.contains (A x) ps=(g x||PredP.telR x (F x) l0.contains (A x) ps')
 size:SizeOf.sizeOf ps'≤SizeOf.sizeOf ps
 names:NamesIn f (PredP.namesR ps')
 words:WordsIn U (PredP.wordsR ps')
 out:SetOf U wr ob g
 below:Below w.heap.size w wr
 c0:wr.cell? ⟨w.heap.size,0,none⟩=some (.map (some eb))
 c1:wr.cell? ⟨w.heap.size,1,none⟩=some (.map (some fb))
 c2:wr.cell? ⟨w.heap.size,2,none⟩=some av
theorem But.cellAt {r:Nat} {w w':World} (h:But r w w') {b o:Nat} {v:Value} (hv:w.cell? ⟨b,o,none⟩=some v) (hr:b≠r):w'.cell? ⟨b,o,none⟩=some v:=(h.cell (World.block_lt_of_cell? w _ hv) hr).trans hv
theorem But.belowOf {r N:Nat} {w0 w w':World} (h:But r w w') (hb:Below N w0 w) (hr:N≤r) (hN:N≤w.heap.size):Below N w0 w' :=
 ⟨h.os.trans hb.os,h.tape.trans hb.tape,h.output.trans hb.output,Nat.le_trans hb.size h.size,fun k hk=>(h.block k (by omega) (by omega)).trans (hb.block k hk)⟩
theorem RowT.low {U l0:List Str} {f:List (Str×Nat)} {F:Str→Str→Bool} {A:Str→Bool} {eb fb:Nat} {av:Value} {w:World} {ok:Nat→Prop} {ps:PredP.Parts} {us:List Value} {j:Nat} {ps':PredP.Parts} {g:Str→Bool} {wr w1 w2:World}
  (h:RowT U l0 f F A eb fb av w ok ps us (w.heap.size+1) j ps' g wr) (hb1:Below wr.heap.size wr w1) (hbt:But (w.heap.size+1) w1 w2):Below w.heap.size w w2 :=
 hbt.belowOf (Below.all h.below hb1) (by omega) (Below.all h.below hb1).size
theorem RowT.box {U l0:List Str} {f:List (Str×Nat)} {F:Str→Str→Bool} {A:Str→Bool} {eb fb:Nat} {av:Value} {w:World} {ok:Nat→Prop} {ps:PredP.Parts} {us:List Value} {j:Nat} {ps':PredP.Parts} {g:Str→Bool} {wr w1 w2:World}
  (h:RowT U l0 f F A eb fb av w ok ps us (w.heap.size+1) j ps' g wr) (hb1:Below wr.heap.size wr w1) (hbt:But (w.heap.size+1) w1 w2):w2.cell? ⟨w.heap.size,0,none⟩=some (.map (some eb))∧w2.cell? ⟨w.heap.size,1,none⟩=some (.map (some fb))∧w2.cell? ⟨w.heap.size,2,none⟩=some av :=
 ⟨hbt.cellAt ((hb1.cell (bltc h.c0)).trans h.c0) (by omega),hbt.cellAt ((hb1.cell (bltc h.c1)).trans h.c1) (by omega),hbt.cellAt ((hb1.cell (bltc h.c2)).trans h.c2) (by omega)⟩
theorem RowT.step {U l0:List Str} {f:List (Str×Nat)} {F:Str→Str→Bool} {A:Str→Bool} {eb fb:Nat} {av:Value} {w:World} {ok:Nat→Prop} {ps:PredP.Parts} {us:List Value} {j:Nat} {ps':PredP.Parts} {g:Str→Bool} {wr w1 w2 w3:World}
  (h:RowT U l0 f F A eb fb av w ok ps us (w.heap.size+1) j ps' g wr) (hb1:Below wr.heap.size wr w1) (hbt:But (w.heap.size+1) w1 w2) {p:PredP.Part} {ps2:PredP.Parts} (hp:ps'=.cons p ps2) (hd:PredP.derP false l0.contains p=true)
  (hs:SetOf U w2 (w.heap.size+1) (fun x=>g x||PredP.fstP x (F x) l0.contains p)) (hb3:Below w2.heap.size w2 w3) (hpr:partsAt ok w ps2 (us.drop (j+1))) (hsz:SizeOf.sizeOf ps2≤SizeOf.sizeOf ps) (hn:NamesIn f (PredP.namesR ps2)) (hw:WordsIn U (PredP.wordsR ps2)) :
  RowT U l0 f F A eb fb av w ok ps us (w.heap.size+1) (j+1) ps2 (fun x=>g x||PredP.fstP x (F x) l0.contains p) w3:=by
 obtain⟨d0,d1,d2⟩:=h.box hb1 hbt
 exact⟨hpr,fun x=>by rw[h.tel,hp,telR_on hd,Bool.or_assoc],hsz,hn,hw,hs.below hb3,Below.all (h.low hb1 hbt) hb3,(hb3.cell (bltc d0)).trans d0,(hb3.cell (bltc d1)).trans d1,(hb3.cell (bltc d2)).trans d2⟩
theorem tellsRow_any (U l0:List Str) (hU:2 * U.length<maxLen) (f:List (Str×Nat)) (F:Str→Str→Bool) (eb fb:Nat) (ao:Option Nat) (ps:PredP.Parts) (IH:Hid (∀p:PredP.Part,SizeOf.sizeOf p<SizeOf.sizeOf ps→FstP U l0 f F eb fb (.map ao) p)):TelR U l0 f F eb fb (.map ao) ps:=by
 intro ok w v us va A hst hsl hps hnm hwd hva
 obtain⟨vo,rfl⟩:=hva.form
 have hmm:=@run_makeMap Tryz.prog
 have hvne:Value.map vo≠.map (some (w.heap.size+1)):=by
  intro e
  rcases hva with ⟨h,_⟩ | ⟨b,h,hs⟩
  ·rw[h]at e;cases e
  ·rw[h]at e;cases e
   have:=hs.lt;omega
 have hB0:∀o,Below w.heap.size w ((w.alloc o).alloc (.map #[] 0)):=fun o=>((Below.refl _ w).alloc (Nat.le_refl _) o).alloc (by simp) _
 have hout0:∀o,SetOf U ((w.alloc o).alloc (.map #[] 0)) (w.heap.size+1) (fun _=>false):=fun o=>by
  have:=SetOf.made U (w.alloc o)
  simpa using this
 rcases hsl with ⟨rfl,rfl⟩ | ⟨g1,o1,n1,cap1,rfl,hn1,hok1,hg1,hus,hcell1⟩
 ·have he:ps=.nil:=partsAt.done (k:=0) (n:=0) (cs:=[]) hps (by omega) rfl
  subst he
  have HVA:=hide hva
  have HO:=hide hout0
  have HVN:=hide hvne
  clear IH hps hva hout0 hst hvne
  go_enter Tryz.func114,Tryz.ntmps114
  go_wp2_with fail
  refine wp_loop_rounds 1 ?_
  rw[rounds_succ]
  go_wp2_with (go_at_call 77;refine(addAll_may U hU _ (w.heap.size+1) (.map vo) _ _ (HO.out _) (HVA.out.below (hB0 _)) HVN.out).mono ?_;rintro e w2 ⟨rfl,hbt2,hs2⟩)
  go_ret
  exact⟨w.heap.size+1,rfl,by omega,hs2.cast fun x=>by rw[telR_nil];simp,hbt2.belowOf (hB0 _) (by omega) (by simp;omega)⟩
 ·have HC1:=hide hcell1
  have HST:=hide hst
  have HVA:=hide hva
  have HVN:=hide hvne
  have hrel0:∀t,RowT U l0 f F A eb fb (.map ao) w ok ps us (w.heap.size+1) 0 ps (fun _=>false) ((w.alloc (.cells #[.map (some eb),.map (some fb),.map ao] t)).alloc (.map #[] 0)):=fun t =>
   ⟨by simpa using hps,fun x=>by simp,Nat.le_refl _,hnm,hwd,hout0 _,hB0 _,past_fresh rfl,past_fresh rfl,past_fresh rfl⟩
  have HREL:=hide hrel0
  have hfb:∀b,b∈f.map (·.2)→b<w.heap.size:=fun b hb=>by
   obtain⟨p,hp,rfl⟩:=List.mem_map.1 hb
   exact(hst.sets p hp).lt
  have HFB:=hide hfb
  clear hcell1 hst hva hvne hrel0 hps hnm hwd hfb hout0
  unfold maxLen at hn1
  go_enter Tryz.func114,Tryz.ntmps114
  go_wp2_with fail
  go_loopw [13] (fun t wr=>∃j:Nat,∃ps' g,j≤n1∧t=.int .i64 j∧RowT U l0 f F A eb fb (.map ao) w ok ps us (w.heap.size+1) j ps' g wr) (fun t _=>n1 - (intOf t).toNat)
  case atStart=>exact⟨0,ps,_,by omega,rfl,HREL.out _⟩
  case round =>
   clear HREL
   obtain⟨j,ps',g,hj,rfl,hP⟩:=hrel
   have b0:=hP.c0
   have b1:=hP.c1
   have b2:=hP.c2
   by_cases hlt1:j<n1
   ·obtain⟨p,ps2,v,hp,hv,hpv,hprest⟩:=hP.parts.at hlt1 hus
    have kv:=(hP.below.cell (p:=⟨g1,o1+j,none⟩) hg1).trans (HC1.out _ _ hv)
    have hszp:SizeOf.sizeOf p<SizeOf.sizeOf ps:=by have:=hP.size;rw[hp]at this;simp at this;omega
    have hszs:SizeOf.sizeOf ps2≤SizeOf.sizeOf ps:=by have:=hP.size;rw[hp]at this;simp at this;omega
    have hnm2:NamesIn f (PredP.namesP p)∧NamesIn f (PredP.namesR ps2):=by
     have:=hP.names;rw[hp,PredP.namesR]at this
     exact⟨fun x hx=>this x (List.mem_append_left _ hx),fun x hx=>this x (List.mem_append_right _ hx)⟩
    have hwd2:WordsIn U (PredP.wordsP p)∧WordsIn U (PredP.wordsR ps2):=by
     have:=hP.words;rw[hp,PredP.wordsR]at this
     exact⟨fun x hx=>this x (List.mem_append_left _ hx),fun x hx=>this x (List.mem_append_right _ hx)⟩
    have HP:=hide hp
    have HPV:=hide hpv
    obtain⟨T,bp,rfl⟩:=hpv.iface
    have HCall:=hide (IH.out p hszp ok _ _ (HST.out.below hP.below) (hpv.below hP.below) hnm2.1 hwd2.1)
    have HNul:Hid (∀w',Below w.heap.size w w'→Calls Tryz.prog 74 #[.iface T (.pointer (some ⟨bp,0,none⟩)),.map (some eb)] w' fun e w''=>e=.returned (.bool (PredP.derP false l0.contains p))∧Below w'.heap.size w' w'') :=
     hide (fun w' hb=>(nul_all (SizeOf.sizeOf p)).1 p (Nat.le_refl _) ok w' _ eb l0 (hpv.below hb) (HST.out.empty.below hb))
    clear hv hp hpv
    have hne:∀fbk,(fbk∈f.map (·.2)∨wr.heap.size≤fbk)→Value.map (some fbk)≠.map (some (w.heap.size+1)):=fun fbk h e=>by
     have e':fbk=w.heap.size+1:=by cases e;rfl
     rcases h with h | h
     ·have:=HFB.out _ h;omega
     ·have:=hP.out.lt;omega
    have HNE:=hide hne
    clear hne
    cases hd:PredP.derP false l0.contains p
    ·rw[hd]at HNul
     go_wp2_with (first
      | (go_at_call 132;refine HCall.out.mono ?_;rintro e w1 ⟨fbk,rfl,hwh,hs1,hb1⟩)
      | (go_at_call 77;refine(addAll_may U hU _ (w.heap.size+1) (.map (some fbk)) _ _ (hP.out.below hb1) (.inr ⟨_,rfl,hs1⟩) (HNE.out _ hwh)).mono ?_;rintro e w2 ⟨rfl,hbt2,hs2⟩;have d0:=(hP.box hb1 hbt2).1)
      | (go_at_call 74;refine(HNul.out _ (hP.low hb1 hbt2)).mono ?_;rintro e w3 ⟨rfl,hb3⟩))
     go_ret
     exact⟨w.heap.size+1,rfl,by omega,(hs2.below hb3).cast fun x=>by rw[hP.tel,HP.out,telR_stop hd],Below.all (hP.low hb1 hbt2) hb3⟩
    ·rw[hd]at HNul
     go_wp2_with (first
      | (go_at_call 132;refine HCall.out.mono ?_;rintro e w1 ⟨fbk,rfl,hwh,hs1,hb1⟩)
      | (go_at_call 77;refine(addAll_may U hU _ (w.heap.size+1) (.map (some fbk)) _ _ (hP.out.below hb1) (.inr ⟨_,rfl,hs1⟩) (HNE.out _ hwh)).mono ?_;rintro e w2 ⟨rfl,hbt2,hs2⟩;have d0:=(hP.box hb1 hbt2).1)
      | (go_at_call 74;refine(HNul.out _ (hP.low hb1 hbt2)).mono ?_;rintro e w3 ⟨rfl,hb3⟩))
     exact⟨⟨j+1,ps2,_,by omega,by go_num,hP.step hb1 hbt2 HP.out hd hs2 hb3 hprest hszs hnm2.2 hwd2.2⟩,by simp[intOf];omega⟩
   ·have hp0:ps'=.nil:=hP.parts.done hlt1 hus
    have HP0:=hide hp0
    clear hp0
    go_wp2_with (go_at_call 77;refine(addAll_may U hU _ (w.heap.size+1) (.map vo) _ _ hP.out (HVA.out.below hP.below) HVN.out).mono ?_;rintro e w2 ⟨rfl,hbt2,hs2⟩)
    go_ret
    exact⟨w.heap.size+1,rfl,by omega,hs2.cast fun x=>by rw[hP.tel,HP0.out,telR_nil],hP.low (Below.refl _ _) hbt2⟩
end
section
open Go.RowKit Go.Maps
structure RowsT (U l0:List Str) (f:List (Str×Nat)) (F:Str→Str→Bool) (A:Str→Bool) (eb fb:Nat) (av:Value) (w:World) (ok:Nat→Prop) (es:PredP.Rows) (cs:List Value) (ob k:Nat) (es':PredP.Rows) (g:Str→Bool) (wr:World):Prop where
 rows:rowsAt ok w es' (cs.drop (k * 2))
 tel:∀x,PredP.telE x (F x) l0.contains (A x) es=(g x||PredP.telE x (F x) l0.contains (A x) es')
 size:SizeOf.sizeOf es'≤SizeOf.sizeOf es
 names:NamesIn f (PredP.namesE es')
 words:WordsIn U (PredP.wordsE es')
 out:SetOf U wr ob g
 below:Below w.heap.size w wr
 c0:wr.cell? ⟨w.heap.size,0,none⟩=some (.map (some eb))
 c1:wr.cell? ⟨w.heap.size,1,none⟩=some (.map (some fb))
 c2:wr.cell? ⟨w.heap.size,2,none⟩=some av
theorem RowsT.low {U l0:List Str} {f:List (Str×Nat)} {F:Str→Str→Bool} {A:Str→Bool} {eb fb:Nat} {av:Value} {w:World} {ok:Nat→Prop} {es:PredP.Rows} {cs:List Value} {k:Nat} {es':PredP.Rows} {g:Str→Bool} {wr w1 w2:World}
  (h:RowsT U l0 f F A eb fb av w ok es cs (w.heap.size+1) k es' g wr) (hb1:Below wr.heap.size wr w1) (hbt:But (w.heap.size+1) w1 w2):Below w.heap.size w w2 :=
 hbt.belowOf (Below.all h.below hb1) (by omega) (Below.all h.below hb1).size
theorem RowsT.step {U l0:List Str} {f:List (Str×Nat)} {F:Str→Str→Bool} {A:Str→Bool} {eb fb:Nat} {av:Value} {w:World} {ok:Nat→Prop} {es:PredP.Rows} {cs:List Value} {k:Nat} {es':PredP.Rows} {g:Str→Bool} {wr w1 w2:World}
  (h:RowsT U l0 f F A eb fb av w ok es cs (w.heap.size+1) k es' g wr) (hb1:Below wr.heap.size wr w1) (hbt:But (w.heap.size+1) w1 w2) {bar:Nat} {r:PredP.Parts} {es2:PredP.Rows} (hp:es'=.cons bar r es2)
  (hs:SetOf U w2 (w.heap.size+1) (fun x=>g x||PredP.telR x (F x) l0.contains (A x) r)) (hpr:rowsAt ok w es2 (cs.drop ((k+1) * 2))) :
  RowsT U l0 f F A eb fb av w ok es cs (w.heap.size+1) (k+1) es2 (fun x=>g x||PredP.telR x (F x) l0.contains (A x) r) w2:=by
 have hn:=h.names
 have hw:=h.words
 have hz:=h.size
 rw[hp]at hn hw hz
 rw[PredP.namesE]at hn
 rw[PredP.wordsE]at hw
 simp at hz
 exact⟨hpr,fun x=>by rw[h.tel,hp,PredP.telE,Bool.or_assoc],by omega,fun x hx=>hn x (List.mem_append_right _ hx),fun x hx=>hw x (List.mem_append_right _ hx),hs,h.low hb1 hbt,
  hbt.cellAt ((hb1.cell (bltc h.c0)).trans h.c0) (by omega),hbt.cellAt ((hb1.cell (bltc h.c1)).trans h.c1) (by omega),hbt.cellAt ((hb1.cell (bltc h.c2)).trans h.c2) (by omega)⟩
theorem tells_any (U l0:List Str) (hU:2 * U.length<maxLen) (f:List (Str×Nat)) (F:Str→Str→Bool) (eb fb:Nat) (ao:Option Nat) (es:PredP.Rows) (IH:Hid (∀r:PredP.Parts,SizeOf.sizeOf r<SizeOf.sizeOf es→TelR U l0 f F eb fb (.map ao) r)):TelE U l0 f F eb fb (.map ao) es:=by
 intro ok w v cs va A hst hsl hps hnm hwd hva
 obtain⟨vo,rfl⟩:=hva.form
 have hmm:=@run_makeMap Tryz.prog
 have hB0:∀o,Below w.heap.size w ((w.alloc o).alloc (.map #[] 0)):=fun o=>((Below.refl _ w).alloc (Nat.le_refl _) o).alloc (by simp) _
 have hout0:∀o,SetOf U ((w.alloc o).alloc (.map #[] 0)) (w.heap.size+1) (fun _=>false):=fun o=>by
  have:=SetOf.made U (w.alloc o)
  simpa using this
 rcases hsl with ⟨rfl,rfl⟩ | ⟨g1,n1,cap1,rfl,hn1,hok1,hg1,hus,hcell1⟩
 ·have he:es=.nil:=rowsAt.done (k:=0) (n:=0) (cs:=[]) hps (by omega) rfl
  subst he
  have HO:=hide hout0
  clear IH hps hva hout0 hst
  go_enter Tryz.func78,Tryz.ntmps78
  go_wp2_with fail
  refine wp_loop_rounds 1 ?_
  rw[rounds_succ]
  go_wp2_with fail
  go_ret
  exact⟨w.heap.size+1,rfl,by omega,(HO.out _).cast fun x=>by rw[PredP.telE],hB0 _⟩
 ·have HC1:=hide hcell1
  have HST:=hide hst
  have HVA:=hide hva
  have hrel0:∀t,RowsT U l0 f F A eb fb (.map ao) w ok es cs (w.heap.size+1) 0 es (fun _=>false) ((w.alloc (.cells #[.map (some eb),.map (some fb),.map ao] t)).alloc (.map #[] 0)):=fun t =>
   ⟨by simpa using hps,fun x=>by simp,Nat.le_refl _,hnm,hwd,hout0 _,hB0 _,past_fresh rfl,past_fresh rfl,past_fresh rfl⟩
  have HREL:=hide hrel0
  clear hcell1 hst hva hrel0 hps hnm hwd hout0
  unfold maxLen at hn1
  go_enter Tryz.func78,Tryz.ntmps78
  go_wp2_with fail
  go_loopw [13] (fun t wr=>∃k:Nat,∃es' g,k≤n1∧t=.int .i64 k∧RowsT U l0 f F A eb fb (.map ao) w ok es cs (w.heap.size+1) k es' g wr) (fun t _=>n1 - (intOf t).toNat)
  case atStart=>exact⟨0,es,_,by omega,rfl,HREL.out _⟩
  case round =>
   clear HREL
   obtain⟨k,es',g,hk,rfl,hP⟩:=hrel
   by_cases hlt:k<n1
   ·obtain⟨bar,r,e2,u,us,he,hc0,hc1,hu,hps,hrest⟩:=hP.rows.at hlt hus
    have k0:=sl_cell hg1 HC1.out hP.below hc0
    have k1:=sl_cell hg1 HC1.out hP.below hc1
    have hsz:SizeOf.sizeOf r<SizeOf.sizeOf es:=by have:=hP.size;rw[he]at this;simp at this;omega
    have hnm:NamesIn f (PredP.namesR r):=by
     have:=hP.names;rw[he,PredP.namesE]at this
     exact fun x hx=>this x (List.mem_append_left _ hx)
    have hwd:WordsIn U (PredP.wordsR r):=by
     have:=hP.words;rw[he,PredP.wordsE]at this
     exact fun x hx=>this x (List.mem_append_left _ hx)
    have HE:=hide he
    have hb0:∀o,Below wr.heap.size wr (wr.alloc o):=fun o=>(Below.refl _ _).alloc (Nat.le_refl _) o
    have b0:=fun o=>((hb0 o).cell (bltc hP.c0)).trans hP.c0
    have b1:=fun o=>((hb0 o).cell (bltc hP.c1)).trans hP.c1
    have b2:=fun o=>((hb0 o).cell (bltc hP.c2)).trans hP.c2
    have hC:∀o,Calls Tryz.prog 114 #[.agg #[.map (some eb),.map (some fb),.map ao],u,.map vo] (wr.alloc o) (TelPost U (wr.alloc o) (fun x=>PredP.telR x (F x) l0.contains (A x) r)):=fun o=>by
     have hB:=Below.all hP.below (hb0 o)
     exact IH.out r hsz ok _ _ us _ A (HST.out.below hB) (hu.below hB).off (hps.below hB) hnm hwd (HVA.out.below hB)
    have HCall:=hide hC
    have hlo:=hP.out.lt
    obtain⟨ua,un,uc,rfl⟩:=hu.form
    clear hc0 hc1 he hu hps hC
    go_wp2_with (first
     | (go_at_call 114;refine(HCall.out _).mono ?_;rintro e w1 ⟨fbk,rfl,hwh,hs1,hb1⟩;have hbz:=Below.all (hb0 _) hb1)
     | (go_at_call 77;refine(addAll_may U hU _ (w.heap.size+1) (.map (some fbk)) _ _ (hP.out.below hbz) (.inr ⟨_,rfl,hs1⟩) (fun e=>by cases e;simp at hwh;omega)).mono ?_;rintro e w2 ⟨rfl,hbt2,hs2⟩))
    exact⟨⟨k+1,e2,_,by omega,by go_num,hP.step hbz hbt2 HE.out hs2 hrest⟩,by simp[intOf];omega⟩
   ·have he0:es'=.nil:=hP.rows.done hlt hus
    have HE0:=hide he0
    clear he0
    go_wp2_with fail
    go_ret
    exact⟨w.heap.size+1,rfl,by omega,hP.out.cast fun x=>by rw[hP.tel,HE0.out,PredP.telE];simp,hP.below⟩
end
section
open Go.RowKit Go.Maps
theorem look_in {f:List (Str×Nat)} {s:Str} (h:(f.map (·.1)).contains s=true):∃b,look f s=some b∧(s,b)∈f:=by
 induction f with
 | nil=>simp at h
 | cons p f ih =>
  by_cases hp:p.1=s
  ·subst hp
   exact⟨p.2,by simp[look],List.mem_cons_self⟩
  ·have h':(f.map (·.1)).contains s=true:=by
    rw[List.map_cons,List.contains_cons,Bool.or_eq_true]at h
    rcases h with h | h
    ·rw[beq_iff_eq]at h;exact absurd h.symm hp
    ·exact h
   obtain⟨b,h1,h2⟩:=ih h'
   have hb:(p.1==s)=false:=by simpa using hp
   exact⟨b,by unfold look at h1 ⊢;rw[List.find?_cons,hb];exact h1,List.mem_cons_of_mem _ h2⟩
theorem telE_false (x:Str) (f k:Str→Bool):∀e:PredP.Rows,PredP.telE x f k false e=PredP.fstE x f k e
 | .nil=>by rw[PredP.telE,PredP.fstE]
 | .cons _ r e=>by rw[PredP.telE,PredP.fstE,telE_false x f k e];simp[PredP.telR]
theorem firstOf_any (U l0:List Str) (f:List (Str×Nat)) (F:Str→Str→Bool) (eb fb:Nat) (ao:Option Nat) (p:PredP.Part) (IH:Hid (∀e:PredP.Rows,SizeOf.sizeOf e<SizeOf.sizeOf p→TelE U l0 f F eb fb (.map ao) e)):FstP U l0 f F eb fb (.map ao) p:=by
 intro ok w v hst hp hnm hwd
 have hmm:=@run_makeMap Tryz.prog
 have hB0:∀o,Below w.heap.size w (w.alloc o):=fun o=>(Below.refl _ w).alloc (Nat.le_refl _) o
 cases p with
 | word s =>
  unfold partAt at hp
  obtain⟨b,a,rfl,hok,hb,c0,hs,ha,_⟩:=hp
  have hU:bs a∈U:=by rw[hs];exact hwd s (by rw[PredP.wordsP];simp)
  have HS:=hide hs
  obtain⟨w1,hrun1,hset1,hgr1⟩:=set_one (w.alloc (.cells #[.map (some eb),.map (some fb),.map ao] 91)) a (le_max ha)
  have c01:((w.alloc (.cells #[.map (some eb),.map (some fb),.map ao] 91)).alloc (.map #[] 0)).cell? ⟨b,0,none⟩=some (.string a):=((((Below.refl _ w).alloc (Nat.le_refl _) _).alloc (by simp) _).cell (p:=⟨b,0,none⟩) hb).trans c0
  have asword:=as_word_word
  have hsz:(w.alloc (.cells #[.map (some eb),.map (some fb),.map ao] 91)).heap.size=w.heap.size+1:=by simp
  rw[hsz]at hrun1 hset1 hgr1
  clear IH hst hs hnm hwd hsz
  go_enter Tryz.func132,Tryz.ntmps132
  go_wp2_with fail
  go_ret
  have hb1:Below w.heap.size w w1:=(((Below.refl _ w).alloc (Nat.le_refl _) _).alloc (by simp) _).grown hgr1 (by simp;omega) (fun j e=>by cases e;omega)
  refine⟨w.heap.size+1,rfl,.inr (by omega),⟨_,hset1,fun x hx=>by simp at hx;rw[hx];exact hU,fun x=>?_⟩,hb1⟩
  show _=PredP.fstP x (F x) l0.contains (.word s)
  rw[show PredP.fstP x (F x) l0.contains (.word s)=(s==x) by unfold PredP.fstP;rfl,←HS.out,Bool.eq_iff_iff]
  simp only[List.contains_cons,List.contains_nil,Bool.or_false,beq_iff_eq]
  exact⟨Eq.symm,Eq.symm⟩
 | name s q =>
  unfold partAt at hp
  obtain⟨b,a,rfl,hok,hb,c0,hs,ha,c1,_⟩:=hp
  obtain⟨tb,hl,hin⟩:=look_in (hnm (s,q) (by rw[PredP.namesP];simp))
  have hread:∀W,Below w.heap.size w W→(Instr.lookup 89 (.map (some fb)) (.string a) false).run Tryz.prog W=.ok (.map (some tb)) W:=fun W hW=>by
   rw[(hst.map.below hW).read a (le_max ha),hs,hl]
  have HF:=hide (hst.sets _ hin)
  have HIN:=hide hin
  have HRead:=hide hread
  have asword:=as_name_word
  have asname:=as_name_name
  clear IH hst hs hnm hwd hin hl hread
  go_enter Tryz.func132,Tryz.ntmps132
  go_wp2_with fail
  have hBW:Below w.heap.size w (w.alloc (.cells #[.map (some eb),.map (some fb),.map ao] 91)):=hB0 _
  have x1:(w.alloc (.cells #[.map (some eb),.map (some fb),.map ao] 91)).cell? ⟨w.heap.size,1,none⟩=some (.map (some fb)):=cell_fresh rfl
  generalize w.alloc (.cells #[.map (some eb),.map (some fb),.map ao] 91)=W at hBW x1 ⊢
  have c01:=(hBW.cell (p:=⟨b,0,none⟩) hb).trans c0
  have hBd:Below w.heap.size w { W with drawn:=W.drawn+1 }:=⟨hBW.os,hBW.tape,hBW.output,hBW.size,hBW.block⟩
  have hrd:=HRead.out _ hBd
  go_still_tail 6,mixed
  generalize { W with drawn:=W.drawn+1 }=Wd at hBd hrd ⊢
  go_wp2_with fail
  go_ret
  refine⟨tb,rfl,.inl (List.mem_map.2 ⟨_,HIN.out,rfl⟩),(HF.out.below hBd).cast fun x=>?_,hBd⟩
  show _=PredP.fstP x (F x) l0.contains (.name s q)
  unfold PredP.fstP;rfl
 | br k q e =>
  unfold partAt at hp
  obtain⟨b,u,cs,rfl,hok,hb,c0,c1,hsl,hrows⟩:=hp
  have hC:∀W,Below w.heap.size w W→Calls Tryz.prog 78 #[.agg #[.map (some eb),.map (some fb),.map ao],u,.map none] W (TelPost U W (fun x=>PredP.telE x (F x) l0.contains false e)):=fun W hW =>
   IH.out e (by simp;omega) ok W u cs (.map none) (fun _=>false) (hst.below hW) (hsl.below hW) (hrows.below hW) (fun x hx=>hnm x (by rw[PredP.namesP];exact hx)) (fun x hx=>hwd x (by rw[PredP.wordsP];exact hx)) (.inl ⟨rfl,fun _=>rfl⟩)
  have HC:=hide hC
  obtain⟨ua,un,uc,rfl⟩:=hsl.form
  clear IH hst hsl hrows hnm hwd hC
  cases k with
  | opt =>
   simp only[tyOf]
   have asword:=as_option_word
   have asname:=as_option_name
   go_enter Tryz.func132,Tryz.ntmps132
   go_wp2_with fail
   have hBW:Below w.heap.size w (w.alloc (.cells #[.map (some eb),.map (some fb),.map ao] 91)):=hB0 _
   have x0:(w.alloc (.cells #[.map (some eb),.map (some fb),.map ao] 91)).cell? ⟨w.heap.size,0,none⟩=some (.map (some eb)):=cell_fresh rfl
   have x1:(w.alloc (.cells #[.map (some eb),.map (some fb),.map ao] 91)).cell? ⟨w.heap.size,1,none⟩=some (.map (some fb)):=cell_fresh rfl
   have x2:(w.alloc (.cells #[.map (some eb),.map (some fb),.map ao] 91)).cell? ⟨w.heap.size,2,none⟩=some (.map ao):=cell_fresh rfl
   generalize w.alloc (.cells #[.map (some eb),.map (some fb),.map ao] 91)=W at hBW x0 x1 x2 ⊢
   have d0:=(hBW.cell (p:=⟨b,0,none⟩) hb).trans c0
   have d1:=(hBW.cell (p:=⟨b,1,none⟩) hb).trans c1
   have e0:W.drew.cell? ⟨b,0,none⟩=some (.int .i64 (q:Int)):=d0
   have e1:W.drew.cell? ⟨b,1,none⟩=some (.slice ua un uc):=d1
   have hlW:=World.block_lt_of_cell? W _ x0
   go_region_law (first
    | (go_simp;rw[m_opt b _ _ (by kernel_rfl) q ua un uc e0 e1];go_simp;go_at_call 202;refine(bracket_within _ q ua un uc).mono ?_;rintro e1 w1 ⟨rfl,hb1⟩;have y0:=(hb1.cell (p:=⟨w.heap.size,0,none⟩) hlW).trans x0;have y1:=(hb1.cell (p:=⟨w.heap.size,1,none⟩) hlW).trans x1;have y2:=(hb1.cell (p:=⟨w.heap.size,2,none⟩) hlW).trans x2;have hbz:Below w.heap.size w w1:=hBW.trans (((Below.refl _ W).drew.trans hb1).mono hBW.size))
    | (go_simp;go_at_call 78;refine(HC.out _ hbz).mono ?_;rintro e2 w2 ⟨fbk,rfl,hwh,hs2,hb2⟩))
   all_goals
    go_wp2_with fail
    go_ret
    exact⟨fbk,rfl,.inr (Nat.le_trans hbz.size hwh),hs2.cast fun x=>by rw[telE_false];exact(PredP.fstP.eq_3 ..).symm,Below.all hbz hb2⟩
  | loop =>
   simp only[tyOf]
   have asword:=as_loop_word
   have asname:=as_loop_name
   go_enter Tryz.func132,Tryz.ntmps132
   go_wp2_with fail
   have hBW:Below w.heap.size w (w.alloc (.cells #[.map (some eb),.map (some fb),.map ao] 91)):=hB0 _
   have x0:(w.alloc (.cells #[.map (some eb),.map (some fb),.map ao] 91)).cell? ⟨w.heap.size,0,none⟩=some (.map (some eb)):=cell_fresh rfl
   have x1:(w.alloc (.cells #[.map (some eb),.map (some fb),.map ao] 91)).cell? ⟨w.heap.size,1,none⟩=some (.map (some fb)):=cell_fresh rfl
   have x2:(w.alloc (.cells #[.map (some eb),.map (some fb),.map ao] 91)).cell? ⟨w.heap.size,2,none⟩=some (.map ao):=cell_fresh rfl
   generalize w.alloc (.cells #[.map (some eb),.map (some fb),.map ao] 91)=W at hBW x0 x1 x2 ⊢
   have d0:=(hBW.cell (p:=⟨b,0,none⟩) hb).trans c0
   have d1:=(hBW.cell (p:=⟨b,1,none⟩) hb).trans c1
   have e0:W.drew.cell? ⟨b,0,none⟩=some (.int .i64 (q:Int)):=d0
   have e1:W.drew.cell? ⟨b,1,none⟩=some (.slice ua un uc):=d1
   have hlW:=World.block_lt_of_cell? W _ x0
   go_region_law (first
    | (go_simp;rw[m_loop b _ _ (by kernel_rfl) q ua un uc e0 e1];go_simp;go_at_call 202;refine(bracket_within _ q ua un uc).mono ?_;rintro e1 w1 ⟨rfl,hb1⟩;have y0:=(hb1.cell (p:=⟨w.heap.size,0,none⟩) hlW).trans x0;have y1:=(hb1.cell (p:=⟨w.heap.size,1,none⟩) hlW).trans x1;have y2:=(hb1.cell (p:=⟨w.heap.size,2,none⟩) hlW).trans x2;have hbz:Below w.heap.size w w1:=hBW.trans (((Below.refl _ W).drew.trans hb1).mono hBW.size))
    | (go_simp;go_at_call 78;refine(HC.out _ hbz).mono ?_;rintro e2 w2 ⟨fbk,rfl,hwh,hs2,hb2⟩))
   all_goals
    go_wp2_with fail
    go_ret
    exact⟨fbk,rfl,.inr (Nat.le_trans hbz.size hwh),hs2.cast fun x=>by rw[telE_false];exact(PredP.fstP.eq_3 ..).symm,Below.all hbz hb2⟩
  | grp =>
   simp only[tyOf]
   have asword:=as_group_word
   have asname:=as_group_name
   go_enter Tryz.func132,Tryz.ntmps132
   go_wp2_with fail
   have hBW:Below w.heap.size w (w.alloc (.cells #[.map (some eb),.map (some fb),.map ao] 91)):=hB0 _
   have x0:(w.alloc (.cells #[.map (some eb),.map (some fb),.map ao] 91)).cell? ⟨w.heap.size,0,none⟩=some (.map (some eb)):=cell_fresh rfl
   have x1:(w.alloc (.cells #[.map (some eb),.map (some fb),.map ao] 91)).cell? ⟨w.heap.size,1,none⟩=some (.map (some fb)):=cell_fresh rfl
   have x2:(w.alloc (.cells #[.map (some eb),.map (some fb),.map ao] 91)).cell? ⟨w.heap.size,2,none⟩=some (.map ao):=cell_fresh rfl
   generalize w.alloc (.cells #[.map (some eb),.map (some fb),.map ao] 91)=W at hBW x0 x1 x2 ⊢
   have d0:=(hBW.cell (p:=⟨b,0,none⟩) hb).trans c0
   have d1:=(hBW.cell (p:=⟨b,1,none⟩) hb).trans c1
   have e0:W.drew.cell? ⟨b,0,none⟩=some (.int .i64 (q:Int)):=d0
   have e1:W.drew.cell? ⟨b,1,none⟩=some (.slice ua un uc):=d1
   have hlW:=World.block_lt_of_cell? W _ x0
   go_region_law (first
    | (go_simp;rw[m_grp b _ _ (by kernel_rfl) q ua un uc e0 e1];go_simp;go_at_call 202;refine(bracket_within _ q ua un uc).mono ?_;rintro e1 w1 ⟨rfl,hb1⟩;have y0:=(hb1.cell (p:=⟨w.heap.size,0,none⟩) hlW).trans x0;have y1:=(hb1.cell (p:=⟨w.heap.size,1,none⟩) hlW).trans x1;have y2:=(hb1.cell (p:=⟨w.heap.size,2,none⟩) hlW).trans x2;have hbz:Below w.heap.size w w1:=hBW.trans (((Below.refl _ W).drew.trans hb1).mono hBW.size))
    | (go_simp;go_at_call 78;refine(HC.out _ hbz).mono ?_;rintro e2 w2 ⟨fbk,rfl,hwh,hs2,hb2⟩))
   all_goals
    go_wp2_with fail
    go_ret
    exact⟨fbk,rfl,.inr (Nat.le_trans hbz.size hwh),hs2.cast fun x=>by rw[telE_false];exact(PredP.fstP.eq_3 ..).symm,Below.all hbz hb2⟩
theorem tel_all (U l0:List Str) (hU:2 * U.length<maxLen) (f:List (Str×Nat)) (F:Str→Str→Bool) (eb fb:Nat) (ao:Option Nat) (n:Nat) :
  (∀p:PredP.Part,SizeOf.sizeOf p≤n→FstP U l0 f F eb fb (.map ao) p)∧(∀r:PredP.Parts,SizeOf.sizeOf r≤n→TelR U l0 f F eb fb (.map ao) r)∧(∀e:PredP.Rows,SizeOf.sizeOf e≤n→TelE U l0 f F eb fb (.map ao) e):=by
 induction n using Nat.strongRecOn with
 | _ n ih =>
  have hp:∀p:PredP.Part,SizeOf.sizeOf p≤n→FstP U l0 f F eb fb (.map ao) p:=fun p hp=>firstOf_any U l0 f F eb fb ao p fun e he=>(ih (SizeOf.sizeOf e) (by omega)).2.2 e (Nat.le_refl _)
  have hr:∀r:PredP.Parts,SizeOf.sizeOf r≤n→TelR U l0 f F eb fb (.map ao) r:=fun r hr=>tellsRow_any U l0 hU f F eb fb ao r fun p hp'=>hp p (by omega)
  exact⟨hp,hr,fun e he=>tells_any U l0 hU f F eb fb ao e fun r hr'=>hr r (by omega)⟩
end
section
open Go.RowKit Go.Maps
def partSum (c:Str→List Str) (left:Lit→Bool) (f:List (Str×Nat)):Nat:=(f.map fun p=>if left (.string p.1) then 0 else(c p.1).length).sum
def total (c:Str→List Str) (f:List (Str×Nat)):Nat:=(f.map fun p=>(c p.1).length).sum
theorem partSum_none (c:Str→List Str) (left:Lit→Bool):∀(f:List (Str×Nat)),(∀p,p∈f→left (.string p.1)=true)→partSum c left f=0
 | [],_=>rfl
 | p::f,h=>by
  have h1:=partSum_none c left f (fun q hq=>h q (List.mem_cons_of_mem _ hq))
  unfold partSum at *
  rw[List.map_cons,List.sum_cons,h p List.mem_cons_self,h1];rfl
theorem partSum_all (c:Str→List Str) (left:Lit→Bool) (h:∀z,left z=false) (f:List (Str×Nat)):partSum c left f=total c f:=by
 unfold partSum total
 simp[h]
theorem partSum_le (c:Str→List Str) (left:Lit→Bool):∀(f:List (Str×Nat)),partSum c left f≤total c f
 | []=>Nat.le_refl _
 | p::f=>by
  have h1:=partSum_le c left f
  unfold partSum total at *
  rw[List.map_cons,List.sum_cons,List.map_cons,List.sum_cons]
  split<;>omega
theorem partSum_same (c:Str→List Str) (left:Lit→Bool) (s:Str):∀(f:List (Str×Nat)),s∉f.map (·.1)→partSum c (fun z=>left z&&!z.sameKey (.string s)) f=partSum c left f
 | [],_=>rfl
 | p::f,h=>by
  have hne:p.1≠s:=fun e=>h (by rw[List.map_cons,e];exact List.mem_cons_self)
  have h1:=partSum_same c left s f (fun hm=>h (List.mem_cons_of_mem _ hm))
  unfold partSum at *
  rw[List.map_cons,List.sum_cons,List.map_cons,List.sum_cons,h1]
  have:(p.1==s)=false:=by simpa using hne
  simp[sameKey_str,this]
theorem partSum_step (c:Str→List Str) (left:Lit→Bool) (s:Str) (hl:left (.string s)=true):∀(f:List (Str×Nat)),(f.map (·.1)).Nodup→s∈f.map (·.1)→partSum c (fun z=>left z&&!z.sameKey (.string s)) f=partSum c left f+(c s).length
 | [],_,h=>by simp at h
 | p::f,hn,h=>by
  rw[List.map_cons,List.nodup_cons]at hn
  by_cases hp:p.1=s
  ·have h1:=partSum_same c left s f (by rw[←hp];exact hn.1)
   unfold partSum at *
   rw[List.map_cons,List.sum_cons,List.map_cons,List.sum_cons,h1]
   simp[sameKey_str,hp,hl];omega
  ·have h1:=partSum_step c left s hl f hn.2 (by rcases List.mem_cons.1 h with h | h;exact absurd h.symm hp;exact h)
   unfold partSum at *
   rw[List.map_cons,List.sum_cons,List.map_cons,List.sum_cons,h1]
   have:(p.1==s)=false:=by simpa using hp
   simp[sameKey_str,this];omega
structure SzRel (w:World) (b:Nat) (f:List (Str×Nat)) (c:Str→List Str) (D:DataW (Option Nat)) (r:Nat) (left:Lit→Bool) (cnt acc:Nat) (wr:World):Prop where
 rg:wr.ranges Tryz.prog 9 blkElem b r f.length D left cnt
 below:Below w.heap.size w wr
 sum:acc=partSum c left f
 lefts:∀s,left (.string s)=true→(f.map (·.1)).contains s=true
 rlt:w.heap.size≤r
theorem sizeOf_any (w:World) (b:Nat) (f:List (Str×Nat)) (c:Str→List Str) (hm:MapAt w b f) (hs:∀p,p∈f→SetAt w p.2 (c p.1)) (ht:total c f<maxLen) :
  Calls Tryz.prog 113 #[.map (some b)] w fun e w'=>e=.returned (.int .i64 (total c f:Int))∧Below w.heap.size w w':=by
 obtain⟨D,hown,hnd,hat,hz,hh⟩:=hm
 have HS:=hide hs
 have HAT:=hide hat
 have HH:=hide hh
 clear hs hat hh
 have ht':=ht
 unfold maxLen at ht'
 go_enter Tryz.func113,Tryz.ntmps113
 go_wp2_with (at_range;refine wpList_range_own _ rfl _ 89 rfl 9 88 lawStr undMap _ b f.length _ rfl hown ?_;intro w0 hrg0 hg0 hs0)
 go_frame
 have hrel0:SzRel w b f c D w.heap.size (Maps.has D) (Maps.size D) 0 w0:=⟨hrg0,(Below.refl _ w).grown hg0 (Nat.le_refl _) (fun k e=>by cases e),(partSum_none c _ f (fun p hp=>by rw[HH.out];simp;exact⟨_,hp⟩)).symm,fun s h=>by rw[←HH.out];exact h,Nat.le_refl _⟩
 go_loopw [3] (fun t wr=>∃left cnt acc,t=.int .i64 (acc:Nat)∧SzRel w b f c D w.heap.size left cnt acc wr) (fun _ wr=>wr.rangeLeft b w.heap.size)
 case atStart=>exact⟨_,_,0,rfl,hrel0⟩
 case round =>
  clear hrel0
  obtain⟨left,cnt,acc,rfl,hR⟩:=hrel
  have hacc:acc≤total c f:=by rw[hR.sum];exact partSum_le c left f
  go_wp2_with (at_next;refine wpList_next_ranges _ rfl _ rfl 9 lawStr blkElem Value.string (fun o:Option Nat=>.map o) (fun key kl hk=>by obtain⟨x,rfl,_⟩:=Go.WideMaps.string_of_keyOf undStr hk;exact⟨x,rfl⟩) (fun v y hv=>by cases v with | map o=>exact⟨o,rfl⟩ | _=>cases hv) b w.heap.size f.length _ _ _ rfl hR.rg ?_ ?_)
  ·intro hc0 hl0
   have hsum:(acc:Int)=(total c f:Int):=by rw[hR.sum,partSum_all c left hl0]
   have HSum:=hide hsum
   clear hsum
   go_wp2_with fail
   go_ret
   exact⟨by rw[HSum.out];rfl,hR.below⟩
  ·intro x o kl y ys w1 cnt1 hkey hlk hv hat1 hrg1 hlt hg1 hs1 hen
   obtain⟨x',ex,ekl,hx⟩:=Go.WideMaps.string_of_keyOf undStr hkey
   cases ex
   have ekl':kl=.string (bs x):=ekl
   rw[ekl']at hlk hrg1 hat1
   obtain⟨tb,hl,hin⟩:=look_in (hR.lefts _ hlk)
   have ho:o=some tb:=by
    have h1:=hat1 (.held none)
    rw[HAT.out,hl]at h1
    have h2:DataW.held o=y:=by simp[blkElem]at hv;exact hv.1
    rw[←h2]at h1
    cases h1;rfl
   subst ho
   have hb1:Below w.heap.size w w1:=hR.below.grown hg1 hR.below.size (fun k e=>by cases e;exact hR.rlt)
   have hset:=(HS.out _ hin).below hb1
   obtain⟨D2,hown2,_,_,hz2⟩:=hset
   have hsum:=partSum_step c left (bs x) hlk f hnd (by have:=hR.lefts _ hlk;simpa using this)
   have hle2:acc+Maps.size D2≤total c f:=by rw[hz2,hR.sum,←hsum];exact partSum_le c _ f
   have hrel1:SzRel w b f c D w.heap.size (fun z=>left z&&!z.sameKey (.string (bs x))) cnt1 (acc+Maps.size D2) w1:=⟨hrg1,hb1,by rw[hsum,hz2,hR.sum],fun s h=>hR.lefts s (by rw[Bool.and_eq_true]at h;exact h.1),hR.rlt⟩
   have hmu:w1.rangeLeft b w.heap.size<wr.rangeLeft b w.heap.size:=by rw[hrg1.left_eq,hR.rg.left_eq];exact hlt
   have HR1:=hide hrel1
   have HMu:=hide hmu
   clear hrel1 hmu hsum hz2 hl hin hat1 hv ekl ekl' hkey
   go_wp2_with (at_len;refine wpList_len_own _ rfl _ 88 rfl 9 100 undSet _ tb _ D2 rfl hown2 ?_)
   exact⟨⟨_,_,acc+Maps.size D2,by go_num,HR1.out⟩,HMu.out⟩
end
section
open Go.RowKit Go.Maps
structure GrowRel (f:List (Str×Nat)) (J:(Str→List Str)→World→Prop) (Done:(Str→List Str)→Prop) (w:World) (bf:Int) (c:Str→List Str) (wr:World):Prop where
 inv:J c wr
 low:-1≤bf
 le:bf≤(total c f:Int)
 fin:bf=(total c f:Int)→Done c
theorem growF (b:Nat) (f:List (Str×Nat)) (lb:List Value) (J:(Str→List Str)→World→Prop) (Done:(Str→List Str)→Prop) (T:Nat) (hT:T<maxLen)
  (hJ:∀c W,J c W→MapAt W b f∧(∀p,p∈f→SetAt W p.2 (c p.1))∧total c f≤T) (hB:∀c W W',J c W→Below W.heap.size W W'→J c W')
  (hstep:∀c W,J c W→Calls Tryz.prog 76 lb.toArray W fun e W'=>e=.returned (.tuple #[])∧∃c',J c' W'∧total c f≤total c' f∧(total c' f=total c f→Done c'))
  (w:World) (c0:Str→List Str) (h0:J c0 w) :
  Calls Tryz.prog 75 #[.map (some b),.func (.func 76) #[] lb.toArray] w fun e w'=>e=.returned (.tuple #[])∧∃c,J c w'∧Done c:=by
 have HJ:=hide hJ
 have HB:=hide hB
 have HST:=hide hstep
 have H0:=hide h0
 clear hJ hB hstep h0
 unfold maxLen at hT
 go_enter Tryz.func75,Tryz.ntmps75
 go_wp2_with fail
 go_loopw [4] (fun t wr=>∃bf c,t=.int .i64 bf∧GrowRel f J Done w bf c wr) (fun t _=>((T:Int) - intOf t).toNat)
 case atStart=>exact⟨-1,c0,rfl,H0.out,by omega,by omega,fun e=>by omega⟩
 case round =>
  obtain⟨bf,c,rfl,hR⟩:=hrel
  obtain⟨m1,s1,t1⟩:=HJ.out _ _ hR.inv
  have C1:=hide (sizeOf_any wr b f c m1 s1 (by unfold maxLen;omega))
  have C2:Hid (∀W,J c W→Calls Tryz.prog 113 #[.map (some b)] W fun e w'=>e=.returned (.int .i64 (total c f:Int))∧Below W.heap.size W w'):=hide (fun W hW=>by
   obtain⟨m2,s2,t2⟩:=HJ.out _ _ hW
   exact sizeOf_any W b f c m2 s2 (by unfold maxLen;omega))
  have hlow:=hR.low
  have hle:=hR.le
  clear m1 s1
  by_cases hlt:bf<(total c f:Int)
  ·go_wp2_with (first
    | (go_at_call 76;refine(HST.out _ _ hj2).mono ?_;rintro e w3 ⟨rfl,c',hj3,hge,hfin⟩)
    | (go_at_call 113;refine(C2.out _ hj1).mono ?_;rintro e w2 ⟨rfl,hb2⟩;have hj2:=HB.out _ _ _ hj1 hb2)
    | (go_at_call 113;refine C1.out.mono ?_;rintro e w1 ⟨rfl,hb1⟩;have hj1:=HB.out _ _ _ hR.inv hb1))
   have t3:=(HJ.out _ _ hj3).2.2
   exact⟨⟨_,c',rfl,hj3,by omega,by omega,fun e=>hfin (by omega)⟩,by simp only[intOf];omega⟩
  ·go_wp2_with (go_at_call 113;refine C1.out.mono ?_;rintro e w1 ⟨rfl,hb1⟩;have hj1:=HB.out _ _ _ hR.inv hb1)
   go_end0
   exact⟨rfl,c,hj1,hR.fin (by omega)⟩
theorem growA (b:Nat) (f:List (Str×Nat)) (lb:List Value) (J:(Str→List Str)→World→Prop) (Done:(Str→List Str)→Prop) (T:Nat) (hT:T<maxLen)
  (hJ:∀c W,J c W→MapAt W b f∧(∀p,p∈f→SetAt W p.2 (c p.1))∧total c f≤T) (hB:∀c W W',J c W→Below W.heap.size W W'→J c W')
  (hstep:∀c W,J c W→Calls Tryz.prog 79 lb.toArray W fun e W'=>e=.returned (.tuple #[])∧∃c',J c' W'∧total c f≤total c' f∧(total c' f=total c f→Done c'))
  (w:World) (c0:Str→List Str) (h0:J c0 w) :
  Calls Tryz.prog 75 #[.map (some b),.func (.func 79) #[] lb.toArray] w fun e w'=>e=.returned (.tuple #[])∧∃c,J c w'∧Done c:=by
 have HJ:=hide hJ
 have HB:=hide hB
 have HST:=hide hstep
 have H0:=hide h0
 clear hJ hB hstep h0
 unfold maxLen at hT
 go_enter Tryz.func75,Tryz.ntmps75
 go_wp2_with fail
 go_loopw [4] (fun t wr=>∃bf c,t=.int .i64 bf∧GrowRel f J Done w bf c wr) (fun t _=>((T:Int) - intOf t).toNat)
 case atStart=>exact⟨-1,c0,rfl,H0.out,by omega,by omega,fun e=>by omega⟩
 case round =>
  obtain⟨bf,c,rfl,hR⟩:=hrel
  obtain⟨m1,s1,t1⟩:=HJ.out _ _ hR.inv
  have C1:=hide (sizeOf_any wr b f c m1 s1 (by unfold maxLen;omega))
  have C2:Hid (∀W,J c W→Calls Tryz.prog 113 #[.map (some b)] W fun e w'=>e=.returned (.int .i64 (total c f:Int))∧Below W.heap.size W w'):=hide (fun W hW=>by
   obtain⟨m2,s2,t2⟩:=HJ.out _ _ hW
   exact sizeOf_any W b f c m2 s2 (by unfold maxLen;omega))
  have hlow:=hR.low
  have hle:=hR.le
  clear m1 s1
  by_cases hlt:bf<(total c f:Int)
  ·go_wp2_with (first
    | (go_at_call 79;refine(HST.out _ _ hj2).mono ?_;rintro e w3 ⟨rfl,c',hj3,hge,hfin⟩)
    | (go_at_call 113;refine(C2.out _ hj1).mono ?_;rintro e w2 ⟨rfl,hb2⟩;have hj2:=HB.out _ _ _ hj1 hb2)
    | (go_at_call 113;refine C1.out.mono ?_;rintro e w1 ⟨rfl,hb1⟩;have hj1:=HB.out _ _ _ hR.inv hb1))
   have t3:=(HJ.out _ _ hj3).2.2
   exact⟨⟨_,c',rfl,hj3,by omega,by omega,fun e=>hfin (by omega)⟩,by simp only[intOf];omega⟩
  ·go_wp2_with (go_at_call 113;refine C1.out.mono ?_;rintro e w1 ⟨rfl,hb1⟩;have hj1:=HB.out _ _ _ hR.inv hb1)
   go_end0
   exact⟨rfl,c,hj1,hR.fin (by omega)⟩
end
section
open Go.RowKit Go.Maps
def withinP (F:Str→Str→Bool) (l0:List Str) (A:Str→Bool):PredP.Part→Str→Bool
 | .br .loop _ e,x=>PredP.fstE x (F x) l0.contains e||A x
 | _,x=>A x
def AftPost (U:List Str) (w:World) (va:Value) (g:Str→Bool) (e:Ending) (w':World):Prop:=∃v,e=.returned v∧MaySet U w' v g∧(v=va∨∃b,v=.map (some b)∧w.heap.size≤b)∧Below w.heap.size w w'
theorem afterWithin_any (U l0:List Str) (hU:2 * U.length<maxLen) (f:List (Str×Nat)) (F:Str→Str→Bool) (eb fb:Nat) (ao:Option Nat) (p:PredP.Part) (ok:Nat→Prop) (w:World) (v va:Value) (A:Str→Bool)
  (hst:Sts U l0 f F eb fb w) (hp:partAt ok w p v) (hnm:NamesIn f (PredP.namesP p)) (hwd:WordsIn U (PredP.wordsP p)) (hva:MaySet U w va A) :
  Calls Tryz.prog 116 #[.agg #[.map (some eb),.map (some fb),.map ao],v,va] w (AftPost U w va (withinP F l0 A p)):=by
 obtain⟨vo,rfl⟩:=hva.form
 have hB0:∀o,Below w.heap.size w (w.alloc o):=fun o=>(Below.refl _ w).alloc (Nat.le_refl _) o
 have HVA:=hide hva
 cases p with
 | word s =>
  unfold partAt at hp
  obtain⟨b,a,rfl,_⟩:=hp
  clear hst hnm hwd hva
  have as1:=as_word_loop
  go_enter Tryz.func116,Tryz.ntmps116
  go_wp2_with fail
  go_ret
  exact⟨_,rfl,HVA.out.below (hB0 _),.inl rfl,hB0 _⟩
 | name s q =>
  unfold partAt at hp
  obtain⟨b,a,rfl,_⟩:=hp
  clear hst hnm hwd hva
  have as1:=as_name_loop
  go_enter Tryz.func116,Tryz.ntmps116
  go_wp2_with fail
  go_ret
  exact⟨_,rfl,HVA.out.below (hB0 _),.inl rfl,hB0 _⟩
 | br k q e =>
  unfold partAt at hp
  obtain⟨b,u,cs,rfl,hok,hb,c0,c1,hsl,hrows⟩:=hp
  cases k with
  | opt =>
   clear hst hnm hwd hva hsl hrows
   simp only[tyOf]
   have as1:=as_option_loop
   go_enter Tryz.func116,Tryz.ntmps116
   go_wp2_with fail
   go_ret
   exact⟨_,rfl,HVA.out.below (hB0 _),.inl rfl,hB0 _⟩
  | grp =>
   clear hst hnm hwd hva hsl hrows
   simp only[tyOf]
   have as1:=as_group_loop
   go_enter Tryz.func116,Tryz.ntmps116
   go_wp2_with fail
   go_ret
   exact⟨_,rfl,HVA.out.below (hB0 _),.inl rfl,hB0 _⟩
  | loop =>
   have hC:∀W,Below w.heap.size w W→Calls Tryz.prog 78 #[.agg #[.map (some eb),.map (some fb),.map ao],u,.map none] W (TelPost U W (fun x=>PredP.telE x (F x) l0.contains false e)):=fun W hW =>
    (tel_all U l0 hU f F eb fb ao (SizeOf.sizeOf e)).2.2 e (Nat.le_refl _) ok W u cs (.map none) (fun _=>false) (hst.below hW) (hsl.below hW) (hrows.below hW) (fun x hx=>hnm x (by rw[PredP.namesP];exact hx)) (fun x hx=>hwd x (by rw[PredP.wordsP];exact hx)) (.inl ⟨rfl,fun _=>rfl⟩)
   have HC:=hide hC
   obtain⟨ua,un,uc,rfl⟩:=hsl.form
   have hvlt:∀bb,vo=some bb→bb<w.heap.size:=fun bb hbb=>by
    rcases hva with ⟨h,_⟩ | ⟨b2,h,hs⟩
    ·rw[hbb]at h;cases h
    ·rw[hbb]at h;cases h;exact hs.lt
   have HLT:=hide hvlt
   clear hst hsl hrows hnm hwd hC hva hvlt
   simp only[tyOf]
   have as1:=as_loop_loop
   go_enter Tryz.func116,Tryz.ntmps116
   go_wp2_with fail
   have hBW:Below w.heap.size w (w.alloc (.cells #[.map (some eb),.map (some fb),.map ao] 91)):=hB0 _
   have x0:(w.alloc (.cells #[.map (some eb),.map (some fb),.map ao] 91)).cell? ⟨w.heap.size,0,none⟩=some (.map (some eb)):=cell_fresh rfl
   have x1:(w.alloc (.cells #[.map (some eb),.map (some fb),.map ao] 91)).cell? ⟨w.heap.size,1,none⟩=some (.map (some fb)):=cell_fresh rfl
   have x2:(w.alloc (.cells #[.map (some eb),.map (some fb),.map ao] 91)).cell? ⟨w.heap.size,2,none⟩=some (.map ao):=cell_fresh rfl
   generalize w.alloc (.cells #[.map (some eb),.map (some fb),.map ao] 91)=W at hBW x0 x1 x2 ⊢
   have d0:=(hBW.cell (p:=⟨b,0,none⟩) hb).trans c0
   have d1:=(hBW.cell (p:=⟨b,1,none⟩) hb).trans c1
   have hBd:Below w.heap.size w { W with drawn:=W.drawn+1 }:=⟨hBW.os,hBW.tape,hBW.output,hBW.size,hBW.block⟩
   go_still_tail 6,mixed
   generalize { W with drawn:=W.drawn+1 }=Wd at hBd ⊢
   go_wp2_with (first
    | (go_at_call 78;refine(HC.out _ hBd).mono ?_;rintro e2 w2 ⟨fbk,rfl,hwh,hs2,hb2⟩;have hbz:=Below.all hBd hb2)
    | (go_at_call 77;refine(addAll_may U hU _ fbk (.map vo) _ _ hs2 (HVA.out.below hbz) (fun e=>by cases e;have:=HLT.out _ rfl;have:=hBd.size;omega)).mono ?_;rintro e3 w3 ⟨rfl,hbt3,hs3⟩))
   go_ret
   exact⟨_,rfl,.inr ⟨fbk,rfl,hs3.cast fun x=>by rw[telE_false];rfl⟩,.inr ⟨fbk,rfl,by have:=hBd.size;omega⟩,hbt3.belowOf hbz (by have:=hBd.size;omega) hbz.size⟩
end
section
open Go.RowKit Go.Maps
structure KS where
 w0:World
 U:List Str
 l0:List Str
 f:List (Str×Nat)
 fa:List (Str×Nat)
 eb:Nat
 fb:Nat
 ab:Nat
 rp:Nat
 sp:Nat
 v:Value
def KS.all (S:KS):List Nat:=S.eb::S.fb::S.ab::S.rp::S.sp::(S.f.map (·.2)++S.fa.map (·.2))
structure Apart (S:KS):Prop where
 nd:S.all.Nodup
 lo:∀b,b∈S.f.map (·.2)++S.fa.map (·.2)→S.w0.heap.size≤b
 nf:(S.f.map (·.1)).Nodup
 na:(S.fa.map (·.1)).Nodup
 same:S.fa.map (·.1)=S.f.map (·.1)
 hU:2 * S.U.length<maxLen
abbrev Words:=Str→List Str
structure Kn (S:KS) (c d:Words) (W:World):Prop where
 low:Below S.w0.heap.size S.w0 W
 empty:SetAt W S.eb S.l0
 fmap:MapAt W S.fb S.f
 amap:MapAt W S.ab S.fa
 fset:∀p,p∈S.f→SetAt W p.2 (c p.1)
 aset:∀p,p∈S.fa→SetAt W p.2 (d p.1)
 fU:∀n x,x∈c n→x∈S.U
 aU:∀n x,x∈d n→x∈S.U
 rc:W.cell? ⟨S.rp,0,none⟩=some S.v
 s0:W.cell? ⟨S.sp,0,none⟩=some (.map (some S.eb))
 s1:W.cell? ⟨S.sp,1,none⟩=some (.map (some S.fb))
 s2:W.cell? ⟨S.sp,2,none⟩=some (.map (some S.ab))
def Fof (c:Words):Str→Str→Bool:=fun x n=>(c n).contains x
theorem nodup_map_inj {α β:Type} {g:α→β}:∀{l:List α},(l.map g).Nodup→∀{a b:α},a∈l→b∈l→g a=g b→a=b
 | [],_,_,_,h,_,_=>by simp at h
 | x::l,hn,a,b,ha,hb,e=>by
  rw[List.map_cons,List.nodup_cons]at hn
  rcases List.mem_cons.1 ha with ha | ha
  ·rcases List.mem_cons.1 hb with hb | hb
   ·rw[ha,hb]
   ·exact absurd (List.mem_map.2 ⟨b,hb,by rw[←e,ha]⟩) hn.1
  ·rcases List.mem_cons.1 hb with hb | hb
   ·exact absurd (List.mem_map.2 ⟨a,ha,by rw[e,hb]⟩) hn.1
   ·exact nodup_map_inj hn.2 ha hb e
theorem Apart.parts {S:KS} (h:Apart S):(∀b,b∈S.f.map (·.2)++S.fa.map (·.2)→b≠S.eb∧b≠S.fb∧b≠S.ab∧b≠S.rp∧b≠S.sp∧S.w0.heap.size≤b)∧(S.f.map (·.2)).Nodup∧(S.fa.map (·.2)).Nodup∧∀b,b∈S.f.map (·.2)→b∉S.fa.map (·.2):=by
 have hn:=h.nd
 unfold KS.all at hn
 rw[List.nodup_cons,List.nodup_cons,List.nodup_cons,List.nodup_cons,List.nodup_cons,List.nodup_append]at hn
 obtain⟨h1,h2,h3,h4,h5,h6,h7,h8⟩:=hn
 refine⟨fun b hb=>⟨fun e=>h1 ?_,fun e=>h2 ?_,fun e=>h3 ?_,fun e=>h4 ?_,fun e=>h5 ?_,h.lo b hb⟩,h6,h7,fun b hb hb'=>h8 b hb b hb' rfl⟩
 ·rw[←e];exact List.mem_cons_of_mem _ (List.mem_cons_of_mem _ (List.mem_cons_of_mem _ (List.mem_cons_of_mem _ hb)))
 ·rw[←e];exact List.mem_cons_of_mem _ (List.mem_cons_of_mem _ (List.mem_cons_of_mem _ hb))
 ·rw[←e];exact List.mem_cons_of_mem _ (List.mem_cons_of_mem _ hb)
 ·rw[←e];exact List.mem_cons_of_mem _ hb
 ·rw[←e];exact hb
def updS (c:Words) (n:Str) (l:List Str):Words:=fun m=>if m=n then l else c m
theorem updS_same (c:Words) (n:Str) (l:List Str):updS c n l n=l:=by simp[updS]
theorem updS_other (c:Words) {n m:Str} (l:List Str) (h:m≠n):updS c n l m=c m:=by simp[updS,h]
def Le (c c':Words):Prop:=∀n x,x∈c n→x∈c' n
theorem Le.refl (c:Words):Le c c:=fun _ _ h=>h
theorem Le.trans {a b c:Words} (h:Le a b) (k:Le b c):Le a c:=fun n x hx=>k n x (h n x hx)
theorem Le.upd {c:Words} {n:Str} {l:List Str} (h:∀x,x∈c n→x∈l):Le c (updS c n l):=fun m x hx=>by
 by_cases hm:m=n
 ·subst hm;rw[updS_same];exact h x hx
 ·rw[updS_other c l hm];exact hx
theorem Kn.onward {S:KS} {c d:Words} {W W':World} (h:Kn S c d W) (hb:Below W.heap.size W W'):Kn S c d W' :=
 ⟨Below.all h.low hb,h.empty.below hb,h.fmap.below hb,h.amap.below hb,fun p hp=>(h.fset p hp).below hb,fun p hp=>(h.aset p hp).below hb,h.fU,h.aU,
  (hb.cell (bltc h.rc)).trans h.rc,(hb.cell (bltc h.s0)).trans h.s0,(hb.cell (bltc h.s1)).trans h.s1,(hb.cell (bltc h.s2)).trans h.s2⟩
theorem Kn.sts {S:KS} {c d:Words} {W:World} (h:Kn S c d W):Sts S.U S.l0 S.f (Fof c) S.eb S.fb W :=
 ⟨h.empty,h.fmap,fun p hp=>⟨c p.1,h.fset p hp,h.fU p.1,fun _=>rfl⟩⟩
theorem But.blockAt {r:Nat} {w w':World} (h:But r w w') {b:Nat} (hl:b<w.heap.size) (hr:r≠b):w'.heap[b]?=w.heap[b]?:=h.block b hl (fun e=>hr e.symm)
theorem Kn.setF {S:KS} {c d:Words} {W W':World} (h:Kn S c d W) (hA:Apart S) {n:Str} {b:Nat} (hin:(n,b)∈S.f) (hbt:But b W W') {l:List Str} (hs:SetAt W' b l) (hl:∀x,x∈l→x∈S.U):Kn S (updS c n l) d W':=by
 obtain⟨hp,hn1,hn2,hdis⟩:=hA.parts
 have hbf:b∈S.f.map (·.2):=List.mem_map.2 ⟨_,hin,rfl⟩
 obtain⟨q1,q2,q3,q4,q5,q6⟩:=hp b (List.mem_append_left _ hbf)
 refine⟨hbt.belowOf h.low q6 h.low.size,h.empty.block (hbt.blockAt h.empty.lt q1),h.fmap.block (hbt.blockAt h.fmap.lt q2),h.amap.block (hbt.blockAt h.amap.lt q3),fun p hp=>?_,fun p hp=>?_,fun m x hx=>?_,h.aU,hbt.cellAt h.rc q4.symm,hbt.cellAt h.s0 q5.symm,hbt.cellAt h.s1 q5.symm,hbt.cellAt h.s2 q5.symm⟩
 ·by_cases e:p.1=n
  ·have:p=(n,b):=nodup_map_inj hA.nf hp hin e
   subst this
   rw[updS_same];exact hs
  ·rw[updS_other c l e]
   have hne:b≠p.2:=fun e'=>e (by have:=nodup_map_inj hn1 hp hin e'.symm;rw[this])
   exact(h.fset p hp).block (hbt.blockAt (h.fset p hp).lt hne)
 ·have hne:b≠p.2:=fun e'=>hdis b hbf (List.mem_map.2 ⟨p,hp,e'.symm⟩)
  exact(h.aset p hp).block (hbt.blockAt (h.aset p hp).lt hne)
 ·by_cases e:m=n
  ·subst e;rw[updS_same]at hx;exact hl x hx
  ·rw[updS_other c l e]at hx;exact h.fU m x hx
theorem Kn.setA {S:KS} {c d:Words} {W W':World} (h:Kn S c d W) (hA:Apart S) {n:Str} {b:Nat} (hin:(n,b)∈S.fa) (hbt:But b W W') {l:List Str} (hs:SetAt W' b l) (hl:∀x,x∈l→x∈S.U):Kn S c (updS d n l) W':=by
 obtain⟨hp,hn1,hn2,hdis⟩:=hA.parts
 have hbf:b∈S.fa.map (·.2):=List.mem_map.2 ⟨_,hin,rfl⟩
 obtain⟨q1,q2,q3,q4,q5,q6⟩:=hp b (List.mem_append_right _ hbf)
 refine⟨hbt.belowOf h.low q6 h.low.size,h.empty.block (hbt.blockAt h.empty.lt q1),h.fmap.block (hbt.blockAt h.fmap.lt q2),h.amap.block (hbt.blockAt h.amap.lt q3),fun p hp=>?_,fun p hp=>?_,h.fU,fun m x hx=>?_,hbt.cellAt h.rc q4.symm,hbt.cellAt h.s0 q5.symm,hbt.cellAt h.s1 q5.symm,hbt.cellAt h.s2 q5.symm⟩
 ·have hne:b≠p.2:=fun e'=>hdis p.2 (List.mem_map.2 ⟨p,hp,rfl⟩) (by rw[←e'];exact hbf)
  exact(h.fset p hp).block (hbt.blockAt (h.fset p hp).lt hne)
 ·by_cases e:p.1=n
  ·have:p=(n,b):=nodup_map_inj hA.na hp hin e
   subst this
   rw[updS_same];exact hs
  ·rw[updS_other d l e]
   have hne:b≠p.2:=fun e'=>e (by have:=nodup_map_inj hn2 hp hin e'.symm;rw[this])
   exact(h.aset p hp).block (hbt.blockAt (h.aset p hp).lt hne)
 ·by_cases e:m=n
  ·subst e;rw[updS_same]at hx;exact hl x hx
  ·rw[updS_other d l e]at hx;exact h.aU m x hx
theorem SetAt.nodup {w:World} {b:Nat} {l:List Str} (h:SetAt w b l):l.Nodup:=by
 obtain⟨D,_,h,_⟩:=h
 exact h
theorem total_le {c c':Words} (h:Le c c'):∀(f:List (Str×Nat)),(∀p,p∈f→(c p.1).Nodup)→total c f≤total c' f
 | [],_=>Nat.le_refl _
 | p::f,hn=>by
  have h1:=total_le h f (fun q hq=>hn q (List.mem_cons_of_mem _ hq))
  have h2:=PredP.nodup_le (c p.1) (c' p.1) (hn p List.mem_cons_self) (h p.1)
  unfold total at *
  rw[List.map_cons,List.sum_cons,List.map_cons,List.sum_cons]
  omega
theorem total_eq {c c':Words} (h:Le c c'):∀(f:List (Str×Nat)),(∀p,p∈f→(c p.1).Nodup)→total c' f=total c f→∀p,p∈f→∀x,x∈c' p.1→x∈c p.1
 | [],_,_,p,hp,_,_=>by simp at hp
 | p::f,hn,ht,q,hq,x,hx=>by
  have h1:=total_le h f (fun q hq=>hn q (List.mem_cons_of_mem _ hq))
  have h2:=PredP.nodup_le (c p.1) (c' p.1) (hn p List.mem_cons_self) (h p.1)
  have ht':(c' p.1).length+total c' f=(c p.1).length+total c f:=by
   unfold total at ht ⊢
   rw[List.map_cons,List.sum_cons,List.map_cons,List.sum_cons]at ht
   exact ht
  rcases List.mem_cons.1 hq with hq | hq
  ·subst hq
   refine Classical.byContradiction fun hno=>?_
   have h3:=PredP.nodup_le (x::c q.1) (c' q.1) (List.nodup_cons.2 ⟨hno,hn q List.mem_cons_self⟩) (fun y hy=>by
    rcases List.mem_cons.1 hy with e | hy
    ·rw[e];exact hx
    ·exact h q.1 y hy)
   rw[List.length_cons]at h3
   omega
  ·exact total_eq h f (fun q hq=>hn q (List.mem_cons_of_mem _ hq)) (by omega) q hq x hx
theorem total_bound {c:Words} {U:List Str}:∀(f:List (Str×Nat)),(∀p,p∈f→(c p.1).Nodup)→(∀n x,x∈c n→x∈U)→total c f≤f.length * U.length
 | [],_,_=>by simp[total]
 | p::f,hn,hU=>by
  have h1:=total_bound f (fun q hq=>hn q (List.mem_cons_of_mem _ hq)) hU
  have h2:=PredP.nodup_le (c p.1) U (hn p List.mem_cons_self) (hU p.1)
  unfold total at *
  rw[List.map_cons,List.sum_cons,List.length_cons,Nat.add_mul]
  omega
end
end Go.Proofs.YtpcmemcanpgadaaGreatDoor
