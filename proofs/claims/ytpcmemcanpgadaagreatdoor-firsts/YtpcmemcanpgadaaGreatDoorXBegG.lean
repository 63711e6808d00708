import Derived.Test.YtpcmemcanpgadaaGreatDoorXAllG
import Derived.Test.YtpcmemcanpgadaaGreatDoorPureX
import Derived.Deep.OwnRows
set_option maxHeartbeats 4000000
set_option maxRecDepth 100000
namespace Go.Proofs.YtpcmemcanpgadaaGreatDoor
open PredP (hide Str Rule bs)
section
open Go.RowKit
theorem kOf_set:∀(ns:List Str) (bl:List Bool) (i:Nat) (n:Str) (b:Bool),ns.Nodup→ns.length=bl.length→ns[i]?=some n→(∀m,m≠n→kOf ns (bl.set i b) m=kOf ns bl m)∧kOf ns (bl.set i b) n=b
 | [],_,_,_,_,_,_,h=>by simp at h
 | _::_,[],_,_,_,_,h,_=>by simp at h
 | a::ns,c::bl,0,n,b,hd,hl,h=>by
  simp at h
  subst h
  refine⟨fun m hm=>?_,by simp[kOf]⟩
  rw[List.set_cons_zero,kOf,kOf,if_neg (by simpa using fun e=>hm e.symm),if_neg (by simpa using fun e=>hm e.symm)]
 | a::ns,c::bl,i+1,n,b,hd,hl,h=>by
  rw[List.nodup_cons]at hd
  rw[List.getElem?_cons_succ]at h
  obtain⟨q1,q2⟩:=kOf_set ns bl i n b hd.2 (by simpa using hl) h
  have hne:a≠n:=fun e=>hd.1 (e▸List.mem_of_getElem? h)
  refine⟨fun m hm=>?_,?_⟩
  ·rw[List.set_cons_succ,kOf,kOf]
   split
   ·rfl
   ·exact q1 m hm
  ·rw[List.set_cons_succ,kOf,if_neg (by simpa using hne)];exact q2
theorem fOf_set:∀(ns:List Str) (fl:List (List Str)) (i:Nat) (n:Str) (b:List Str),ns.Nodup→ns.length=fl.length→ns[i]?=some n→(∀m,m≠n→fOf ns (fl.set i b) m=fOf ns fl m)∧fOf ns (fl.set i b) n=b∧fOf ns fl n=fl.getD i []
 | [],_,_,_,_,_,_,h=>by simp at h
 | _::_,[],_,_,_,_,h,_=>by simp at h
 | a::ns,c::fl,0,n,b,hd,hl,h=>by
  simp at h
  subst h
  refine⟨fun m hm=>?_,by simp[fOf],by simp[fOf]⟩
  rw[List.set_cons_zero,fOf,fOf,if_neg (by simpa using fun e=>hm e.symm),if_neg (by simpa using fun e=>hm e.symm)]
 | a::ns,c::fl,i+1,n,b,hd,hl,h=>by
  rw[List.nodup_cons]at hd
  rw[List.getElem?_cons_succ]at h
  obtain⟨q1,q2,q3⟩:=fOf_set ns fl i n b hd.2 (by simpa using hl) h
  have hne:a≠n:=fun e=>hd.1 (e▸List.mem_of_getElem? h)
  refine⟨fun m hm=>?_,?_,?_⟩
  ·rw[List.set_cons_succ,fOf,fOf]
   split
   ·rfl
   ·exact q1 m hm
  ·rw[List.set_cons_succ,fOf,if_neg (by simpa using hne)];exact q2
  ·rw[fOf,if_neg (by simpa using hne),q3];simp
theorem kOf_none:∀(ns:List Str) (k:Nat) (m:Str),kOf ns (List.replicate k false) m=false
 | [],_,_=>by cases ‹Nat›<;>simp[kOf]
 | _::_,0,_=>by simp[kOf]
 | n::ns,k+1,m=>by
  rw[List.replicate_succ,kOf]
  split
  ·rfl
  ·exact kOf_none ns k m
theorem fOf_none:∀(ns:List Str) (k:Nat) (m:Str),fOf ns (List.replicate k []) m=[]
 | [],_,_=>by cases ‹Nat›<;>simp[fOf]
 | _::_,0,_=>by simp[fOf]
 | n::ns,k+1,m=>by
  rw[List.replicate_succ,fOf]
  split
  ·rfl
  ·exact fOf_none ns k m
theorem any_at {G:List Rule} (hnd:(PredP.names G).Nodup) {k:Nat} {r:Rule} (h:G[k]?=some r) (φ:Rule→Bool):G.any (fun q=>q.name==r.name&&φ q)=φ r:=by
 rw[Bool.eq_iff_iff,List.any_eq_true]
 constructor
 ·rintro⟨q,hq,e⟩
  rw[Bool.and_eq_true,beq_iff_eq]at e
  obtain⟨j,hj⟩:=List.getElem?_of_mem hq
  have hjl:j<(PredP.names G).length:=by rw[PredP.names,List.length_map];exact(List.getElem?_eq_some_iff.1 hj).1
  have e1:(PredP.names G)[j]?=some q.name:=by simp[PredP.names,hj]
  have e2:(PredP.names G)[k]?=some r.name:=by simp[PredP.names,h]
  have:=(List.getElem?_inj hjl hnd).1 (e1.trans (e.1▸e2.symm))
  subst this
  rw[hj]at h
  cases h
  exact e.2
 ·intro e
  exact⟨r,List.mem_of_getElem? h,by simp[e]⟩
theorem steps_at {G:List Rule} {l:List PredP.X} (ht:PredP.Trees G l) (hnd:(PredP.names G).Nodup) {k:Nat} {x:PredP.X} (hx:l[k]?=some x) :
  ∃n,(PredP.names G)[k]?=some n∧(∀K,PredP.nulStep G K n=PredP.derX false K x)∧(∀K,PredP.endStep G K n=PredP.derX true K x)∧∀f kk u,PredP.fstStep G kk u f n=PredP.fstX u f kk x:=by
 have hk:k<G.length:=by rw[←ht.length];exact(List.getElem?_eq_some_iff.1 hx).1
 have hr:G[k]?=some G[k]:=List.getElem?_eq_getElem hk
 have he:=ht.at hr hx
 refine⟨G[k].name,by simp[PredP.names,hr],fun K=>?_,fun K=>?_,fun f kk u=>?_⟩
 ·unfold PredP.nulStep;rw[any_at hnd hr (fun r=>PredP.derE false K r.body),PredP.derX_E _ _ _ _ he]
 ·unfold PredP.endStep;rw[any_at hnd hr (fun r=>PredP.derE true K r.body),PredP.derX_E _ _ _ _ he]
 ·unfold PredP.fstStep;rw[any_at hnd hr (fun r=>PredP.fstE u f kk r.body),PredP.fstX_E _ _ _ _ _ he]
theorem But.alloc {r:Nat} {a w:World} (h:But r a w) (o:Obj):But r a (w.alloc o) :=
 ⟨h.os,h.tape,h.output,by rw[World.size_alloc];have:=h.size;omega,fun k hk hr=>(Below.heap_alloc _ _ _ (by have:=h.size;omega)).trans (h.block k hk hr)⟩
theorem GT.but {N0 gb b:Nat} {G:List Rule} {l:List PredP.X} {w w':World} (h:GT N0 gb G l w) (hb:But b w w') (hne:N0≤b∨b=gb) (hc:∀k,k<3→w'.cell? ⟨gb,k,none⟩=w.cell? ⟨gb,k,none⟩):GT N0 gb G l w':=by
 obtain⟨⟨h1,h1',vN,h1n,h1s⟩,⟨vA,h2,h3⟩,⟨vE,h4,h5⟩,h6,h7,h8,h9⟩:=h
 have q:∀x,okG N0 gb x→x<w.heap.size→okG N0 gb x∧w'.heap[x]?=w.heap[x]?:=fun x hx hl=>⟨hx,hb.block x hl (fun e=>by
  subst e
  rcases hne with hn | hn
  ·have:=hx.1;omega
  ·exact hx.2 hn)⟩
 exact⟨⟨Nat.lt_of_lt_of_le h1 hb.size,Nat.le_trans h1' hb.size,vN,(hc 0 (by omega)).trans h1n,h1s.carry hb.size q⟩,⟨vA,(hc 1 (by omega)).trans h2,h3.carry hb.size q⟩,⟨vE,(hc 2 (by omega)).trans h4,h5.carry hb.size q⟩,h6,fun k x hx=>xAt.carry hb.size q q x _ (h7 k x hx),h8,h9⟩
structure GB (N0 gb:Nat) (G:List Rule) (w:World) (eb fb n:Nat) (bl:List Bool) (vf:Nat→Value) (fl:List (List Str)) (wr:World):Prop where
 but:But gb w wr
 c012:∀k,k<3→wr.cell? ⟨gb,k,none⟩=w.cell? ⟨gb,k,none⟩
 row:∃f,wr.rowIs gb 35 7 f
 g3:wr.cell? ⟨gb,3,none⟩=some (.slice (some ⟨eb,0,none⟩) n n)
 g4:wr.cell? ⟨gb,4,none⟩=some (.slice (some ⟨fb,0,none⟩) n n)
 he:w.heap.size≤eb
 hf:w.heap.size≤fb
 ne:eb≠fb
 gl:gb<w.heap.size
 e:wr.rowIs eb 4 n (fun j=>.bool (bl.getD j false))
 f:wr.rowIs fb 27 n vf
 ls:∀j,j<n→strs wr (vf j) (fl.getD j [])
 lb:bl.length=n
 lf:fl.length=n
 ln:(PredP.names G).length=n
 n12:n≤12
section
variable {N0 gb:Nat} {G:List Rule} {w:World} {eb fb n:Nat} {bl:List Bool} {vf:Nat→Value} {fl:List (List Str)} {wr:World}
theorem GB.gt {l:List PredP.X} (h:GB N0 gb G w eb fb n bl vf fl wr) (hT:GT N0 gb G l w):GT N0 gb G l wr:=hT.but h.but (.inr rfl) h.c012
theorem GB.below {w':World} (h:GB N0 gb G w eb fb n bl vf fl wr) (hb:Below wr.heap.size wr w'):GB N0 gb G w eb fb n bl vf fl w':=by
 have hg:gb<wr.heap.size:=Nat.lt_of_lt_of_le h.gl h.but.size
 have q:=fun k=>hb.cell (p:=⟨gb,k,none⟩) hg
 obtain⟨f0,hrow⟩:=h.row
 exact⟨h.but.trans (But.of_below hb),fun k hk=>(q k).trans (h.c012 k hk),⟨f0,hrow.of_block (hb.block _ hg)⟩,(q 3).trans h.g3,(q 4).trans h.g4,h.he,h.hf,h.ne,h.gl,h.e.of_block (hb.block _ h.e.lt),h.f.of_block (hb.block _ h.f.lt),fun j hj=>(h.ls j hj).below hb,h.lb,h.lf,h.ln,h.n12⟩
theorem GB.drew (h:GB N0 gb G w eb fb n bl vf fl wr):GB N0 gb G w eb fb n bl vf fl wr.drew:=h.below (Below.refl _ _).drew
theorem strs_keep {b:Nat} {t:Nat} {f:Nat→Value} {m:Nat} {v:Value} {L:List Str} {p:Addr} {u:Value} (hr:wr.rowIs b t m f) (ht:t≠9) (hp:p.block=b) (h:strs wr v L):strs (wr.setCell p u) v L:=by
 refine h.carry (by simp[World.setCell]) (fun x hl hs=>Below.heap_setCell _ _ _ _ (fun e=>?_))
 obtain⟨cs,f',hx⟩:=hs
 obtain⟨c,hc,_⟩:=hr
 rw[e,hp,hc]at hx
 simp only[Option.some.injEq,Obj.cells.injEq]at hx
 exact ht hx.2.1
theorem GB.setE (h:GB N0 gb G w eb fb n bl vf fl wr) (i:Nat) (b:Bool):GB N0 gb G w eb fb n (bl.set i b) vf fl (wr.setCell ⟨eb,i,none⟩ (.bool b)):=by
 have hg:=h.gl
 have he:=h.he
 have hne:=h.ne
 obtain⟨f0,hrow⟩:=h.row
 have q:∀k,(wr.setCell ⟨eb,i,none⟩ (.bool b)).cell? ⟨gb,k,none⟩=wr.cell? ⟨gb,k,none⟩:=fun k=>World.cell?_setCell_other _ _ _ _ (fun e=>by injection e with e1;omega)
 refine⟨h.but.setNew he _,fun k hk=>(q k).trans (h.c012 k hk),⟨f0,hrow.setOther (show gb≠eb by omega) _⟩,(q 3).trans h.g3,(q 4).trans h.g4,h.he,h.hf,h.ne,h.gl,(h.e.set i (.bool b)).congr (fun j hj=>?_),h.f.setOther (show fb≠eb by omega) _,fun j hj=>strs_keep h.e (by decide) rfl (h.ls j hj),by simpa using h.lb,h.lf,h.ln,h.n12⟩
 have:=h.lb
 show(if j=i then Value.bool b else .bool (bl.getD j false))=.bool ((bl.set i b).getD j false)
 by_cases e:j=i
 ·subst e
  rw[if_pos rfl,List.getD_eq_getElem?_getD,List.getElem?_set_self (by omega)]
  rfl
 ·rw[if_neg e,List.getD_eq_getElem?_getD,List.getD_eq_getElem?_getD,List.getElem?_set_ne (fun x=>e x.symm)]
theorem GB.setF (h:GB N0 gb G w eb fb n bl vf fl wr) (i:Nat) {v:Value} {L:List Str} (hv:strs wr v L):GB N0 gb G w eb fb n bl (fun j=>if j=i then v else vf j) (fl.set i L) (wr.setCell ⟨fb,i,none⟩ v):=by
 have hg:=h.gl
 have hf:=h.hf
 have hne:=h.ne
 obtain⟨f0,hrow⟩:=h.row
 have q:∀k,(wr.setCell ⟨fb,i,none⟩ v).cell? ⟨gb,k,none⟩=wr.cell? ⟨gb,k,none⟩:=fun k=>World.cell?_setCell_other _ _ _ _ (fun e=>by injection e with e1;omega)
 refine⟨h.but.setNew hf _,fun k hk=>(q k).trans (h.c012 k hk),⟨f0,hrow.setOther (show gb≠fb by omega) _⟩,(q 3).trans h.g3,(q 4).trans h.g4,h.he,h.hf,h.ne,h.gl,h.e.setOther (show eb≠fb from hne) _,h.f.set i v,fun j hj=>?_,h.lb,by simpa using h.lf,h.ln,h.n12⟩
 have:=h.lf
 by_cases e:j=i
 ·subst e
  rw[if_pos rfl,List.getD_eq_getElem?_getD,List.getElem?_set_self (by omega)]
  exact strs_keep h.f (by decide) rfl hv
 ·rw[if_neg e,List.getD_eq_getElem?_getD,List.getElem?_set_ne (fun x=>e x.symm),←List.getD_eq_getElem?_getD]
  exact strs_keep h.f (by decide) rfl (h.ls j hj)
theorem row_bools {t:Nat} (h:wr.rowIs eb t n (fun j=>.bool (bl.getD j false))) (hl:bl.length=n) (hn:n≤12):bools wr (.slice (some ⟨eb,0,none⟩) n n) bl:=by
 refine .inr ⟨eb,n,n,rfl,Nat.le_min.2 ⟨Nat.le_refl _,by unfold maxLen;omega⟩,trivial,h.lt,by simp[boolC,hl],fun j u hu=>?_⟩
 simp only[boolC,List.getElem?_map,Option.map_eq_some_iff]at hu
 obtain⟨b,hb,rfl⟩:=hu
 have hj:j<n:=by rw[←hl];exact(List.getElem?_eq_some_iff.1 hb).1
 rw[h.cell hj,List.getD_eq_getElem?_getD,hb]
 rfl
theorem row_lists {t:Nat} (h:wr.rowIs fb t n vf) (hs:∀j,j<n→strs wr (vf j) (fl.getD j [])) (hl:fl.length=n) (hn:n≤12):lists wr (.slice (some ⟨fb,0,none⟩) n n) fl:=by
 refine⟨(List.range n).map vf,.inr ⟨fb,n,n,rfl,Nat.le_min.2 ⟨Nat.le_refl _,by unfold maxLen;omega⟩,trivial,h.lt,by simp,fun j u hu=>?_⟩,by simp[hl],fun k u ll hu hll=>?_⟩
 ·simp only[List.getElem?_map,Option.map_eq_some_iff]at hu
  obtain⟨m,hm,rfl⟩:=hu
  obtain⟨hj,e⟩:=List.getElem?_eq_some_iff.1 hm
  simp at hj e
  subst e
  exact h.cell hj
 ·simp only[List.getElem?_map,Option.map_eq_some_iff]at hu
  obtain⟨m,hm,rfl⟩:=hu
  obtain⟨hj,e⟩:=List.getElem?_eq_some_iff.1 hm
  simp at hj e
  subst e
  have:=hs k hj
  rwa[List.getD_eq_getElem?_getD,hll]at this
theorem GB.fe {l:List PredP.X} {U:List Str} (h:GB N0 gb G w eb fb n bl vf fl wr) (hT:GT N0 gb G l w) (hu:Ups U fl) (hU:U.length≤1000):FE N0 gb U (PredP.names G) bl fl wr :=
 ⟨(h.gt hT).gm,⟨_,h.g3,row_bools h.e h.lb h.n12⟩,⟨_,h.g4,row_lists h.f h.ls h.lf h.n12⟩,by rw[h.ln,h.lb],by rw[h.ln,h.lf],hu,hU⟩
end
theorem GB.zero (N0 gb:Nat) (G:List Rule) (w:World) (n:Nat) (hn:n≤12) (hl:(PredP.names G).length=n) {f:Nat→Value} (hr:w.rowIs gb 35 7 f) :
  GB N0 gb G w w.heap.size (w.heap.size+1) n (List.replicate n false) (fun _=>.slice none 0 0) (List.replicate n [])
   ((((w.setCell ⟨gb,3,none⟩ (.slice (some ⟨w.heap.size,0,none⟩) n n)).setCell ⟨gb,4,none⟩ (.slice (some ⟨w.heap.size+1,0,none⟩) n n)).alloc (.cells (madeCells #[.bool false] n) 4)).alloc (.cells (madeCells #[.slice none 0 0] n) 27)):=by
 have hg:gb<w.heap.size:=hr.lt
 have g1:=(hr.set 3 (.slice (some ⟨w.heap.size,0,none⟩) n n)).set 4 (.slice (some ⟨w.heap.size+1,0,none⟩) n n)
 have b1:=((But.refl gb w).setCell (p:=⟨gb,3,none⟩) rfl (.slice (some ⟨w.heap.size,0,none⟩) n n)).setCell (p:=⟨gb,4,none⟩) rfl (.slice (some ⟨w.heap.size+1,0,none⟩) n n)
 have s1:((w.setCell ⟨gb,3,none⟩ (.slice (some ⟨w.heap.size,0,none⟩) n n)).setCell ⟨gb,4,none⟩ (.slice (some ⟨w.heap.size+1,0,none⟩) n n)).heap.size=w.heap.size:=by simp[World.setCell]
 generalize (w.setCell ⟨gb,3,none⟩ (.slice (some ⟨w.heap.size,0,none⟩) n n)).setCell ⟨gb,4,none⟩ (.slice (some ⟨w.heap.size+1,0,none⟩) n n)=W1 at g1 b1 s1 ⊢
 have e2:=(World.rowIs_made W1 (.bool false) n 4).alloc (.cells (madeCells #[.slice none 0 0] n) 27)
 have r2:=World.rowIs_made (W1.alloc (.cells (madeCells #[.bool false] n) 4)) (.slice none 0 0) n 27
 have g2:=(g1.alloc (.cells (madeCells #[.bool false] n) 4)).alloc (.cells (madeCells #[.slice none 0 0] n) 27)
 have b2:=(b1.alloc (.cells (madeCells #[.bool false] n) 4)).alloc (.cells (madeCells #[.slice none 0 0] n) 27)
 rw[World.size_alloc]at r2
 rw[s1]at r2 e2
 refine⟨b2,fun k hk=>?_,⟨_,g2⟩,(g2.cell (i:=3) (by omega)).trans (by simp),(g2.cell (i:=4) (by omega)).trans (by simp),Nat.le_refl _,Nat.le_succ _,by omega,hg,e2.congr (fun j hj=>by simp[List.getD_eq_getElem?_getD,hj]),r2,fun j hj=>?_,by simp,by simp,hl,hn⟩
 ·rw[g2.cell (by omega),hr.cell (by omega),if_neg (by omega),if_neg (by omega)]
 ·rw[List.getD_eq_getElem?_getD,List.getElem?_replicate,if_pos hj]
  exact .inl ⟨rfl,rfl⟩
end
section
open Go.RowKit
theorem info_bool:(Tryz.prog.info? 4).map (fun i=>(i.zero,i.size,i.bytes))=some (some (.bool false),1,1):=by kernel_rfl
theorem info_words:(Tryz.prog.info? 27).map (fun i=>(i.zero,i.size,i.bytes))=some (some (.slice none 0 0),1,24):=by kernel_rfl
def B1 (N0 gb:Nat) (G:List Rule) (w:World) (n j i:Nat) (wr:World):Prop :=
 ∃bl,GB N0 gb G w w.heap.size (w.heap.size+1) n bl (fun _=>.slice none 0 0) (List.replicate n []) wr∧PredP.GSI (PredP.names G) (PredP.nulStep G) j i (kOf (PredP.names G) bl)
def B2 (N0 gb:Nat) (U:List Str) (G:List Rule) (w:World) (n:Nat) (bl:List Bool) (j i:Nat) (wr:World):Prop :=
 ∃vf fl,GB N0 gb G w w.heap.size (w.heap.size+1) n bl vf fl wr∧Ups U fl∧∀u,PredP.GSI (PredP.names G) (PredP.fstStep G (PredP.nul G).contains u) j i (hasOf (PredP.names G) fl u)
def BegP (N0 gb:Nat) (U:List Str) (G:List Rule) (w:World) (n:Nat) (bl:List Bool) (vf:Nat→Value) (fl:List (List Str)) (w':World):Prop :=
 GB N0 gb G w w.heap.size (w.heap.size+1) n bl vf fl w'∧Ups U fl∧(∀m,kOf (PredP.names G) bl m=(PredP.nul G).contains m)∧∀u m,hasOf (PredP.names G) fl u m=(PredP.fsts G u).contains m
section
variable {N0 gb:Nat} {U:List Str} {G:List Rule} {w:World} {n:Nat} {wr:World}
theorem B1.step {l:List PredP.X} (ht:PredP.Trees G l) (hnd:(PredP.names G).Nodup) {bl:List Bool} {j i:Nat} {x:PredP.X} (hx:l[i]?=some x) (hg:GB N0 gb G w w.heap.size (w.heap.size+1) n bl (fun _=>.slice none 0 0) (List.replicate n []) wr) (hs:PredP.GSI (PredP.names G) (PredP.nulStep G) j i (kOf (PredP.names G) bl)) :
  B1 N0 gb G w n j (i+1) (wr.setCell ⟨w.heap.size,i,none⟩ (.bool (PredP.derX false (kOf (PredP.names G) bl) x))):=by
 obtain⟨m,hm,hn,_,_⟩:=steps_at ht hnd hx
 obtain⟨q1,q2⟩:=kOf_set (PredP.names G) bl i m (PredP.derX false (kOf (PredP.names G) bl) x) hnd (by rw[hg.ln,hg.lb]) hm
 exact⟨_,hg.setE i _,hs.more (PredP.nulStep_mono G) hm q1 (fun h=>by rw[q2,←hn];exact h) (fun h=>.inr (by rw[q2,←hn]at h;exact h))⟩
theorem B1.next {j i:Nat} (h:B1 N0 gb G w n j i wr) (hi:n≤i):B1 N0 gb G w n (j+1) 0 wr:=by
 obtain⟨bl,hg,hs⟩:=h
 exact⟨bl,hg,hs.next (by rw[hg.ln];exact hi)⟩
theorem B1.end' {i:Nat} (h:B1 N0 gb G w n n i wr):∃bl,GB N0 gb G w w.heap.size (w.heap.size+1) n bl (fun _=>.slice none 0 0) (List.replicate n []) wr∧(∀m,kOf (PredP.names G) bl m=(PredP.nul G).contains m)∧B2 N0 gb U G w n bl 0 0 wr:=by
 obtain⟨bl,hg,hs⟩:=h
 refine⟨bl,hg,fun m=>?_,_,_,hg,⟨fun ll hl=>?_,fun ll hl u hu=>?_⟩,fun u=>PredP.GSI.zero _ _ fun m=>?_⟩
 ·have:=hs
  rw[←hg.ln]at this
  exact this.end m
 ·rw[List.eq_of_mem_replicate hl];exact List.Pairwise.nil
 ·rw[List.eq_of_mem_replicate hl]at hu;cases hu
 ·unfold hasOf;rw[fOf_none];rfl
theorem B2.step {l:List PredP.X} (ht:PredP.Trees G l) (hnd:(PredP.names G).Nodup) {bl:List Bool} {vf:Nat→Value} {fl:List (List Str)} {j i:Nat} {x:PredP.X} (hx:l[i]?=some x) (hwd:wdX U x) (hk:∀m,kOf (PredP.names G) bl m=(PredP.nul G).contains m)
  (hg:GB N0 gb G w w.heap.size (w.heap.size+1) n bl vf fl wr) (hu:Ups U fl) (hs:∀u,PredP.GSI (PredP.names G) (PredP.fstStep G (PredP.nul G).contains u) j i (hasOf (PredP.names G) fl u)) {v:Value} {L:List Str}
  (hL:PredP.Tells L fun u=>PredP.fstX u (hasOf (PredP.names G) fl u) (kOf (PredP.names G) bl) x) (hv:strs wr v (PredP.withS (fl.getD i []) L)):B2 N0 gb U G w n bl j (i+1) (wr.setCell ⟨w.heap.size+1,i,none⟩ v):=by
 obtain⟨m,hm,_,_,hf⟩:=steps_at ht hnd hx
 have hK:kOf (PredP.names G) bl=(PredP.nul G).contains:=funext hk
 rw[hK]at hL
 obtain⟨q1,q2,q3⟩:=fOf_set (PredP.names G) fl i m (PredP.withS (fl.getD i []) L) hnd (by rw[hg.ln,hg.lf]) hm
 have hT:=(hu.tells (ns:=PredP.names G) m)
 rw[q3]at hT
 have hT2:=hT.with hL
 have hin:fl.getD i []∈fl∨fl.getD i []=[]:=by
  rw[←q3];exact(fOf_mem _ fl m).symm
 refine⟨_,_,hg.setF i hv,⟨fun ll hl=>?_,fun ll hl u hu'=>?_⟩,fun u=>(hs u).more (PredP.fstStep_mono G _ u) hm (fun k hk=>by unfold hasOf;rw[q1 k hk]) (fun h=>?_) (fun h=>?_)⟩
 ·rcases List.mem_or_eq_of_mem_set hl with h | h
  ·exact hu.up _ h
  ·rw[h];exact hT2.up
 ·rcases List.mem_or_eq_of_mem_set hl with h | h
  ·exact hu.sub _ h _ hu'
  ·rw[h,PredP.withS_mem]at hu'
   rcases hu' with h' | h'
   ·rcases hin with e | e
    ·exact hu.sub _ e _ h'
    ·rw[e]at h';cases h'
   ·exact fstX_U (fun n hn=>hu.in' hn) x hwd ((hL.mem u).1 h')
 ·unfold hasOf;rw[q2,hT2.is u]
  rw[hf]at h
  simp only[h,Bool.or_true]
 ·unfold hasOf at h;rw[q2,hT2.is u,Bool.or_eq_true]at h
  rcases h with h | h
  ·exact .inl h
  ·exact .inr (by rw[hf];exact h)
theorem B2.next {bl:List Bool} {j i:Nat} (h:B2 N0 gb U G w n bl j i wr) (hi:n≤i):B2 N0 gb U G w n bl (j+1) 0 wr:=by
 obtain⟨vf,fl,hg,hu,hs⟩:=h
 exact⟨vf,fl,hg,hu,fun u=>(hs u).next (by rw[hg.ln];exact hi)⟩
theorem B2.end' {bl:List Bool} {i:Nat} (h:B2 N0 gb U G w n bl n i wr) (hk:∀m,kOf (PredP.names G) bl m=(PredP.nul G).contains m):∃vf fl,BegP N0 gb U G w n bl vf fl wr:=by
 obtain⟨vf,fl,hg,hu,hs⟩:=h
 refine⟨vf,fl,hg,hu,hk,fun u m=>?_⟩
 have:=hs u
 rw[←hg.ln]at this
 exact this.end m
end
theorem begin_x (N0 gb:Nat) (U:List Str) (G:List Rule) (l:List PredP.X) (w:World) (hT:GT N0 gb G l w) {f0:Nat→Value} (hrow:w.rowIs gb 35 7 f0)
  (hnd:(PredP.names G).Nodup) (h12:G.length≤12) (hnm:∀x,x∈l→nmX (PredP.names G) x) (hwd:∀x,x∈l→wdX U x) (hU:U.length≤1000) :
  Calls Tryz.prog 56 #[.pointer (some ⟨gb,0,none⟩)] w fun e w'=>e=.returned (.tuple #[])∧∃bl vf fl,BegP N0 gb U G w G.length bl vf fl w':=by
 obtain⟨vN,c0,hN⟩:=hT.gm.nm
 obtain⟨vE,c2,hE⟩:=hT.exs
 have HT:=hide hT
 have HND:=hide hnd
 have HNM:=hide hnm
 have HWD:=hide hwd
 have HTL:Hid (l.length=G.length):=hide hT.tr.length
 obtain⟨aN,nN,cN,rfl,_,_,hNl,_⟩:=hN.gen
 obtain⟨aE,nE,cE,rfl,_,_,hEl,hEc⟩:=hE.gen
 have eN:nN=G.length:=by have:=hNl;simp[strC,PredP.names]at this;omega
 have eE:nE=G.length:=by have:=hEl;simp[ptrC]at this;have:=HTL.out;omega
 subst eN
 subst eE
 have HGL:Hid ((PredP.names G).length=G.length):=hide (by simp[PredP.names])
 obtain⟨n,hn⟩:∃n,n=G.length:=⟨_,rfl⟩
 rw[←hn]at HTL HGL h12 c0 c2 hEc ⊢
 clear hn hNl hEl hN hE hT hnd hnm hwd
 have HC2:=hide c2
 have HC0:=hide c0
 have HEC:=hide hEc
 have hmk1:=run_make_row' (P:=Tryz.prog) 32 4 (.bool false) 1 (by kernel_rfl) info_bool rfl .i64 .i64 n (by omega) (by omega)
 have hmk2:=run_make_row' (P:=Tryz.prog) 33 27 (.slice none 0 0) 24 (by kernel_rfl) info_words rfl .i64 .i64 n (by omega) (by omega)
 have HG0:=hide (GB.zero N0 gb G w n h12 HGL.out hrow)
 have f3:=hrow.cell (i:=3) (by omega)
 have f4:=hrow.cell (i:=4) (by omega)
 have z3:=hrow.frozen 3
 have z4:=hrow.frozen 4
 have hglt:=hrow.lt
 clear hEc
 go_enter Tryz.func56,Tryz.ntmps56
 go_wp2_with fail
 have hb0:B1 N0 gb G w n 0 0 _:=⟨_,HG0.out,PredP.GSI.zero _ _ (fun m=>kOf_none _ _ m)⟩
 clear hmk1 hmk2 f3 f4 z3 z4 hrow c0 c2
 generalize (((w.setCell ⟨gb,3,none⟩ (.slice (some ⟨w.heap.size,0,none⟩) n n)).setCell ⟨gb,4,none⟩ (.slice (some ⟨w.heap.size+1,0,none⟩) n n)).alloc (.cells (madeCells #[.bool false] n) 4)).alloc (.cells (madeCells #[.slice none 0 0] n) 27)=W0 at hb0 HG0 ⊢
 clear HG0
 go_loopw [29] (fun t wr=>∃j:Nat,j≤n∧t=.int .i64 (j:Int)∧B1 N0 gb G w n j 0 wr) (fun t _=>n - (intOf t).toNat)
 case atStart=>exact⟨0,by omega,rfl,hb0⟩
 case round =>
  clear hb0
  obtain⟨j,hj,rfl,hB⟩:=hrel
  by_cases hj':j<n
  ·have c2:wr.cell? ⟨gb,2,none⟩=some (.slice aE n cE):=by
    obtain⟨_,hG,_⟩:=hB
    exact(hG.c012 2 (by omega)).trans HC2.out
   rcases HEC.out with h0 | ⟨ge,rfl,hok,hge,hecell⟩
   ·omega
   go_wp2_with fail
   clear c2
   go_loopw [36] (fun t wr=>∃i:Nat,i≤n∧t=.int .i64 (i:Int)∧B1 N0 gb G w n j i wr) (fun t _=>n - (intOf t).toNat)
   case atStart=>exact⟨0,by omega,rfl,hB⟩
   case round =>
    clear hB
    obtain⟨i,hi,rfl,hB⟩:=hrel
    by_cases hi':i<n
    ·obtain⟨x,hx⟩:∃x,l[i]?=some x:=⟨l[i]'(by rw[HTL.out];exact hi'),List.getElem?_eq_getElem _⟩
     obtain⟨bl,hG,hS⟩:=hB
     have ex:wr.cell? ⟨ge,i,none⟩=some (.pointer (some ⟨x.id,0,none⟩)):=(hG.but.cell hge hok.2).trans (hecell i _ (by simp[ptrC,hx]))
     have HX:=hide hx
     have HS:=hide hS
     have hGd:=hG.drew
     have d3:=hGd.g3
     clear hx hS
     go_wp2_with fail
     refine wp_region_T (S:=fun W'=>W'.cell? ⟨gb,3,none⟩=some (.slice (some ⟨w.heap.size,0,none⟩) n n)) (t:=9) (by kernel_rfl) d3 ?_
     intro hHeld
     refine tkT 0 ?o0p ?v0p ?i0p hHeld ?_
     case i0p=>(refine⟨?_,?_,Or.inl ⟨?_,?_⟩⟩;simp only[gc3];rfl;exact fun _ _ _ h=>h;rfl;intro W hSW;have q0:=hSW;go_simp;(try with_reducible rfl))
     simp only[Act.put,pu3]
     refine tkT 1 ?o1p ?v1p ?i1p hHeld ?_
     case i1p=>(refine⟨?_,?_,Or.inl ⟨?_,?_⟩⟩;simp only[gc3];rfl;exact fun _ _ _ h=>h;rfl;intro W hSW;have q0:=hSW;go_simp;(try with_reducible rfl))
     simp only[Act.put,pu3]
     refine tkT 2 ?o2p ?v2p ?i2p hHeld ?_
     case i2p=>(refine⟨?_,?_,Or.inl ⟨?_,?_⟩⟩;simp only[gc3];rfl;exact fun _ _ _ h=>h;rfl;intro W hSW;have q0:=hSW;go_simp;(try with_reducible rfl))
     simp only[Act.put,pu3]
     refine tkT 3 ?o3p ?v3p ?i3p hHeld ?_
     case i3p=>(refine⟨?_,?_,Or.inl ⟨?_,?_⟩⟩;simp only[gc3];rfl;exact fun _ _ _ h=>h;rfl;intro W hSW;have q0:=hSW;go_simp;(try with_reducible rfl))
     simp only[Act.put,pu3]
     refine tkT 4 ?o4p ?v4p ?i4p hHeld ?_
     case i4p=>(refine⟨?_,?_,Or.inl ⟨?_,?_⟩⟩;simp only[gc3];rfl;exact fun _ _ _ h=>h;rfl;intro W hSW;have q0:=hSW;go_simp;(try with_reducible rfl))
     simp only[Act.put,pu3]
     refine tkT 5 ?o5p ?v5p ?i5p hHeld ?_
     case i5p=>(refine⟨?_,?_,Or.inl ⟨?_,?_⟩⟩;simp only[gc3];rfl;exact fun _ _ _ h=>h;rfl;intro W hSW;have q0:=hSW;go_simp;(try with_reducible rfl))
     simp only[Act.put,pu3]
     refine tkT 6 ?o6p ?v6p ?i6p hHeld ?_
     case i6p=>(refine⟨?_,?_,Or.inl ⟨?_,?_⟩⟩;simp only[gc3];rfl;exact fun _ _ _ h=>h;rfl;intro W hSW;have q0:=hSW;go_simp;(try with_reducible rfl))
     simp only[Act.put,pu3]
     refine wpAnyT_one (i:=7) (o:=?o7p) (by kernel_rfl) ?i7p (fun K hK=>?c7p)
     case i7p=>(simp only[gc3];rfl)
     go_simp
     go_at_call 83
     refine(nothing_all x _ gb _ bl _ _ _ (hGd.gt HT.out).gm hGd.g3 (row_bools hGd.e hGd.lb hGd.n12) (by rw[hGd.ln,hGd.lb]) ((hGd.gt HT.out).xs i x HX.out) (HNM.out x (List.mem_of_getElem? HX.out))).mono ?_
     rintro e wT ⟨rfl,hbT⟩
     have hGT:=hGd.below hbT
     have t3:=hGT.g3
     have te:=hGT.e.cell hi'
     have tf:=hGT.e.frozen i
     refine hK.out _ _ (fun _=>t3) ?_
     clear hK K
     try simp only[Act.put,pu3]
     refine wpAnyT_one (i:=8) (o:=?o8p) (by kernel_rfl) ?i8p (fun K hK=>?c8p)
     case i8p=>(simp only[gc3];rfl)
     go_simp
     refine hK.out _ _ (fun _=>t3) ?_
     clear hK K
     try simp only[Act.put,pu3]
     refine wpAnyT_one (i:=9) (o:=?o9p) (by kernel_rfl) ?i9p (fun K hK=>?c9p)
     case i9p=>(simp only[gc3];rfl)
     go_simp
     refine hK.out _ _ (fun h=>absurd rfl h) ?_
     clear hK K
     try simp only[Act.put,pu3]
     refine wpAnyT_done (by kernel_rfl) ?_ _
     have hB2:=B1.step HT.out.tr HND.out HX.out hGT HS.out
     generalize wT.setCell ⟨w.heap.size,i,none⟩ (.bool (PredP.derX false (kOf (PredP.names G) bl) x))=wZ at hB2 ⊢
     go_wp2_with fail
     exact⟨⟨i+1,by omega,by go_num,hB2⟩,by simp[intOf];omega⟩
    ·go_wp2_with fail
     exact⟨⟨j+1,by omega,by go_num,hB.next (by omega)⟩,by simp[intOf];omega⟩
  ·have hjn:j=n:=by omega
   subst hjn
   obtain⟨bl,hGe,hk,hb2⟩:=B1.end' (U:=U) hB
   have c0:wr.cell? ⟨gb,0,none⟩=some (.slice aN j cN):=(hGe.c012 0 (by omega)).trans HC0.out
   clear hB
   go_wp2_with fail
   clear c0 hGe
   go_loopw [57] (fun t wr=>∃j':Nat,j'≤j∧t=.int .i64 (j':Int)∧B2 N0 gb U G w j bl j' 0 wr) (fun t _=>j - (intOf t).toNat)
   case atStart=>exact⟨0,by omega,rfl,hb2⟩
   case round =>
    clear hb2
    obtain⟨j',hj2,rfl,hB⟩:=hrel
    by_cases hj3:j'<j
    ·have c2:wr.cell? ⟨gb,2,none⟩=some (.slice aE j cE):=by
      obtain⟨_,_,hG,_⟩:=hB
      exact(hG.c012 2 (by omega)).trans HC2.out
     rcases HEC.out with h0 | ⟨ge,rfl,hok,hge,hecell⟩
     ·omega
     go_wp2_with fail
     clear c2
     go_loopw [64] (fun t wr=>∃i:Nat,i≤j∧t=.int .i64 (i:Int)∧B2 N0 gb U G w j bl j' i wr) (fun t _=>j - (intOf t).toNat)
     case atStart=>exact⟨0,by omega,rfl,hB⟩
     case round =>
      clear hB
      obtain⟨i,hi,rfl,hB⟩:=hrel
      by_cases hi':i<j
      ·obtain⟨x,hx⟩:∃x,l[i]?=some x:=⟨l[i]'(by rw[HTL.out];exact hi'),List.getElem?_eq_getElem _⟩
       obtain⟨vf,fl,hG,hUp,hS⟩:=hB
       have ex:wr.cell? ⟨ge,i,none⟩=some (.pointer (some ⟨x.id,0,none⟩)):=(hG.but.cell hge hok.2).trans (hecell i _ (by simp[ptrC,hx]))
       have HX:=hide hx
       have HS:=hide hS
       have hGd:=hG.drew
       have d4:=hGd.g4
       obtain⟨vi,hvi⟩:∃vi,vi=vf i:=⟨_,rfl⟩
       have HVI:Hid (vf i=vi):=hide hvi.symm
       have di:=(hGd.f.cell hi').trans (by rw[←hvi])
       have HLI:Hid ((fl.getD i []).length≤1000):=hide (by
        by_cases hil:i<fl.length
        ·rw[List.getD_eq_getElem?_getD,List.getElem?_eq_getElem hil]
         exact Nat.le_trans (PredP.rising_le (hUp.up _ (List.getElem_mem hil)) (hUp.sub _ (List.getElem_mem hil))) hU
        ·rw[List.getD_eq_getElem?_getD,List.getElem?_eq_none (by omega)];simp)
       clear hx hS hvi
       go_wp2_with fail
       refine wp_region_T (S:=fun W'=>W'.cell? ⟨gb,4,none⟩=some (.slice (some ⟨w.heap.size+1,0,none⟩) j j)∧W'.cell? ⟨w.heap.size+1,i,none⟩=some vi) (t:=17) (by kernel_rfl) ⟨d4,di⟩ ?_
       intro hHeld
       refine tkT 0 ?o0r ?v0r ?i0r hHeld ?_
       case i0r=>(refine⟨?_,?_,Or.inl ⟨?_,?_⟩⟩;simp only[gc3];rfl;exact fun _ _ _ h=>h;rfl;rintro W ⟨q0,q1⟩;go_simp;(try with_reducible rfl))
       simp only[Act.put,pu3]
       refine tkT 1 ?o1r ?v1r ?i1r hHeld ?_
       case i1r=>(refine⟨?_,?_,Or.inl ⟨?_,?_⟩⟩;simp only[gc3];rfl;exact fun _ _ _ h=>h;rfl;rintro W ⟨q0,q1⟩;go_simp;(try with_reducible rfl))
       simp only[Act.put,pu3]
       refine tkT 2 ?o2r ?v2r ?i2r hHeld ?_
       case i2r=>(refine⟨?_,?_,Or.inl ⟨?_,?_⟩⟩;simp only[gc3];rfl;exact fun _ _ _ h=>h;rfl;rintro W ⟨q0,q1⟩;go_simp;(try with_reducible rfl))
       simp only[Act.put,pu3]
       refine tkT 3 ?o3r ?v3r ?i3r hHeld ?_
       case i3r=>(refine⟨?_,?_,Or.inl ⟨?_,?_⟩⟩;simp only[gc3];rfl;exact fun _ _ _ h=>h;rfl;rintro W ⟨q0,q1⟩;go_simp;(try with_reducible rfl))
       simp only[Act.put,pu3]
       refine tkT 4 ?o4r ?v4r ?i4r hHeld ?_
       case i4r=>(refine⟨?_,?_,Or.inl ⟨?_,?_⟩⟩;simp only[gc3];rfl;exact fun _ _ _ h=>h;rfl;rintro W ⟨q0,q1⟩;go_simp;(try with_reducible rfl))
       simp only[Act.put,pu3]
       refine tkT 5 ?o5r ?v5r ?i5r hHeld ?_
       case i5r=>(refine⟨?_,?_,Or.inl ⟨?_,?_⟩⟩;simp only[gc3];rfl;exact fun _ _ _ h=>h;rfl;rintro W ⟨q0,q1⟩;go_simp;(try with_reducible rfl))
       simp only[Act.put,pu3]
       refine tkT 6 ?o6r ?v6r ?i6r hHeld ?_
       case i6r=>(refine⟨?_,?_,Or.inl ⟨?_,?_⟩⟩;simp only[gc3];rfl;exact fun _ _ _ h=>h;rfl;rintro W ⟨q0,q1⟩;go_simp;(try with_reducible rfl))
       simp only[Act.put,pu3]
       refine tkT 7 ?o7r ?v7r ?i7r hHeld ?_
       case i7r=>(refine⟨?_,?_,Or.inl ⟨?_,?_⟩⟩;simp only[gc3];rfl;exact fun _ _ _ h=>h;rfl;rintro W ⟨q0,q1⟩;go_simp;(try with_reducible rfl))
       simp only[Act.put,pu3]
       refine tkT 8 ?o8r ?v8r ?i8r hHeld ?_
       case i8r=>(refine⟨?_,?_,Or.inl ⟨?_,?_⟩⟩;simp only[gc3];rfl;exact fun _ _ _ h=>h;rfl;rintro W ⟨q0,q1⟩;go_simp;(try with_reducible rfl))
       simp only[Act.put,pu3]
       refine tkT 9 ?o9r ?v9r ?i9r hHeld ?_
       case i9r=>(refine⟨?_,?_,Or.inl ⟨?_,?_⟩⟩;simp only[gc3];rfl;exact fun _ _ _ h=>h;rfl;rintro W ⟨q0,q1⟩;go_simp;(try with_reducible rfl))
       simp only[Act.put,pu3]
       refine tkT 10 ?o10r ?v10r ?i10r hHeld ?_
       case i10r=>(refine⟨?_,?_,Or.inl ⟨?_,?_⟩⟩;simp only[gc3];rfl;exact fun _ _ _ h=>h;rfl;rintro W ⟨q0,q1⟩;go_simp;(try with_reducible rfl))
       simp only[Act.put,pu3]
       refine tkT 11 ?o11r ?v11r ?i11r hHeld ?_
       case i11r=>(refine⟨?_,?_,Or.inl ⟨?_,?_⟩⟩;simp only[gc3];rfl;exact fun _ _ _ h=>h;rfl;rintro W ⟨q0,q1⟩;go_simp;(try with_reducible rfl))
       simp only[Act.put,pu3]
       refine tkT 12 ?o12r ?v12r ?i12r hHeld ?_
       case i12r=>(refine⟨?_,?_,Or.inl ⟨?_,?_⟩⟩;simp only[gc3];rfl;exact fun _ _ _ h=>h;rfl;rintro W ⟨q0,q1⟩;go_simp;(try with_reducible rfl))
       simp only[Act.put,pu3]
       refine tkT 13 ?o13r ?v13r ?i13r hHeld ?_
       case i13r=>(refine⟨?_,?_,Or.inl ⟨?_,?_⟩⟩;simp only[gc3];rfl;exact fun _ _ _ h=>h;rfl;rintro W ⟨q0,q1⟩;go_simp;(try with_reducible rfl))
       simp only[Act.put,pu3]
       refine wpAnyT_one (i:=14) (o:=?o14r) (by kernel_rfl) ?i14r (fun K hK=>?c14r)
       case i14r=>(simp only[gc3];rfl)
       go_simp
       go_at_call 84
       refine(first_all x _ gb U _ bl fl _ _ (hGd.fe HT.out hUp hU) ((hGd.gt HT.out).xs i x HX.out) (HNM.out x (List.mem_of_getElem? HX.out)) (HWD.out x (List.mem_of_getElem? HX.out))).mono ?_
       rintro e wT ⟨vT,LT,rfl,hsT,htT,hbT⟩
       have hGT:=hGd.below hbT
       have t4:=hGT.g4
       have te:=(hGT.f.cell hi').trans (by rw[HVI.out])
       have hlT:LT.length≤1000:=(Nat.le_trans (htT.length (m:=U) (fun u hu=>fstX_U (fun n hn=>hUp.in' hn) x (HWD.out x (List.mem_of_getElem? HX.out)) hu)) hU)
       refine hK.out _ _ (fun _=>⟨t4,te⟩) ?_
       clear hK K
       try simp only[Act.put,pu3]
       refine wpAnyT_one (i:=15) (o:=?o15r) (by kernel_rfl) ?i15r (fun K hK=>?c15r)
       case i15r=>(simp only[gc3];rfl)
       go_simp
       go_at_call 24
       refine(xwith_any _ _ _ (fl.getD i []) LT (HVI.out▸hGT.ls i hi') hsT (by have h1:=hlT;have h2:=HLI.out;omega)).mono ?_
       rintro e wS ⟨vS,rfl,hsS,hbS⟩
       obtain⟨sa,sn,sc,rfl,_⟩:=hsS.gen
       have hGS:=hGT.below hbS
       have s4:=hGS.g4
       have se:=(hGS.f.cell hi').trans (by rw[HVI.out])
       have sf:=hGS.f.frozen i
       refine hK.out _ _ (fun _=>⟨s4,se⟩) ?_
       clear hK K
       try simp only[Act.put,pu3]
       refine wpAnyT_one (i:=16) (o:=?o16r) (by kernel_rfl) ?i16r (fun K hK=>?c16r)
       case i16r=>(simp only[gc3];rfl)
       go_simp
       refine hK.out _ _ (fun _=>⟨s4,se⟩) ?_
       clear hK K
       try simp only[Act.put,pu3]
       refine wpAnyT_one (i:=17) (o:=?o17r) (by kernel_rfl) ?i17r (fun K hK=>?c17r)
       case i17r=>(simp only[gc3];rfl)
       go_simp
       refine hK.out _ _ (fun h=>absurd rfl h) ?_
       clear hK K
       try simp only[Act.put,pu3]
       refine wpAnyT_done (by kernel_rfl) ?_ _
       have hB2:=B2.step HT.out.tr HND.out HX.out (HWD.out x (List.mem_of_getElem? HX.out)) hk hGS hUp HS.out htT hsS
       generalize wS.setCell ⟨w.heap.size+1,i,none⟩ (.slice sa sn sc)=wZ at hB2 ⊢
       go_wp2_with fail
       exact⟨⟨i+1,by omega,by go_num,hB2⟩,by simp[intOf];omega⟩
      ·go_wp2_with fail
       exact⟨⟨j'+1,by omega,by go_num,hB.next (by omega)⟩,by simp[intOf];omega⟩
    ·have hjn:j'=j:=by omega
     subst hjn
     have hP:=hB.end' hk
     go_wp2_with fail
     go_end0
     exact⟨rfl,bl,hP⟩
end
end Go.Proofs.YtpcmemcanpgadaaGreatDoor
