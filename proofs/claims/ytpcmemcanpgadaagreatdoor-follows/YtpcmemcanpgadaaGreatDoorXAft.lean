import Derived.Test.YtpcmemcanpgadaaGreatDoorXDerG
import Derived.Test.YtpcmemcanpgadaaGreatDoorPureX
import Derived.LaidEqlPtr
set_option maxHeartbeats 2000000
set_option maxRecDepth 100000
namespace Go.Proofs.YtpcmemcanpgadaaGreatDoor
open PredP (hide Str Rule bs)
open Go.RowKit
def ctxAt (N0 gb:Nat) (U ns:List Str) (w:World) (k:Nat):PredP.X→PredP.Ctx→Prop
 | x,.top=>xAt (okG N0 gb) (okG N0 gb) w (some (none,k)) x∧nmX ns x∧wdX U x
 | x,.into p i c=>xAt (okG N0 gb) (okG N0 gb) w (some (some p.id,k)) x∧nmX ns x∧wdX U x∧p.kids.list[i]?=some x∧p.kids.ids.Nodup∧ctxAt N0 gb U ns w k p c
theorem ctxAt.below {N0 gb:Nat} {U ns:List Str} {w w':World} {k:Nat} (hb:Below w.heap.size w w'):∀(c:PredP.Ctx) (x:PredP.X),ctxAt N0 gb U ns w k x c→ctxAt N0 gb U ns w' k x c
 | .top,x,h=>by unfold ctxAt at *;exact⟨h.1.below hb,h.2⟩
 | .into p i c,x,h=>by
  unfold ctxAt at *
  exact⟨h.1.below hb,h.2.1,h.2.2.1,h.2.2.2.1,h.2.2.2.2.1,ctxAt.below hb c p h.2.2.2.2.2⟩
theorem ctxAt.self {N0 gb:Nat} {U ns:List Str} {w:World} {k:Nat}:∀{c:PredP.Ctx} {x:PredP.X},ctxAt N0 gb U ns w k x c→(∃tie,xAt (okG N0 gb) (okG N0 gb) w tie x)∧nmX ns x∧wdX U x
 | .top,x,h=>by unfold ctxAt at h;exact⟨⟨_,h.1⟩,h.2⟩
 | .into p i c,x,h=>by unfold ctxAt at h;exact⟨⟨_,h.1⟩,h.2.1,h.2.2.1⟩
structure AE (N0 gb:Nat) (U ns:List Str) (bl:List Bool) (fl al:List (List Str)) (w:World):Prop where
 fe:FE N0 gb U ns bl fl w
 af:∃vB,w.cell? ⟨gb,5,none⟩=some vB∧lists w vB al
 la:ns.length=al.length
 ups:Ups U al
theorem AE.below {N0 gb:Nat} {U ns:List Str} {bl:List Bool} {fl al:List (List Str)} {w w':World} (h:AE N0 gb U ns bl fl al w) (hb:Below w.heap.size w w'):AE N0 gb U ns bl fl al w':=by
 obtain⟨h1,⟨vB,h2,h3⟩,h4,h5⟩:=h
 exact⟨h1.below hb,⟨vB,(hb.cell (p:=⟨gb,5,none⟩) h1.gm.lt).trans h2,h3.below hb⟩,h4,h5⟩
def aAt (al:List (List Str)) (k:Nat) (u:Str):Bool:=(al.getD k []).contains u
def AftC (c:PredP.Ctx):Prop:=∀(x:PredP.X) (N0 gb:Nat) (U ns:List Str) (bl:List Bool) (fl al:List (List Str)) (k:Nat) (w:World),AE N0 gb U ns bl fl al w→k<ns.length→ctxAt N0 gb U ns w k x c →
 Calls Tryz.prog 85 #[.pointer (some ⟨gb,0,none⟩),.pointer (some ⟨x.id,0,none⟩)] w (StrsPost w fun u=>PredP.aftC u (hasOf ns fl u) (kOf ns bl) (aAt al k u) x c)
theorem wdXs_drop {U:List Str}:∀(l:PredP.Xs) (j:Nat),wdXs U l→wdXs U (l.drop j)
 | l,0,h=>by rw[PredP.Xs.drop];exact h
 | .nil,_+1,h=>by rw[PredP.Xs.drop];exact h
 | .cons x l,j+1,h=>by unfold wdXs at h;rw[PredP.Xs.drop];exact wdXs_drop l j h.2
theorem kids_wd {U:List Str} {p:PredP.X} (h:wdX U p):wdXs U p.kids:=by cases p;unfold wdX at h;exact h.2
theorem aftC_U {U:List Str} {u:Str} {f k:Str→Bool} (hf:∀n,f n=true→u∈U) {a:Bool} (ha:a=true→u∈U) {N0 gb:Nat} {ns:List Str} {w:World} {r:Nat}:∀(c:PredP.Ctx) (x:PredP.X),ctxAt N0 gb U ns w r x c→PredP.aftC u f k a x c=true→u∈U
 | .top,x,h,e=>by rw[PredP.aftC]at e;exact ha e
 | .into p i c,x,h,e=>by
  unfold ctxAt at h
  obtain⟨_,_,h3,_,_,h6⟩:=h
  have hp:=h6.self.2.2
  rw[PredP.aftC]at e
  split at e
  ·rw[Bool.or_eq_true,Bool.and_eq_true]at e
   rcases e with e | e
   ·exact fstRow_U hf _ (wdXs_drop _ _ (kids_wd hp)) e
   ·exact aftC_U hf ha c p h6 e.2
  ·rw[Bool.or_eq_true]at e
   rcases e with e | e
   ·exact fstX_U hf x h3 e
   ·exact aftC_U hf ha c p h6 e
  ·exact aftC_U hf ha c p h6 e
theorem Ups.at' {U:List Str} {al:List (List Str)} (h:Ups U al) {k:Nat} {u:Str} (hu:aAt al k u=true):u∈U:=by
 unfold aAt at hu
 cases hk:al[k]? with
 | none=>rw[List.getD_eq_getElem?_getD,hk]at hu;cases hu
 | some ll=>rw[List.getD_eq_getElem?_getD,hk]at hu;exact h.sub ll (List.mem_of_getElem? hk) u (by simpa using hu)
structure XARel (w:World) (f:Str→Str→Bool) (k:Str→Bool) (l:PredP.Xs) (i j:Nat) (v:Value) (wr:World):Prop where
 low:Below w.heap.size w wr
 got:∃L P,strs wr v L∧PredP.Tells L P∧(∀u,PredP.fstRow u (f u) k (l.drop (i+1))=(P u||PredP.fstRow u (f u) k (l.drop (max (i+1) j))))∧PredP.derAll false k (l.drop (i+1))=PredP.derAll false k (l.drop (max (i+1) j))∧(∀u,P u=true→PredP.fstRow u (f u) k (l.drop (i+1))=true)
theorem XARel.zero {w:World} {f:Str→Str→Bool} {k:Str→Bool} {l:PredP.Xs} {i:Nat}:XARel w f k l i 0 (.slice none 0 0) w :=
 ⟨Below.refl _ _,[],fun _=>false,.inl ⟨rfl,rfl⟩,PredP.Tells.nil,fun u=>by rw[Bool.false_or,Nat.max_eq_left (by omega)],by rw[Nat.max_eq_left (by omega)],fun u h=>by cases h⟩
theorem XARel.skip {w:World} {f:Str→Str→Bool} {k:Str→Bool} {l:PredP.Xs} {i j:Nat} {v:Value} {wr:World} (h:XARel w f k l i j v wr) (hj:j≤i):XARel w f k l i (j+1) v wr:=by
 obtain⟨hb,L,P,h1,h2,h3,h4,h5⟩:=h
 have e1:max (i+1) j=i+1:=Nat.max_eq_left (by omega)
 have e2:max (i+1) (j+1)=i+1:=Nat.max_eq_left (by omega)
 rw[e1]at h3 h4
 exact⟨hb,L,P,h1,h2,by rw[e2];exact h3,by rw[e2],h5⟩
theorem ids_apart {l:PredP.Xs} {i j:Nat} {x y:PredP.X} (hn:l.ids.Nodup) (hx:l.list[i]?=some x) (hy:l.list[j]?=some y) (hne:j≠i):y.id≠x.id:=by
 intro e
 rw[PredP.Xs.ids_list]at hn
 have h1:(l.list.map PredP.X.id)[i]?=some x.id:=by simp[hx]
 have h2:(l.list.map PredP.X.id)[j]?=some x.id:=by simp[hy,e]
 have hl1:=(List.getElem?_eq_some_iff.1 h1).1
 have:=(List.getElem?_inj hl1 hn).1 (h1.trans h2.symm)
 omega
theorem xAt.blk {okN okA:Nat→Prop} {w:World} {tie:Option (Option Nat×Nat)} {x:PredP.X} (h:xAt okN okA w tie x):∃cs,w.heap[x.id]?=some (.cells cs 132 (0,0)):=by
 cases x
 unfold xAt at h
 obtain⟨_,_,L,B,U,k,id,hb,_⟩:=h
 exact⟨_,hb⟩
theorem infoExp:(Tryz.prog.info? 132).map (·.size)=some 8:=by kernel_rfl
theorem exp_same (w:World) (a:Addr):(binOp .eql 83 (.pointer (some a)) (.pointer (some a))).run Tryz.prog w=.ok (.bool true) w:=by
 have h:=infoExp
 cases hi:Tryz.prog.info? 132 with
 | none=>rw[hi]at h;cases h
 | some j=>exact run_eql_ptr_same w a Tryz.underlying83 hi
theorem exp_other {okN okA okN' okA':Nat→Prop} {w:World} {t t':Option (Option Nat×Nat)} {x y:PredP.X} (hy:xAt okN okA w t y) (hx:xAt okN' okA' w t' x) (hne:y.id≠x.id):(binOp .eql 83 (.pointer (some ⟨y.id,0,none⟩)) (.pointer (some ⟨x.id,0,none⟩))).run Tryz.prog w=.ok (.bool false) w:=by
 have h:=infoExp
 obtain⟨cy,hcy⟩:=hy.blk
 obtain⟨cx,hcx⟩:=hx.blk
 cases hi:Tryz.prog.info? 132 with
 | none=>rw[hi]at h;cases h
 | some j =>
  rw[hi]at h
  exact run_eql_ptr_other w Tryz.underlying83 hi (by simp at h;omega) (fun e=>hne (by injection e)) hcy hcx
theorem gm_cell {N0 gb:Nat} {ns:List Str} {w:World} (h:GM N0 gb ns w) {w':World} (hb:Below w.heap.size w w') (j:Nat):w'.cell? ⟨gb,j,none⟩=w.cell? ⟨gb,j,none⟩:=hb.cell (p:=⟨gb,j,none⟩) h.lt
theorem after_top:AftC .top:=by
 intro x N0 gb U ns bl fl al k w hE hk hx
 unfold ctxAt at hx
 obtain⟨hx,_⟩:=hx
 obtain⟨i,o,p,s,b,l⟩:=x
 unfold xAt at hx
 obtain⟨hok,hsl,L,B,U0,k0,id0,hblk,hL,hB,htie,hkids⟩:=hx
 obtain⟨rfl,rfl⟩:=htie _ rfl
 have hj1:k<al.length:=by rw[←hE.la];exact hk
 obtain⟨ll,hll⟩:∃ll,al[k]?=some ll:=⟨al[k],List.getElem?_eq_getElem hj1⟩
 obtain⟨vF,d4,vs,hvs,hvl,hve⟩:=hE.af
 obtain⟨ka,kn,kc,rfl,hkm,_,hkl,hkc⟩:=hvs.gen
 unfold maxLen at hkm
 have hkn:vs.length=kn:=by simpa using hkl
 rcases hkc with h0 | ⟨kg,rfl,_,hkg,hkcell⟩
 ·omega
 obtain⟨vj,hvj⟩:∃vj,vs[k]?=some vj:=⟨vs[k]'(by omega),List.getElem?_eq_getElem _⟩
 have e0:w.cell? ⟨kg,k,none⟩=some vj:=hkcell k _ hvj
 have hsj:=hve k vj _ hvj hll
 have hj1':k<kn:=by omega
 obtain⟨sa,sn,sc,rfl,_⟩:=hsj.gen
 have HSJ:=hide hsj
 have HUP:=hide (hE.ups.up ll (List.mem_of_getElem? hll))
 have HLL:=hide hll
 have c5:w.cell? ⟨i,5,none⟩=some (.pointer none):=by simp only[World.cell?,hblk];rfl
 have c6:w.cell? ⟨i,6,none⟩=some (.int .i64 (k:Int)):=by simp only[World.cell?,hblk];rfl
 clear hkcell hkl hkn hj1 hvj hvs hvl hve hsj hll hblk hL hB hkids htie
 simp only[PredP.X.id]
 go_enter Tryz.func85,Tryz.ntmps85
 go_wp2_with fail
 refine wp_region_held_drew (S:=fun W'=>W'.cell? ⟨gb,5,none⟩=some (.slice (some ⟨kg,0,none⟩) kn kc)∧W'.cell? ⟨i,6,none⟩=some (.int .i64 (k:Int))∧W'.cell? ⟨kg,k,none⟩=some (.slice sa sn sc)) (by kernel_rfl) ⟨d4,c6,e0⟩ (fun hHeld=>?_)
 refine tkH 0 ?o0a ?v0a ?i0a hHeld ?_
 case i0a=>(refine⟨?_,?_,Or.inl ⟨?_,?_⟩⟩;simp only[gc3];rfl;exact fun _ _ _ h=>h;rfl;rintro W ⟨q0,q1,q2⟩;go_simp;(try with_reducible rfl))
 simp only[Act.put,pu3]
 refine tkH 1 ?o1a ?v1a ?i1a hHeld ?_
 case i1a=>(refine⟨?_,?_,Or.inl ⟨?_,?_⟩⟩;simp only[gc3];rfl;exact fun _ _ _ h=>h;rfl;rintro W ⟨q0,q1,q2⟩;go_simp;(try with_reducible rfl))
 simp only[Act.put,pu3]
 refine tkH 2 ?o2a ?v2a ?i2a hHeld ?_
 case i2a=>(refine⟨?_,?_,Or.inl ⟨?_,?_⟩⟩;simp only[gc3];rfl;exact fun _ _ _ h=>h;rfl;rintro W ⟨q0,q1,q2⟩;go_simp;(try with_reducible rfl))
 simp only[Act.put,pu3]
 refine tkH 3 ?o3a ?v3a ?i3a hHeld ?_
 case i3a=>(refine⟨?_,?_,Or.inl ⟨?_,?_⟩⟩;simp only[gc3];rfl;exact fun _ _ _ h=>h;rfl;rintro W ⟨q0,q1,q2⟩;go_simp;(try with_reducible rfl))
 simp only[Act.put,pu3]
 refine tkH 4 ?o4a ?v4a ?i4a hHeld ?_
 case i4a=>(refine⟨?_,?_,Or.inl ⟨?_,?_⟩⟩;simp only[gc3];rfl;exact fun _ _ _ h=>h;rfl;rintro W ⟨q0,q1,q2⟩;go_simp;(try with_reducible rfl))
 simp only[Act.put,pu3]
 refine tkH 5 ?o5a ?v5a ?i5a hHeld ?_
 case i5a=>(refine⟨?_,?_,Or.inl ⟨?_,?_⟩⟩;simp only[gc3];rfl;exact fun _ _ _ h=>h;rfl;rintro W ⟨q0,q1,q2⟩;go_simp;(try with_reducible rfl))
 simp only[Act.put,pu3]
 refine tkH 6 ?o6a ?v6a ?i6a hHeld ?_
 case i6a=>(refine⟨?_,?_,Or.inl ⟨?_,?_⟩⟩;simp only[gc3];rfl;exact fun _ _ _ h=>h;rfl;rintro W ⟨q0,q1,q2⟩;go_simp;(try with_reducible rfl))
 simp only[Act.put,pu3]
 refine tkH 7 ?o7a ?v7a ?i7a hHeld ?_
 case i7a=>(refine⟨?_,?_,Or.inl ⟨?_,?_⟩⟩;simp only[gc3];rfl;exact fun _ _ _ h=>h;rfl;rintro W ⟨q0,q1,q2⟩;go_simp;(try with_reducible rfl))
 simp only[Act.put,pu3]
 refine tkH 8 ?o8a ?v8a ?i8a hHeld ?_
 case i8a=>(refine⟨?_,?_,Or.inl ⟨?_,?_⟩⟩;simp only[gc3];rfl;exact fun _ _ _ h=>h;rfl;rintro W ⟨q0,q1,q2⟩;go_simp;(try with_reducible rfl))
 simp only[Act.put,pu3]
 refine tkH 9 ?o9a ?v9a ?i9a hHeld ?_
 case i9a=>(refine⟨?_,?_,Or.inl ⟨?_,?_⟩⟩;simp only[gc3];rfl;exact fun _ _ _ h=>h;rfl;rintro W ⟨q0,q1,q2⟩;go_simp;(try with_reducible rfl))
 simp only[Act.put,pu3]
 refine tkH 10 ?o10a ?v10a ?i10a hHeld ?_
 case i10a=>(refine⟨?_,?_,Or.inl ⟨?_,?_⟩⟩;simp only[gc3];rfl;exact fun _ _ _ h=>h;rfl;rintro W ⟨q0,q1,q2⟩;go_simp;(try with_reducible rfl))
 simp only[Act.put,pu3]
 refine wpAnyH_done (by kernel_rfl) ?_ _
 go_wp2_with fail
 go_ret
 refine⟨_,_,rfl,HSJ.out.drew,⟨HUP.out,fun u=>?_⟩,(Below.refl _ _).drew⟩
 rw[PredP.aftC,aAt,List.getD_eq_getElem?_getD,HLL.out];rfl
theorem after_into (p:PredP.X) (i:Nat) (c:PredP.Ctx) (IH:Hid (AftC c)):AftC (.into p i c):=by
 intro x N0 gb U ns bl fl al k w hE hk hx
 have HA:=hide (fun u=>aftC_U (u:=u) (f:=hasOf ns fl u) (k:=kOf ns bl) (a:=aAt al k u) (fun n hn=>hE.fe.ups.in' hn) (fun h=>hE.ups.at' h) (.into p i c) x hx)
 unfold ctxAt at hx
 obtain⟨hx,hnm,hwd,hpx,hnd,hpc⟩:=hx
 have HPC:=hide hpc
 have HXX:=hide hx
 have HNM:=hide hnm
 have HWD:=hide hwd
 have HPS:=hide hpc.self
 obtain⟨⟨tp,hp⟩,hnp,hwp⟩:=hpc.self
 have HAP:=hide (fun u=>aftC_U (u:=u) (f:=hasOf ns fl u) (k:=kOf ns bl) (a:=aAt al k u) (fun n hn=>hE.fe.ups.in' hn) (fun h=>hE.ups.at' h) c p hpc)
 obtain⟨pi,po,pp,ps,pb,pl⟩:=p
 obtain⟨xi,xo,xp,xs,xb,xl⟩:=x
 simp only[PredP.X.kids]at hpx hnd
 have HPX:=hide hpx
 have HND:=hide hnd
 unfold xAt at hx hp
 obtain⟨_,_,_,_,U0,k0,id0,hblk,_,_,htie,_⟩:=hx
 obtain⟨hU0,hk0⟩:=htie _ rfl
 subst hU0
 obtain⟨_,_,L,B,U1,k1,id1,hpblk,hL,_,_,hkids⟩:=hp
 obtain⟨a,nl,cap,rfl,hm,_,hll,hc⟩:=hL.gen
 unfold maxLen at hm
 have HE:=hide hE
 have hSm:=hE.fe.small
 have hgl:=hE.fe.gm.lt
 have HKD:=hide hkids
 have HC:=hide hc
 have HL:Hid (pl.list.length=nl):=by
  show _=_
  rw[←PredP.Xs.len_ids]
  have:=hll
  simp[ptrC]at this
  exact this
 have hil:i<nl:=by rw[←HL.out];exact(List.getElem?_eq_some_iff.1 hpx).1
 have HK:=hide hk
 have c5:w.cell? ⟨xi,5,none⟩=some (.pointer (some ⟨pi,0,none⟩)):=by simp only[World.cell?,hblk];rfl
 have c0:w.cell? ⟨pi,0,none⟩=some (.string (opB po)):=by simp only[World.cell?,hpblk];rfl
 have c3:w.cell? ⟨pi,3,none⟩=some (.slice a nl cap):=by simp only[World.cell?,hpblk];rfl
 have hlt:pi<w.heap.size:=(Array.getElem?_eq_some_iff.1 hpblk).1
 unfold nmX at hnp
 unfold wdX at hwp
 have HNP:=hide hnp.2
 have HWP:=hide hwp.2
 clear hE hk hpc hnm hwd hpx hnd hblk hpblk hL hkids hc hll htie hk0 hnp hwp
 simp only[PredP.X.id]
 go_enter Tryz.func85,Tryz.ntmps85
 cases po with
 | row =>
  simp only[opB]at c0
  go_wp2_with fail
  go_loopw [6,7,31] (fun v q t wr=>∃j:Nat,j≤nl∧t=.int .i64 j∧q=.bool (decide (i<j))∧XARel w (fun u=>hasOf ns fl u) (kOf ns bl) pl i j v wr) (fun _ _ t _=>nl - (intOf t).toNat)
  case atStart=>exact⟨0,by omega,rfl,rfl,XARel.zero⟩
  case round =>
   obtain⟨j,hj,rfl,rfl,hR⟩:=hrel
   have hb:=hR.low
   have d0:=(hb.cell (p:=⟨pi,0,none⟩) hlt).trans c0
   by_cases hj':j<nl
   ·obtain⟨y,hy⟩:∃y,pl.list[j]?=some y:=⟨pl.list[j]'(by rw[HL.out];exact hj'),List.getElem?_eq_getElem _⟩
    rcases HC.out with h0 | ⟨g,rfl,hokg,hg,hcell⟩
    ·omega
    have k0':wr.cell? ⟨g,j,none⟩=some (.pointer (some ⟨y.id,0,none⟩)):=(hb.cell (p:=⟨g,j,none⟩) hg).trans (hcell j _ (by simp[ptrC,PredP.Xs.ids_list,hy]))
    clear hcell
    rcases Nat.lt_trichotomy j i with hji | hji | hji
    ·have hdi:decide (i<j)=false:=by simp;omega
     have hde:decide (i<j+1)=false:=by simp;omega
     have hne:y.id≠xi:=ids_apart HND.out HPX.out hy (by omega)
     have hneq:(binOp .eql 83 (.pointer (some ⟨y.id,0,none⟩)) (.pointer (some ⟨xi,0,none⟩))).run Tryz.prog wr=.ok (.bool false) wr:=exp_other (x:=.mk xi xo xp xs xb xl) (xAt.below ((xsAt_iff pl).1 HKD.out y (List.mem_of_getElem? hy)) hb) (HXX.out.below hb) hne
     clear hne
     rw[hdi]
     clear hdi hy
     go_wp2_with fail
     exact⟨⟨j+1,by omega,by go_num,by first | rfl | simp[*],hR.skip (by omega)⟩,by simp[intOf];omega⟩
    ·subst hji
     have hdi:decide (j<j)=false:=by simp
     have hy':=HPX.out
     rw[hy]at hy'
     cases hy'
     simp only[PredP.X.id]at k0'
     have hsame:=exp_same wr ⟨xi,0,none⟩
     rw[hdi]
     clear hdi hy
     go_wp2_with fail
     exact⟨⟨j+1,by omega,by go_num,by first | rfl | simp[*],hR.skip (by omega)⟩,by simp[intOf];omega⟩
    ·have hdi:decide (i<j)=true:=by simp;omega
     rw[hdi]
     clear hdi
     obtain⟨_,L,P,hS,hT,hP,hDA,hPi⟩:=hR
     have HP:=hide hP
     have HDA:=hide hDA
     have HPi:=hide hPi
     have hmem:=List.mem_of_getElem? hy
     have HXY:=hide (xAt.below ((xsAt_iff pl).1 HKD.out y hmem) hb)
     have HNY:=hide ((nmXs_iff pl).1 HNP.out y hmem)
     have HWY:=hide ((wdXs_iff pl).1 HWP.out y hmem)
     have HDR:=hide (drop_list pl j y hy)
     have hLU:L.length≤1000:=Nat.le_trans (hT.length (m:=U) (fun u hu=>fstRow_U (fun n hn=>HE.out.fe.ups.in' hn) _ (wdXs_drop _ _ HWP.out) (HPi.out u hu))) hSm
     have HMX:Hid (max (i+1) j=j):=Nat.max_eq_right (by omega)
     have HMY:Hid (max (i+1) (j+1)=j+1):=Nat.max_eq_right (by omega)
     obtain⟨va,vn,vc,rfl,_⟩:=hS.gen
     clear hP hDA hPi hy hmem
     cases hd:PredP.derX false (kOf ns bl) y
     ·have HD:=hide hd
      clear hd
      go_wp2_with (first
       | (go_at_call 83;obtain⟨vK3,hk3,hkb3⟩:=(HE.out.below (Below.all (Below.all hb hb2) hb3)).fe.em;refine(nothing_all y N0 gb ns bl vK3 _ _ (HE.out.below (Below.all (Below.all hb hb2) hb3)).fe.gm hk3 hkb3 HE.out.fe.lb (HXY.out.below (Below.all hb2 hb3)) HNY.out).mono ?_;rintro e w4 ⟨rfl,hb4⟩;rw[HD.out])
       | (go_at_call 24;refine(xwith_any _ _ _ L L2 (hS.below hb2) hs2 (by omega)).mono ?_;rintro e w3 ⟨v3,rfl,hs3,hb3⟩;have ht3:=hT.with ht2;obtain⟨ua,un,uc,rfl,_⟩:=hs3.gen)
       | (go_at_call 84;refine(first_all y N0 gb U ns bl fl _ _ (HE.out.fe.below hb) HXY.out HNY.out HWY.out).mono ?_;rintro e w2 ⟨v2,L2,rfl,hs2,ht2,hb2⟩;have hl2:L2.length≤1000:=(Nat.le_trans (ht2.length (m:=U) (fun u hu=>fstX_U (fun n hn=>HE.out.fe.ups.in' hn) y HWY.out hu)) hSm)))
      go_ret
      refine⟨_,_,rfl,hs3.below hb4,ht3.ext (fun u=>?_),Below.all (Below.all (Below.all hb hb2) hb3) hb4⟩
      have h1:=HP.out u
      have h2:=HDA.out
      rw[HMX.out,HDR.out]at h1 h2
      rw[PredP.fstRow,HD.out,Bool.false_and,Bool.or_false]at h1
      rw[PredP.derAll,HD.out,Bool.false_and]at h2
      rw[PredP.aftC]
      simp only[PredP.X.op,PredP.X.kids]
      rw[h1,h2,Bool.false_and,Bool.or_false]
     ·have HD:=hide hd
      clear hd
      go_wp2_with (first
       | (go_at_call 83;obtain⟨vK3,hk3,hkb3⟩:=(HE.out.below (Below.all (Below.all hb hb2) hb3)).fe.em;refine(nothing_all y N0 gb ns bl vK3 _ _ (HE.out.below (Below.all (Below.all hb hb2) hb3)).fe.gm hk3 hkb3 HE.out.fe.lb (HXY.out.below (Below.all hb2 hb3)) HNY.out).mono ?_;rintro e w4 ⟨rfl,hb4⟩;rw[HD.out])
       | (go_at_call 24;refine(xwith_any _ _ _ L L2 (hS.below hb2) hs2 (by omega)).mono ?_;rintro e w3 ⟨v3,rfl,hs3,hb3⟩;have ht3:=hT.with ht2;obtain⟨ua,un,uc,rfl,_⟩:=hs3.gen)
       | (go_at_call 84;refine(first_all y N0 gb U ns bl fl _ _ (HE.out.fe.below hb) HXY.out HNY.out HWY.out).mono ?_;rintro e w2 ⟨v2,L2,rfl,hs2,ht2,hb2⟩;have hl2:L2.length≤1000:=(Nat.le_trans (ht2.length (m:=U) (fun u hu=>fstX_U (fun n hn=>HE.out.fe.ups.in' hn) y HWY.out hu)) hSm)))
      refine⟨⟨j+1,by omega,by go_num,by first | rfl | (simp;omega),Below.all (Below.all (Below.all hb hb2) hb3) hb4,_,_,hs3.below hb4,ht3,fun u=>?_,?_,fun u hu=>?_⟩,by simp[intOf];omega⟩
      ·have h1:=HP.out u
       rw[HMX.out,HDR.out]at h1
       rw[h1,HMY.out,PredP.fstRow,HD.out,Bool.true_and,Bool.or_assoc]
      ·have h2:=HDA.out
       rw[HMX.out,HDR.out]at h2
       rw[h2,HMY.out,PredP.derAll,HD.out,Bool.true_and]
      ·rw[Bool.or_eq_true]at hu
       rcases hu with hu | hu
       ·exact HPi.out u hu
       ·have h1:=HP.out u
        rw[HMX.out,HDR.out]at h1
        rw[h1,PredP.fstRow,hu];simp
   ·obtain⟨_,L,P,hS,hT,hP,hDA,hPi⟩:=hR
    have HP:=hide hP
    have HDA:=hide hDA
    have HDE:=hide (drop_end pl (max (i+1) j) (by rw[HL.out];omega))
    have hLU:L.length≤1000:=Nat.le_trans (hT.length (m:=U) (fun u hu=>fstRow_U (fun n hn=>HE.out.fe.ups.in' hn) _ (wdXs_drop _ _ HWP.out) (hPi u hu))) hSm
    obtain⟨va,vn,vc,rfl,_⟩:=hS.gen
    clear hP hDA hPi
    go_wp2_with (first
     | (go_at_call 24;refine(xwith_any _ _ _ L L7 (hS.below hb7) hs7 (by omega)).mono ?_;rintro e w8 ⟨v8,rfl,hs8,hb8⟩;have ht8:=hT.with ht7)
     | (go_at_call 85;refine(IH.out (.mk pi .row pp ps pb pl) N0 gb U ns bl fl al k _ (HE.out.below hb) HK.out (ctxAt.below hb c _ HPC.out)).mono ?_;rintro e w7 ⟨v7,L7,rfl,hs7,ht7,hb7⟩;have hl7:L7.length≤1000:=(Nat.le_trans (ht7.length (m:=U) (fun u hu=>HAP.out u hu)) hSm)))
    go_ret
    refine⟨_,_,rfl,hs8,ht8.ext (fun u=>?_),Below.all (Below.all hb hb7) hb8⟩
    have h1:=HP.out u
    have h2:=HDA.out
    rw[HDE.out]at h1 h2
    rw[PredP.fstRow,Bool.or_false]at h1
    rw[PredP.derAll]at h2
    conv=>rhs;rw[PredP.aftC]
    simp only[PredP.X.op,PredP.X.kids]
    rw[h1,h2,Bool.true_and]
 | loop =>
  simp only[opB]at c0
  go_wp2_with fail
  go_loopw [6,7,31] (fun v q t wr=>∃j:Nat,j≤nl∧t=.int .i64 j∧q=.bool (decide (i<j))∧v=.slice none 0 0∧Below w.heap.size w wr) (fun _ _ t _=>nl - (intOf t).toNat)
  case atStart=>exact⟨0,by omega,rfl,rfl,rfl,Below.refl _ _⟩
  case round =>
   obtain⟨j,hj,rfl,rfl,rfl,hb⟩:=hrel
   have d0:=(hb.cell (p:=⟨pi,0,none⟩) hlt).trans c0
   by_cases hj':j<nl
   ·obtain⟨y,hy⟩:∃y,pl.list[j]?=some y:=⟨pl.list[j]'(by rw[HL.out];exact hj'),List.getElem?_eq_getElem _⟩
    rcases HC.out with h0 | ⟨g,rfl,hokg,hg,hcell⟩
    ·omega
    have k0':wr.cell? ⟨g,j,none⟩=some (.pointer (some ⟨y.id,0,none⟩)):=(hb.cell (p:=⟨g,j,none⟩) hg).trans (hcell j _ (by simp[ptrC,PredP.Xs.ids_list,hy]))
    clear hcell
    rcases Nat.lt_trichotomy j i with hji | hji | hji
    ·have hdi:decide (i<j)=false:=by simp;omega
     have hde:decide (i<j+1)=false:=by simp;omega
     have hne:y.id≠xi:=ids_apart HND.out HPX.out hy (by omega)
     have hneq:(binOp .eql 83 (.pointer (some ⟨y.id,0,none⟩)) (.pointer (some ⟨xi,0,none⟩))).run Tryz.prog wr=.ok (.bool false) wr:=exp_other (x:=.mk xi xo xp xs xb xl) (xAt.below ((xsAt_iff pl).1 HKD.out y (List.mem_of_getElem? hy)) hb) (HXX.out.below hb) hne
     clear hne
     rw[hdi]
     clear hdi hy
     go_wp2_with fail
     exact⟨⟨j+1,by omega,by go_num,by first | rfl | simp[*],rfl,hb⟩,by simp[intOf];omega⟩
    ·subst hji
     have hdi:decide (j<j)=false:=by simp
     have hy':=HPX.out
     rw[hy]at hy'
     cases hy'
     simp only[PredP.X.id]at k0'
     have hsame:=exp_same wr ⟨xi,0,none⟩
     rw[hdi]
     clear hdi hy
     go_wp2_with fail
     exact⟨⟨j+1,by omega,by go_num,by first | rfl | simp[*],rfl,hb⟩,by simp[intOf];omega⟩
    ·have hdi:decide (i<j)=true:=by simp;omega
     rw[hdi]
     clear hdi
     clear hy
     go_wp2_with fail
     exact⟨⟨j+1,by omega,by go_num,by first | rfl | (simp;omega),rfl,hb⟩,by simp[intOf];omega⟩
   ·go_wp2_with (first
     | (go_at_call 24;refine(xwith_any _ _ _ (PredP.withS [] L2) L7 (hs3.below hb7) hs7 (by have:=PredP.withS_length L2 [];simp at this;omega)).mono ?_;rintro e w8 ⟨v8,rfl,hs8,hb8⟩;have ht8:=ht3.with ht7)
     | (go_at_call 85;refine(IH.out (.mk pi .loop pp ps pb pl) N0 gb U ns bl fl al k _ (HE.out.below (Below.all (Below.all hb hb2) hb3)) HK.out (ctxAt.below (Below.all (Below.all hb hb2) hb3) c _ HPC.out)).mono ?_;rintro e w7 ⟨v7,L7,rfl,hs7,ht7,hb7⟩;have hl7:L7.length≤1000:=(Nat.le_trans (ht7.length (m:=U) (fun u hu=>HAP.out u hu)) hSm))
     | (go_at_call 24;refine(xwith_any _ _ _ [] L2 (.inl ⟨rfl,rfl⟩) hs2 (by simp;omega)).mono ?_;rintro e w3 ⟨v3,rfl,hs3,hb3⟩;have ht3:=PredP.Tells.nil.with ht2;obtain⟨ua,un,uc,rfl,_⟩:=hs3.gen;have z5:=((Below.all (Below.all hb hb2) hb3).cell (p:=⟨xi,5,none⟩) (bltc c5)).trans c5)
     | (go_at_call 84;refine(first_all (.mk xi xo xp xs xb xl) N0 gb U ns bl fl _ _ (HE.out.fe.below hb) (HXX.out.below hb) HNM.out HWD.out).mono ?_;rintro e w2 ⟨v2,L2,rfl,hs2,ht2,hb2⟩;have hl2:L2.length≤1000:=(Nat.le_trans (ht2.length (m:=U) (fun u hu=>fstX_U (fun n hn=>HE.out.fe.ups.in' hn) _ HWD.out hu)) hSm)))
    go_ret
    refine⟨_,_,rfl,hs8,ht8.ext (fun u=>?_),Below.all (Below.all (Below.all (Below.all hb hb2) hb3) hb7) hb8⟩
    conv=>rhs;rw[PredP.aftC]
    simp only[PredP.X.op,Bool.false_or]
 | bar =>
  simp only[opB]at c0
  go_wp2_with fail
  go_loopw [6,7,31] (fun v q t wr=>∃j:Nat,j≤nl∧t=.int .i64 j∧q=.bool (decide (i<j))∧v=.slice none 0 0∧Below w.heap.size w wr) (fun _ _ t _=>nl - (intOf t).toNat)
  case atStart=>exact⟨0,by omega,rfl,rfl,rfl,Below.refl _ _⟩
  case round =>
   obtain⟨j,hj,rfl,rfl,rfl,hb⟩:=hrel
   have d0:=(hb.cell (p:=⟨pi,0,none⟩) hlt).trans c0
   by_cases hj':j<nl
   ·obtain⟨y,hy⟩:∃y,pl.list[j]?=some y:=⟨pl.list[j]'(by rw[HL.out];exact hj'),List.getElem?_eq_getElem _⟩
    rcases HC.out with h0 | ⟨g,rfl,hokg,hg,hcell⟩
    ·omega
    have k0':wr.cell? ⟨g,j,none⟩=some (.pointer (some ⟨y.id,0,none⟩)):=(hb.cell (p:=⟨g,j,none⟩) hg).trans (hcell j _ (by simp[ptrC,PredP.Xs.ids_list,hy]))
    clear hcell
    rcases Nat.lt_trichotomy j i with hji | hji | hji
    ·have hdi:decide (i<j)=false:=by simp;omega
     have hde:decide (i<j+1)=false:=by simp;omega
     have hne:y.id≠xi:=ids_apart HND.out HPX.out hy (by omega)
     have hneq:(binOp .eql 83 (.pointer (some ⟨y.id,0,none⟩)) (.pointer (some ⟨xi,0,none⟩))).run Tryz.prog wr=.ok (.bool false) wr:=exp_other (x:=.mk xi xo xp xs xb xl) (xAt.below ((xsAt_iff pl).1 HKD.out y (List.mem_of_getElem? hy)) hb) (HXX.out.below hb) hne
     clear hne
     rw[hdi]
     clear hdi hy
     go_wp2_with fail
     exact⟨⟨j+1,by omega,by go_num,by first | rfl | simp[*],rfl,hb⟩,by simp[intOf];omega⟩
    ·subst hji
     have hdi:decide (j<j)=false:=by simp
     have hy':=HPX.out
     rw[hy]at hy'
     cases hy'
     simp only[PredP.X.id]at k0'
     have hsame:=exp_same wr ⟨xi,0,none⟩
     rw[hdi]
     clear hdi hy
     go_wp2_with fail
     exact⟨⟨j+1,by omega,by go_num,by first | rfl | simp[*],rfl,hb⟩,by simp[intOf];omega⟩
    ·have hdi:decide (i<j)=true:=by simp;omega
     rw[hdi]
     clear hdi
     clear hy
     go_wp2_with fail
     exact⟨⟨j+1,by omega,by go_num,by first | rfl | (simp;omega),rfl,hb⟩,by simp[intOf];omega⟩
   ·go_wp2_with (first
     | (go_at_call 24;refine(xwith_any _ _ _ [] L7 (.inl ⟨rfl,rfl⟩) hs7 (by simp;omega)).mono ?_;rintro e w8 ⟨v8,rfl,hs8,hb8⟩;have ht8:=PredP.Tells.nil.with ht7)
     | (go_at_call 85;refine(IH.out (.mk pi .bar pp ps pb pl) N0 gb U ns bl fl al k _ (HE.out.below hb) HK.out (ctxAt.below hb c _ HPC.out)).mono ?_;rintro e w7 ⟨v7,L7,rfl,hs7,ht7,hb7⟩;have hl7:L7.length≤1000:=(Nat.le_trans (ht7.length (m:=U) (fun u hu=>HAP.out u hu)) hSm)))
    go_ret
    refine⟨_,_,rfl,hs8,ht8.ext (fun u=>?_),Below.all (Below.all hb hb7) hb8⟩
    conv=>rhs;rw[PredP.aftC]
    simp only[PredP.X.op,Bool.false_or]
 | opt =>
  simp only[opB]at c0
  go_wp2_with fail
  go_loopw [6,7,31] (fun v q t wr=>∃j:Nat,j≤nl∧t=.int .i64 j∧q=.bool (decide (i<j))∧v=.slice none 0 0∧Below w.heap.size w wr) (fun _ _ t _=>nl - (intOf t).toNat)
  case atStart=>exact⟨0,by omega,rfl,rfl,rfl,Below.refl _ _⟩
  case round =>
   obtain⟨j,hj,rfl,rfl,rfl,hb⟩:=hrel
   have d0:=(hb.cell (p:=⟨pi,0,none⟩) hlt).trans c0
   by_cases hj':j<nl
   ·obtain⟨y,hy⟩:∃y,pl.list[j]?=some y:=⟨pl.list[j]'(by rw[HL.out];exact hj'),List.getElem?_eq_getElem _⟩
    rcases HC.out with h0 | ⟨g,rfl,hokg,hg,hcell⟩
    ·omega
    have k0':wr.cell? ⟨g,j,none⟩=some (.pointer (some ⟨y.id,0,none⟩)):=(hb.cell (p:=⟨g,j,none⟩) hg).trans (hcell j _ (by simp[ptrC,PredP.Xs.ids_list,hy]))
    clear hcell
    rcases Nat.lt_trichotomy j i with hji | hji | hji
    ·have hdi:decide (i<j)=false:=by simp;omega
     have hde:decide (i<j+1)=false:=by simp;omega
     have hne:y.id≠xi:=ids_apart HND.out HPX.out hy (by omega)
     have hneq:(binOp .eql 83 (.pointer (some ⟨y.id,0,none⟩)) (.pointer (some ⟨xi,0,none⟩))).run Tryz.prog wr=.ok (.bool false) wr:=exp_other (x:=.mk xi xo xp xs xb xl) (xAt.below ((xsAt_iff pl).1 HKD.out y (List.mem_of_getElem? hy)) hb) (HXX.out.below hb) hne
     clear hne
     rw[hdi]
     clear hdi hy
     go_wp2_with fail
     exact⟨⟨j+1,by omega,by go_num,by first | rfl | simp[*],rfl,hb⟩,by simp[intOf];omega⟩
    ·subst hji
     have hdi:decide (j<j)=false:=by simp
     have hy':=HPX.out
     rw[hy]at hy'
     cases hy'
     simp only[PredP.X.id]at k0'
     have hsame:=exp_same wr ⟨xi,0,none⟩
     rw[hdi]
     clear hdi hy
     go_wp2_with fail
     exact⟨⟨j+1,by omega,by go_num,by first | rfl | simp[*],rfl,hb⟩,by simp[intOf];omega⟩
    ·have hdi:decide (i<j)=true:=by simp;omega
     rw[hdi]
     clear hdi
     clear hy
     go_wp2_with fail
     exact⟨⟨j+1,by omega,by go_num,by first | rfl | (simp;omega),rfl,hb⟩,by simp[intOf];omega⟩
   ·go_wp2_with (first
     | (go_at_call 24;refine(xwith_any _ _ _ [] L7 (.inl ⟨rfl,rfl⟩) hs7 (by simp;omega)).mono ?_;rintro e w8 ⟨v8,rfl,hs8,hb8⟩;have ht8:=PredP.Tells.nil.with ht7)
     | (go_at_call 85;refine(IH.out (.mk pi .opt pp ps pb pl) N0 gb U ns bl fl al k _ (HE.out.below hb) HK.out (ctxAt.below hb c _ HPC.out)).mono ?_;rintro e w7 ⟨v7,L7,rfl,hs7,ht7,hb7⟩;have hl7:L7.length≤1000:=(Nat.le_trans (ht7.length (m:=U) (fun u hu=>HAP.out u hu)) hSm)))
    go_ret
    refine⟨_,_,rfl,hs8,ht8.ext (fun u=>?_),Below.all (Below.all hb hb7) hb8⟩
    conv=>rhs;rw[PredP.aftC]
    simp only[PredP.X.op,Bool.false_or]
 | word =>
  simp only[opB]at c0
  go_wp2_with fail
  go_loopw [6,7,31] (fun v q t wr=>∃j:Nat,j≤nl∧t=.int .i64 j∧q=.bool (decide (i<j))∧v=.slice none 0 0∧Below w.heap.size w wr) (fun _ _ t _=>nl - (intOf t).toNat)
  case atStart=>exact⟨0,by omega,rfl,rfl,rfl,Below.refl _ _⟩
  case round =>
   obtain⟨j,hj,rfl,rfl,rfl,hb⟩:=hrel
   have d0:=(hb.cell (p:=⟨pi,0,none⟩) hlt).trans c0
   by_cases hj':j<nl
   ·obtain⟨y,hy⟩:∃y,pl.list[j]?=some y:=⟨pl.list[j]'(by rw[HL.out];exact hj'),List.getElem?_eq_getElem _⟩
    rcases HC.out with h0 | ⟨g,rfl,hokg,hg,hcell⟩
    ·omega
    have k0':wr.cell? ⟨g,j,none⟩=some (.pointer (some ⟨y.id,0,none⟩)):=(hb.cell (p:=⟨g,j,none⟩) hg).trans (hcell j _ (by simp[ptrC,PredP.Xs.ids_list,hy]))
    clear hcell
    rcases Nat.lt_trichotomy j i with hji | hji | hji
    ·have hdi:decide (i<j)=false:=by simp;omega
     have hde:decide (i<j+1)=false:=by simp;omega
     have hne:y.id≠xi:=ids_apart HND.out HPX.out hy (by omega)
     have hneq:(binOp .eql 83 (.pointer (some ⟨y.id,0,none⟩)) (.pointer (some ⟨xi,0,none⟩))).run Tryz.prog wr=.ok (.bool false) wr:=exp_other (x:=.mk xi xo xp xs xb xl) (xAt.below ((xsAt_iff pl).1 HKD.out y (List.mem_of_getElem? hy)) hb) (HXX.out.below hb) hne
     clear hne
     rw[hdi]
     clear hdi hy
     go_wp2_with fail
     exact⟨⟨j+1,by omega,by go_num,by first | rfl | simp[*],rfl,hb⟩,by simp[intOf];omega⟩
    ·subst hji
     have hdi:decide (j<j)=false:=by simp
     have hy':=HPX.out
     rw[hy]at hy'
     cases hy'
     simp only[PredP.X.id]at k0'
     have hsame:=exp_same wr ⟨xi,0,none⟩
     rw[hdi]
     clear hdi hy
     go_wp2_with fail
     exact⟨⟨j+1,by omega,by go_num,by first | rfl | simp[*],rfl,hb⟩,by simp[intOf];omega⟩
    ·have hdi:decide (i<j)=true:=by simp;omega
     rw[hdi]
     clear hdi
     clear hy
     go_wp2_with fail
     exact⟨⟨j+1,by omega,by go_num,by first | rfl | (simp;omega),rfl,hb⟩,by simp[intOf];omega⟩
   ·go_wp2_with (first
     | (go_at_call 24;refine(xwith_any _ _ _ [] L7 (.inl ⟨rfl,rfl⟩) hs7 (by simp;omega)).mono ?_;rintro e w8 ⟨v8,rfl,hs8,hb8⟩;have ht8:=PredP.Tells.nil.with ht7)
     | (go_at_call 85;refine(IH.out (.mk pi .word pp ps pb pl) N0 gb U ns bl fl al k _ (HE.out.below hb) HK.out (ctxAt.below hb c _ HPC.out)).mono ?_;rintro e w7 ⟨v7,L7,rfl,hs7,ht7,hb7⟩;have hl7:L7.length≤1000:=(Nat.le_trans (ht7.length (m:=U) (fun u hu=>HAP.out u hu)) hSm)))
    go_ret
    refine⟨_,_,rfl,hs8,ht8.ext (fun u=>?_),Below.all (Below.all hb hb7) hb8⟩
    conv=>rhs;rw[PredP.aftC]
    simp only[PredP.X.op,Bool.false_or]
 | name =>
  simp only[opB]at c0
  go_wp2_with fail
  go_loopw [6,7,31] (fun v q t wr=>∃j:Nat,j≤nl∧t=.int .i64 j∧q=.bool (decide (i<j))∧v=.slice none 0 0∧Below w.heap.size w wr) (fun _ _ t _=>nl - (intOf t).toNat)
  case atStart=>exact⟨0,by omega,rfl,rfl,rfl,Below.refl _ _⟩
  case round =>
   obtain⟨j,hj,rfl,rfl,rfl,hb⟩:=hrel
   have d0:=(hb.cell (p:=⟨pi,0,none⟩) hlt).trans c0
   by_cases hj':j<nl
   ·obtain⟨y,hy⟩:∃y,pl.list[j]?=some y:=⟨pl.list[j]'(by rw[HL.out];exact hj'),List.getElem?_eq_getElem _⟩
    rcases HC.out with h0 | ⟨g,rfl,hokg,hg,hcell⟩
    ·omega
    have k0':wr.cell? ⟨g,j,none⟩=some (.pointer (some ⟨y.id,0,none⟩)):=(hb.cell (p:=⟨g,j,none⟩) hg).trans (hcell j _ (by simp[ptrC,PredP.Xs.ids_list,hy]))
    clear hcell
    rcases Nat.lt_trichotomy j i with hji | hji | hji
    ·have hdi:decide (i<j)=false:=by simp;omega
     have hde:decide (i<j+1)=false:=by simp;omega
     have hne:y.id≠xi:=ids_apart HND.out HPX.out hy (by omega)
     have hneq:(binOp .eql 83 (.pointer (some ⟨y.id,0,none⟩)) (.pointer (some ⟨xi,0,none⟩))).run Tryz.prog wr=.ok (.bool false) wr:=exp_other (x:=.mk xi xo xp xs xb xl) (xAt.below ((xsAt_iff pl).1 HKD.out y (List.mem_of_getElem? hy)) hb) (HXX.out.below hb) hne
     clear hne
     rw[hdi]
     clear hdi hy
     go_wp2_with fail
     exact⟨⟨j+1,by omega,by go_num,by first | rfl | simp[*],rfl,hb⟩,by simp[intOf];omega⟩
    ·subst hji
     have hdi:decide (j<j)=false:=by simp
     have hy':=HPX.out
     rw[hy]at hy'
     cases hy'
     simp only[PredP.X.id]at k0'
     have hsame:=exp_same wr ⟨xi,0,none⟩
     rw[hdi]
     clear hdi hy
     go_wp2_with fail
     exact⟨⟨j+1,by omega,by go_num,by first | rfl | simp[*],rfl,hb⟩,by simp[intOf];omega⟩
    ·have hdi:decide (i<j)=true:=by simp;omega
     rw[hdi]
     clear hdi
     clear hy
     go_wp2_with fail
     exact⟨⟨j+1,by omega,by go_num,by first | rfl | (simp;omega),rfl,hb⟩,by simp[intOf];omega⟩
   ·go_wp2_with (first
     | (go_at_call 24;refine(xwith_any _ _ _ [] L7 (.inl ⟨rfl,rfl⟩) hs7 (by simp;omega)).mono ?_;rintro e w8 ⟨v8,rfl,hs8,hb8⟩;have ht8:=PredP.Tells.nil.with ht7)
     | (go_at_call 85;refine(IH.out (.mk pi .name pp ps pb pl) N0 gb U ns bl fl al k _ (HE.out.below hb) HK.out (ctxAt.below hb c _ HPC.out)).mono ?_;rintro e w7 ⟨v7,L7,rfl,hs7,ht7,hb7⟩;have hl7:L7.length≤1000:=(Nat.le_trans (ht7.length (m:=U) (fun u hu=>HAP.out u hu)) hSm)))
    go_ret
    refine⟨_,_,rfl,hs8,ht8.ext (fun u=>?_),Below.all (Below.all hb hb7) hb8⟩
    conv=>rhs;rw[PredP.aftC]
    simp only[PredP.X.op,Bool.false_or]
theorem after_all:∀c:PredP.Ctx,AftC c
 | .top=>after_top
 | .into p i c=>after_into p i c (hide (after_all c))
theorem tells_x (x:PredP.X) (c:PredP.Ctx) (N0 gb:Nat) (U ns:List Str) (bl:List Bool) (fl al:List (List Str)) (k:Nat) (w:World) (hE:AE N0 gb U ns bl fl al w) (hk:k<ns.length) (hx:ctxAt N0 gb U ns w k x c) :
  Calls Tryz.prog 87 #[.pointer (some ⟨gb,0,none⟩),.pointer (some ⟨x.id,0,none⟩)] w (StrsPost w fun u=>PredP.telX u (hasOf ns fl u) (kOf ns bl) (aAt al k u) x c):=by
 obtain⟨⟨tie,hxx⟩,hnm,hwd⟩:=hx.self
 have HX:=hide hx
 have HXX:=hide hxx
 have HE:=hide hE
 have HNM:=hide hnm
 have HWD:=hide hwd
 have HK:=hide hk
 have hSm:=hE.fe.small
 have HAP:=hide (fun u=>aftC_U (u:=u) (f:=hasOf ns fl u) (k:=kOf ns bl) (a:=aAt al k u) (fun n hn=>hE.fe.ups.in' hn) (fun h=>hE.ups.at' h) c x hx)
 clear hE hk hx hxx hnm hwd
 go_enter Tryz.func87,Tryz.ntmps87
 cases hd:PredP.derX false (kOf ns bl) x
 ·have HD:=hide hd
  clear hd
  go_wp2_with (first
   | (go_at_call 83;obtain⟨vK3,hk3,hkb3⟩:=(HE.out.below (Below.all hb2 hb3)).fe.em;refine(nothing_all x N0 gb ns bl vK3 _ _ (HE.out.below (Below.all hb2 hb3)).fe.gm hk3 hkb3 HE.out.fe.lb (HXX.out.below (Below.all hb2 hb3)) HNM.out).mono ?_;rintro e w4 ⟨rfl,hb4⟩;rw[HD.out])
   | (go_at_call 24;refine(xwith_any _ _ _ [] L2 (.inl ⟨rfl,rfl⟩) hs2 (by simp;omega)).mono ?_;rintro e w3 ⟨v3,rfl,hs3,hb3⟩;have ht3:=PredP.Tells.nil.with ht2;obtain⟨ua,un,uc,rfl,_⟩:=hs3.gen)
   | (go_at_call 84;refine(first_all x N0 gb U ns bl fl _ _ HE.out.fe HXX.out HNM.out HWD.out).mono ?_;rintro e w2 ⟨v2,L2,rfl,hs2,ht2,hb2⟩;have hl2:L2.length≤1000:=(Nat.le_trans (ht2.length (m:=U) (fun u hu=>fstX_U (fun n hn=>HE.out.fe.ups.in' hn) _ HWD.out hu)) hSm)))
  go_ret
  refine⟨_,_,rfl,hs3.below hb4,ht3.ext (fun u=>?_),Below.all (Below.all hb2 hb3) hb4⟩
  rw[PredP.telX,HD.out];simp
 ·have HD:=hide hd
  clear hd
  go_wp2_with (first
   | (go_at_call 24;refine(xwith_any _ _ _ (PredP.withS [] L2) L7 ((hs3.below hb4).below hb7) hs7 (by have:=PredP.withS_length L2 [];simp at this;omega)).mono ?_;rintro e w8 ⟨v8,rfl,hs8,hb8⟩;have ht8:=ht3.with ht7)
   | (go_at_call 85;refine(after_all c x N0 gb U ns bl fl al k _ (HE.out.below (Below.all (Below.all hb2 hb3) hb4)) HK.out (ctxAt.below (Below.all (Below.all hb2 hb3) hb4) c _ HX.out)).mono ?_;rintro e w7 ⟨v7,L7,rfl,hs7,ht7,hb7⟩;have hl7:L7.length≤1000:=(Nat.le_trans (ht7.length (m:=U) (fun u hu=>HAP.out u hu)) hSm))
   | (go_at_call 83;obtain⟨vK3,hk3,hkb3⟩:=(HE.out.below (Below.all hb2 hb3)).fe.em;refine(nothing_all x N0 gb ns bl vK3 _ _ (HE.out.below (Below.all hb2 hb3)).fe.gm hk3 hkb3 HE.out.fe.lb (HXX.out.below (Below.all hb2 hb3)) HNM.out).mono ?_;rintro e w4 ⟨rfl,hb4⟩;rw[HD.out])
   | (go_at_call 24;refine(xwith_any _ _ _ [] L2 (.inl ⟨rfl,rfl⟩) hs2 (by simp;omega)).mono ?_;rintro e w3 ⟨v3,rfl,hs3,hb3⟩;have ht3:=PredP.Tells.nil.with ht2;obtain⟨ua,un,uc,rfl,_⟩:=hs3.gen)
   | (go_at_call 84;refine(first_all x N0 gb U ns bl fl _ _ HE.out.fe HXX.out HNM.out HWD.out).mono ?_;rintro e w2 ⟨v2,L2,rfl,hs2,ht2,hb2⟩;have hl2:L2.length≤1000:=(Nat.le_trans (ht2.length (m:=U) (fun u hu=>fstX_U (fun n hn=>HE.out.fe.ups.in' hn) _ HWD.out hu)) hSm)))
  go_ret
  refine⟨_,_,rfl,hs8,ht8.ext (fun u=>?_),Below.all (Below.all (Below.all (Below.all hb2 hb3) hb4) hb7) hb8⟩
  rw[PredP.telX,HD.out];simp
end Go.Proofs.YtpcmemcanpgadaaGreatDoor
