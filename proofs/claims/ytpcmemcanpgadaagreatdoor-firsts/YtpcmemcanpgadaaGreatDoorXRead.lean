import Derived.Test.YtpcmemcanpgadaaGreatDoorXBad
import Derived.Test.YtpcmemcanpgadaaGreatDoorXLawH
import Derived.Deep.Cut
set_option maxHeartbeats 2000000
set_option maxRecDepth 100000
namespace Go.Proofs.YtpcmemcanpgadaaGreatDoor
open PredP (hide Str Rule bs)
open Go.RowKit
theorem own_tok {w:World} {base n:Nat} {v:Value} {xs:List Value} {e:TypeId} (h:w.ownsRow base e 3 v n xs) (hn:0<n):∃g cap,v=.slice (some ⟨g,0,none⟩) n cap∧base≤g∧g<w.heap.size∧n≤cap∧∀j u,xs[j]?=some u→w.cell? ⟨g,j,none⟩=some u:=by
 rcases h.2 with ⟨_,h0⟩ | ⟨g,cap,cur,hv,hb,hg,hc,_⟩
 ·omega
 ·refine⟨g,cap,hv,hb,(Array.getElem?_eq_some_iff.1 hg).1,hc,fun j u hu=>?_⟩
  have:=h.cells (g:=g) (by rw[hv];rfl) j u hu
  have hadd:(⟨g,0,none⟩:Addr).add j=⟨g,j,none⟩:=by unfold Addr.add;split<;>simp_all
  rwa[hadd]at this
def XTail (v:Value) (w w':World):PredP.Res→Prop
 | .ok G=>∃N0 gb l,v=.pointer (some ⟨gb,0,none⟩)∧w.heap.size≤gb∧GT N0 gb G l w'∧Sets N0 gb G w'
 | _=>v=.pointer none
def XPost (w:World) (r:PredP.Res) (e:Ending) (w':World):Prop :=
 Below w.heap.size w w'∧∃(v:Value) (W A:Nat) (c:ByteArray),e=.returned (.tuple #[v,fltV W A c])∧(W:Int)=whatOf r∧A=atOf r∧bs c=strOf r∧XTail v w w' r
theorem comp_bad {l:Str} {p:Nat} {b:Bool} (hl:l.length≤400) (h:PredP.read l=.bad p b):PredP.compile l=.bad p b:=by unfold PredP.compile;rw[if_neg (by omega),h]
theorem comp_ok {l:Str} {G:List Rule} {t:PredP.Tok} (hl:l.length≤400) (h:PredP.read l=.ok G t):PredP.compile l=PredP.check G:=by unfold PredP.compile;rw[if_neg (by omega),h]
theorem RdR.zero {w wa w1:World} {s:ByteArray} {g cap:Nat} {o:PredP.Out (List Rule)} (ho:PredP.read (bs s)=o) (ha:Below w.heap.size w wa) (hb1:Below wa.heap.size wa w1) (hg:wa.heap.size≤g) (hgl:g<w1.heap.size)
  (htk:∀j u,((PredP.toks (bs s)).flatMap (tokC s))[j]?=some u→w1.cell? ⟨g,j,none⟩=some u) :
  RdR (w1.heap.size+2) w1.heap.size g cap s w o (w1.heap.size+1) ((w1.alloc (.cells #[.slice (some ⟨g,0,none⟩) (PredP.toks (bs s)).length cap,.int .i64 0,.int .i64 0,.int .i64 0,.int .i64 0,.string ⟨#[]⟩] 79)).alloc (gramO (.slice none 0 0) (.slice none 0 0) (.slice none 0 0))) ∧
   XGw (w1.heap.size+2) w1.heap.size g w (w1.heap.size+1):=by
 have hB:Below w1.heap.size w1 ((w1.alloc (.cells #[.slice (some ⟨g,0,none⟩) (PredP.toks (bs s)).length cap,.int .i64 0,.int .i64 0,.int .i64 0,.int .i64 0,.string ⟨#[]⟩] 79)).alloc (gramO (.slice none 0 0) (.slice none 0 0) (.slice none 0 0))):=((Below.refl _ w1).alloc (Nat.le_refl _) _).alloc (by simp) _
 have h0:((w1.alloc (.cells #[.slice (some ⟨g,0,none⟩) (PredP.toks (bs s)).length cap,.int .i64 0,.int .i64 0,.int .i64 0,.int .i64 0,.string ⟨#[]⟩] 79)).alloc (gramO (.slice none 0 0) (.slice none 0 0) (.slice none 0 0))).heap[w1.heap.size]?=some (.cells #[.slice (some ⟨g,0,none⟩) (PredP.toks (bs s)).length cap,.int .i64 0,.int .i64 0,.int .i64 0,.int .i64 0,.string ⟨#[]⟩] 79):=by
  rw[Below.heap_alloc _ _ _ (by simp),heap_alloc_new]
 have h1:((w1.alloc (.cells #[.slice (some ⟨g,0,none⟩) (PredP.toks (bs s)).length cap,.int .i64 0,.int .i64 0,.int .i64 0,.int .i64 0,.string ⟨#[]⟩] 79)).alloc (gramO (.slice none 0 0) (.slice none 0 0) (.slice none 0 0))).heap[w1.heap.size+1]?=some (gramO (.slice none 0 0) (.slice none 0 0) (.slice none 0 0)):=by
  have:=heap_alloc_new (w1.alloc (.cells #[.slice (some ⟨g,0,none⟩) (PredP.toks (bs s)).length cap,.int .i64 0,.int .i64 0,.int .i64 0,.int .i64 0,.string ⟨#[]⟩] 79)) (gramO (.slice none 0 0) (.slice none 0 0) (.slice none 0 0))
  rwa[World.size_alloc]at this
 have hsz:((w1.alloc (.cells #[.slice (some ⟨g,0,none⟩) (PredP.toks (bs s)).length cap,.int .i64 0,.int .i64 0,.int .i64 0,.int .i64 0,.string ⟨#[]⟩] 79)).alloc (gramO (.slice none 0 0) (.slice none 0 0) (.slice none 0 0))).heap.size=w1.heap.size+2:=by rw[World.size_alloc,World.size_alloc]
 have hl1:=ha.size
 have hl2:=hb1.size
 refine⟨⟨0,0,0,_,[],[],[],_,_,_,⟨⟨?_,?_,?_,?_,?_,?_,by omega,?_,by omega,by omega,?_,PredP.toks_zero _⟩,?_,h1,World.ownsRow_nil _ _ _ _,World.ownsRow_nil _ _ _ _,World.ownsRow_nil _ _ _ _,by omega⟩,.inl ⟨rfl,rfl,2 * (bs s).length+1,[],[],⟨?_,?_,?_,?_,rfl,rfl,rfl,rfl,Nat.le_refl _⟩⟩⟩,⟨by omega,by omega,by omega,by omega,by omega,by omega,by omega⟩⟩
 all_goals first | (simp only[World.cell?,h0];rfl) | skip
 ·intro j;simp only[World.frozen?,h0];rfl
 ·intro j u hu
  exact(hB.cell (p:=⟨g,j,none⟩) hgl).trans (htk j u hu)
 ·exact(ha.trans (hb1.mono ha.size)).trans (hB.mono (by omega))
 ·rw[PredP.preG_nil,←ho];rfl
 ·omega
 ·intro x hx;simp at hx
 ·simp
theorem XGG.small {N:Nat} {s:ByteArray} {o:PredP.Out (List Rule)} {wr:World} {t:PredP.Tok} {k:Nat} {names:List Str} {ats ids:List Nat} {vN vA vE:Value} {m:Nat} {acc:List Rule} {l:List PredP.X} (h:XGG N s o wr t k names ats ids vN vA vE m acc l):names.length≤k∧ats.length≤k∧ids.length≤k:=by
 have:=h.short
 refine⟨by rw[h.nm];simpa using this,by rw[h.at'];simpa using this,?_⟩
 rw[h.id',List.length_map,h.rel.length];exact this
theorem own_kept {w W w2:World} {b b' n n':Nat} {e e':TypeId} {v v':Value} {xs xs':List Value} (h:w.ownsRow b e 1 v n xs) (h':w.ownsRow b' e' 1 v' n' xs') (he:e≠e') (hb:Below w.heap.size w W) (hg:W.grownBy w2 v'.ownBlock):w2.ownsRow b e 1 v n xs:=by
 refine own_same h (fun g hv=>?_)
 have hl:=(h.lt g hv).2
 exact(hg.block g (Nat.lt_of_lt_of_le hl hb.size) (fun e=>own_apart h h' he g hv e.symm)).trans (hb.block g hl)
theorem two_ok {l:Str} {t t1 t2:PredP.Tok} {w1 p1 w2 p2 m:Nat} (h1:NF l 0 0 t 97 w1 p1 t1) (h2:NF l w1 p1 t1 61 w2 p2 t2) (hf:t.fits l) (hm:2 * (l.length - t.pos)+1≤m+1):(w2=0→p2=0)∧(w2=0→PredP.Enough l t2 m):=by
 by_cases k1:t.kind=97
 ·obtain⟨rfl,rfl,rfl⟩:=h1.2.1 rfl k1
  by_cases k2:(PredP.tokFrom l t.to).kind=61
  ·obtain⟨rfl,rfl,rfl⟩:=h2.2.1 rfl k2
   refine⟨fun _=>rfl,fun _=>?_⟩
   have a1:=PredP.Tok.on_next hf (by omega)
   have a2:=PredP.Tok.on_next a1.1 (by omega)
   have a3:=hf.2.2 (by omega)
   have a4:=a1.1.2.2 (by omega)
   have a5:=PredP.tokFrom_ge l t.to
   have a6:=PredP.tokFrom_ge l (PredP.tokFrom l t.to).to
   have a7:=hf.2.1
   have a8:=a1.1.2.1
   unfold PredP.Enough
   omega
  ·obtain⟨rfl,rfl⟩:=h2.2.2 rfl k2
   exact⟨(fun h=>by cases h),(fun h=>by cases h)⟩
 ·obtain⟨rfl,rfl⟩:=h1.2.2 rfl k1
  obtain⟨rfl,rfl⟩:=h2.1 (by omega)
  exact⟨(fun h=>by cases h),(fun h=>by cases h)⟩
theorem out_but {r n i what pos:Nat} {w5 w6:World} {o:PredP.Out Rule} {q:PredP.Rows→PredP.Out Rule} (h:(∃p b,o=.bad p b∧what=codeOf b∧pos=p)∨(∃ex,o=q ex∧what=0∧pos=0∧∃x:PredP.X,x.id=i∧PredP.xE ex x∧NewX n w5 x)) (hb:But r w5 w6) (hr:r<n) :
  (∃p b,o=.bad p b∧what=codeOf b∧pos=p)∨(∃ex,o=q ex∧what=0∧pos=0∧∃x:PredP.X,x.id=i∧PredP.xE ex x∧NewX n w6 x):=by
 rcases h with h | ⟨ex,h1,h2,h3,x,h4,h5,h6⟩
 ·exact .inl h
 ·exact .inr ⟨ex,h1,h2,h3,x,h4,h5,h6.but hb hr⟩
theorem textB_size {s:ByteArray} {t:PredP.Tok} (hs:s.size≤400):(textB s t).size≤400:=by
 unfold textB
 split
 ·rw[ByteArray.size_extract];omega
 ·split
  ·rw[ByteArray.size_extract];omega
  ·decide
theorem strC_snoc (l:List Str) (c:ByteArray):strC (l++[bs c])=strC l++[.string c]:=by simp[strC];rfl
theorem intC_snoc (l:List Nat) (c:Nat):intC (l++[c])=intC l++[.int .i64 (c:Int)]:=by simp[intC]
theorem ptrC_snoc (l:List Nat) (c:Nat):ptrC (l++[c])=ptrC l++[.pointer (some ⟨c,0,none⟩)]:=by simp[ptrC]
theorem gram_cell {W w2:World} {gb k:Nat} {a b c u:Value} {row:Option Nat} (h:W.heap[gb]?=some (gramO a b c)) (hv:row≠some gb) (hg:W.grownBy w2 row) (hu:(#[a,b,c,.slice none 0 0,.slice none 0 0,.slice none 0 0,.int .i64 0]:Array Value)[k]?=some u) :
  w2.cell? ⟨gb,k,none⟩=some u∧w2.frozen? ⟨gb,k,none⟩=false:=by
 have e:w2.heap[gb]?=some (gramO a b c):=(hg.block gb (Array.getElem?_eq_some_iff.1 h).1 (fun e=>hv e.symm)).trans h
 constructor
 ·simp only[World.cell?,e];exact hu
 ·simp only[World.frozen?,e];rfl
theorem xread_any (s:ByteArray) (hs:s.size≤400) (w:World) :
  Calls Tryz.prog 20 #[.string s] w (XPost w (PredP.compile (bs s))):=by
 obtain⟨o,ho⟩:∃o,PredP.read (bs s)=o:=⟨_,rfl⟩
 have HO:=hide ho
 have hlen:(PredP.toks (bs s)).length≤401:=by have:=PredP.toks_length (bs s);rw[PredP.bs_length]at this;omega
 have hpos:0<(PredP.toks (bs s)).length:=(List.getElem?_eq_some_iff.1 (PredP.toks_zero (bs s))).1
 have hsi:¬((s.size:Int) > 400):=by omega
 clear ho
 go_enter Tryz.func20,Tryz.ntmps20
 go_wp2_with fail
 refine(tokens_any s hs _).mono ?_
 rintro e w1 ⟨v,rfl,hown,hb1⟩
 obtain⟨g,cap,rfl,hbg,hgl,hcp,htk⟩:=own_tok hown hpos
 have ha:Below w.heap.size w (w.alloc (.cells #[.int .i64 0,.int .i64 0,.string ⟨#[]⟩] 55)):=(Below.refl _ w).alloc (Nat.le_refl _) _
 obtain⟨hrel0,hgw⟩:=RdR.zero (cap:=cap) HO.out (Below.refl _ _) hb1 hbg hgl htk
 obtain⟨wa,hwa⟩:∃wa,wa=w.alloc (.cells #[.int .i64 0,.int .i64 0,.string ⟨#[]⟩] 55):=⟨_,rfl⟩
 have hrb:wa.heap[w.heap.size]?=some (.cells #[.int .i64 0,.int .i64 0,.string ⟨#[]⟩] 55):=by rw[hwa];exact heap_alloc_new w _
 have HSZ:Hid (wa.heap.size=w.heap.size+1):=by show _=_;rw[hwa,World.size_alloc]
 rw[←hwa]at hrel0 hgw hb1 ha hbg hown
 have HHA:=hide ha
 clear hwa ha
 go_wp2_with fail
 change Code.wp _ _ _ _ ((w1.alloc (.cells #[.slice (some ⟨g,0,none⟩) (PredP.toks (bs s)).length cap,.int .i64 0,.int .i64 0,.int .i64 0,.int .i64 0,.string ⟨#[]⟩] 79)).alloc (gramO (.slice none 0 0) (.slice none 0 0) (.slice none 0 0)))
 generalize (w1.alloc (.cells #[.slice (some ⟨g,0,none⟩) (PredP.toks (bs s)).length cap,.int .i64 0,.int .i64 0,.int .i64 0,.int .i64 0,.string ⟨#[]⟩] 79)).alloc (gramO (.slice none 0 0) (.slice none 0 0) (.slice none 0 0))=W0 at hrel0 ⊢
 clear htk hown hb1 hbg hgl
 obtain⟨N,hN⟩:∃N,N=w1.heap.size+2:=⟨_,rfl⟩
 obtain⟨gb,hgb⟩:∃gb,gb=w1.heap.size+1:=⟨_,rfl⟩
 obtain⟨r,hr⟩:∃r,r=w1.heap.size:=⟨_,rfl⟩
 rw[←hN,←hgb,←hr]at hrel0 hgw
 rw[←hgb,←hr]
 clear hN hgb hr
 obtain⟨gbN,rN,gN,gne,gng,lowR,lowG⟩:=id hgw
 obtain⟨iE,hiE,hzE0,hzE1,hzE2⟩:=info_parts infoPExp
 obtain⟨iI,hiI,hzI0,hzI1,hzI2⟩:=info_parts infoI
 obtain⟨iS,hiS,hzS0,hzS1,hzS2⟩:=info_parts infoS
 go_loopw [33] (fun _ wr=>RdR N r g cap s wa o gb wr) (fun _ wr=>xmu r wr)
 case atStart=>exact hrel0
 case round =>
  clear hrel0
  obtain⟨what,pos,k,t,names,ats,ids,vN,vA,vE,hX,hor⟩:=hrel
  have c3:=hX.rd.c3
  have ltr:=hX.rd.lt
  rcases hor with ⟨rfl,rfl,m,acc,l,hG⟩ | ⟨p,b,ho,rfl,rfl⟩
  ·have htk:=hX.rd.tk
   by_cases hk0:t.kind=0
   ·have hyes:=hide (isx_yes htk (by decide) hk0)
    obtain⟨sm1,sm2,sm3⟩:=hG.small
    have hkl:=hX.rd.tok.2.2.2
    have hout:o=.ok acc t:=by rw[hG.out,PredP.rulesF,if_pos hk0];simp[PredP.preG]
    have HRD:=hide (HO.out.trans hout)
    have HCK:=hide (comp_ok (by rw[PredP.bs_length];exact hs) HRD.out)
    obtain⟨lo,hi,hp,hhi⟩:=PredP.read_posG HRD.out
    have hcnt:(l.flatMap PredP.X.all).length≤100000:=by
     have h1:=PredP.nodesG acc l lo hp hG.rel
     have h2:=hG.short
     rw[PredP.bs_length]at hhi
     omega
    have HP:=hide hp
    have HCN:=hide hcnt
    clear hk0 hout hp hhi hcnt
    go_wp2_with fail
    refine(is_any r g cap s k t 0 0 0 _ hX.rd ⟨#[101,110,100]⟩ true (hide (isx_of hyes.out))).mono ?_
    rintro e w2 ⟨rfl,hb2⟩
    obtain⟨hX2,hT2⟩:=hX.through hgw (But.of_below hb2) (hX.rd.below hb2)
    have hG2:XGG N s o w2 t k names ats ids vN vA vE m acc l:=⟨hG.out,hG.enough,hT2 l hG.trees,hG.nd,hG.rel,hG.nm,hG.at',hG.id',hG.short⟩
    have d3:=hX2.rd.c3
    have hgl2:gb<w2.heap.size:=(Array.getElem?_eq_some_iff.1 hX2.gbk).1
    have g2:w2.cell? ⟨gb,2,none⟩=some vE:=by simp only[World.cell?,hX2.gbk];rfl
    obtain⟨aE,cE,hvE,hEc⟩:∃a c,vE=.slice a ids.length c∧(0<ids.length→∃gE,a=some ⟨gE,0,none⟩∧gE<w2.heap.size∧vE.ownBlock=some gE∧∀j u,(ptrC ids)[j]?=some u→w2.cell? ⟨gE,j,none⟩=some u):=by
     rcases hX2.ownE.2 with ⟨h1,h0⟩ | ⟨gE,capE,cur,h1,_,_,_,_⟩
     ·exact⟨none,0,by rw[h1,h0],fun h=>absurd h (by omega)⟩
     ·refine⟨some ⟨gE,0,none⟩,capE,h1,fun _=>⟨gE,rfl,(hX2.ownE.lt gE (by rw[h1];rfl)).2,by rw[h1];rfl,fun j u hu=>?_⟩⟩
      have:=hX2.ownE.cells (g:=gE) (by rw[h1];rfl) j u hu
      have hadd:(⟨gE,0,none⟩:Addr).add j=⟨gE,j,none⟩:=by unfold Addr.add;split<;>simp_all
      rwa[hadd]at this
    obtain⟨OB,hOB⟩:∃OB,OB=[vN,vA,vE]:=⟨_,rfl⟩
    have hlen2:ids.length=l.length:=by rw[hG.id',List.length_map]
    have hl401:l.length≤401:=by have:=hG.short;rw[hG.rel.length];omega
    have HXX:=hide hX2
    have HGG:=hide hG2
    have HEC:=hide hEc
    have HOB:=hide hOB
    have HNDL:=hide hG.nd
    have HALL:Hid (∀b,b∈l.flatMap PredP.X.all→trN N OB b):=hide (fun b hb=>by
     obtain⟨x,hx,hb⟩:=List.mem_flatMap.1 hb
     rw[hOB]
     exact(xAt.ids x none (hG2.trees x hx) b hb).1)
    have HEX:Hid (∀b,b∈l.flatMap PredP.X.all→∃cs f,w2.heap[b]?=some (.cells cs 132 f)):=hide (fun b hb=>by
     obtain⟨x,hx,hb⟩:=List.mem_flatMap.1 hb
     exact xAt.exps x none (hG2.trees x hx) b hb)
    have HT0:Hid (TL (trN N OB) (trA N OB w2) w2 l 0 w2):=hide (TL.zero (by rw[hOB];exact hG2.trees))
    have HNE:Hid (∀b,trA N OB w2 b→noExp w2 b):=hide (fun b h=>h.1.2)
    rw[hvE,hlen2]at g2
    have HVE:=hide hvE
    have HID:=hide hG.id'
    have HL2:=hide hlen2
    clear hX2 hG2 hEc hOB hX hG hT2 hvE hb2 htk ltr c3 hlen2 hyes
    go_wp2_with fail
    clear g2 d3
    go_loopw [8,88] (fun v t wi=>∃(i:Nat) (n':Int),i≤l.length∧t=.int .i64 (i:Int)∧v=.int .i64 n'∧TL (trN N OB) (trA N OB w2) w2 l i wi) (fun _ t _=>l.length - (intOf t).toNat)
    case atStart=>exact⟨0,0,by omega,rfl,rfl,HT0.out⟩
    case round =>
     obtain⟨i,n',hi,rfl,rfl,hTL⟩:=hrel
     by_cases hi':i<l.length
     ·obtain⟨y,hy⟩:∃y,l[i]?=some y:=⟨l[i],List.getElem?_eq_getElem hi'⟩
      obtain⟨gE,rfl,hgE,hoE,hcE⟩:=HEC.out (by rw[HL2.out];omega)
      have hnE:gE∉l.flatMap PredP.X.all:=fun hm=>(HALL.out gE hm).2 vE (by rw[HOB.out];simp) hoE.symm
      have x0:wr.cell? ⟨gE,i,none⟩=some (.pointer (some ⟨y.id,0,none⟩)):=(World.cell?_of_block (w:=w2) (a:=⟨gE,i,none⟩) (hTL.touch.block gE hnE)).trans (hcE i _ (by rw[HID.out];simp[ptrC,hy]))
      have HY:=hide hy
      have HTI:=hide (tie_all y (trN N OB) (trA N OB w2) wr none i n' (hTL.todo i y (Nat.le_refl _) hy) (flat_nodup l HNDL.out y (List.mem_of_getElem? hy)) (hTL.noExp HNE.out HEX.out))
      clear hy hcE hoE hnE
      go_wp2_with (go_at_call 34;refine HTI.out.mono ?_;rintro e w3 ⟨⟨n2,rfl⟩,ht3,hx3⟩)
      exact⟨⟨i+1,n2,by omega,by go_num,rfl,hTL.step HNDL.out HNE.out HEX.out HY.out ht3 hx3⟩,by simp[intOf];omega⟩
     ·have hil:i=l.length:=by omega
      subst hil
      have hgN:=hgw.gbN
      have hlG:=hgw.lowG
      have hwz:=HSZ.out
      have hgA:gb∉l.flatMap PredP.X.all:=fun hm=>by have:=(HALL.out gb hm).1;omega
      have hblk:wr.heap[gb]?=some (gramO vN vA vE):=(hTL.touch.block gb hgA).trans HXX.out.gbk
      have hrow:wr.rowIs gb 35 7 (fun i=>(#[vN,vA,vE,.slice none 0 0,.slice none 0 0,.slice none 0 0,.int .i64 0]:Array Value)[i]?.getD (.int .i64 0)):=⟨_,hblk,rfl,fun i hi=>by rcases i with _ | _ | _ | _ | _ | _ | _ | i<;>first | rfl | omega⟩
      have y6:=hrow.cell (i:=6) (by omega)
      have z6:=hrow.frozen 6
      have y6l:=hrow.lt
      have hsz:=hTL.touch.size
      have hrz:=hrow.set 6 (.int .i64 n')
      have HCZ:Hid (∀k,k<3→(wr.setCell ⟨gb,6,none⟩ (.int .i64 n')).cell? ⟨gb,k,none⟩=w2.cell? ⟨gb,k,none⟩):=hide (fun k hk=>by
       rw[World.cell?_setCell_other _ _ _ _ (fun e=>by injection e with e1 e2;omega)]
       exact World.cell?_of_block (w:=w2) (a:=⟨gb,k,none⟩) (hTL.touch.block gb hgA))
      have HBZ:Hid (∀b,N≤b→b<w2.heap.size→(wr.setCell ⟨gb,6,none⟩ (.int .i64 n')).heap[b]?=wr.heap[b]?):=hide (fun b hb _=>Below.heap_setCell _ _ _ _ (show b≠gb by omega))
      have hzs:(wr.setCell ⟨gb,6,none⟩ (.int .i64 n')).heap.size=w2.heap.size:=by simp[World.setCell,hsz]
      have HTLw:=hide (show TL (trN N [vN,vA,vE]) (trA N [vN,vA,vE] w2) w2 l l.length wr from by rw[←HOB.out];exact hTL)
      have HGTz:=hide (GT.made HXX.out HGG.out hgw HTLw.out (W:=wr.setCell ⟨gb,6,none⟩ (.int .i64 n')) (by omega) HBZ.out HCZ.out HCN.out (by omega))
      have hlt2:Below w.heap.size w2 wr:={ os:=hTL.touch.os,tape:=hTL.touch.tape,output:=hTL.touch.output,size:=by omega,block:=fun b hb=>hTL.touch.block b (fun hm=>by have:=(HALL.out b hm).1;omega) }
      have HLZ:Hid (Below w.heap.size w (wr.setCell ⟨gb,6,none⟩ (.int .i64 n'))):=hide (((Below.all HHA.out HXX.out.low).trans hlt2).setCell (show w.heap.size≤gb by omega) _)
      have hrb2:=(HXX.out.low.block w.heap.size (by omega)).trans hrb
      have HRB:Hid ((wr.setCell ⟨gb,6,none⟩ (.int .i64 n')).heap[w.heap.size]?=some (.cells #[.int .i64 0,.int .i64 0,.string ⟨#[]⟩] 55)):=hide ((Below.heap_setCell _ _ _ _ (show w.heap.size≠gb by omega)).trans ((hTL.touch.block w.heap.size (fun hm=>by have:=(HALL.out _ hm).1;omega)).trans hrb2))
      have HULE:Hid (([]::PredP.allWords acc).length≤1000):=hide (by have:=PredP.read_count HRD.out;rw[PredP.bs_length]at this;rw[List.length_cons];omega)
      clear hblk hrow hlt2 hrb2 hTL
      go_upto_region 22 with fail
      generalize wr.setCell ⟨gb,6,none⟩ (.int .i64 n')=wz at hrz HCZ HBZ hzs HGTz HLZ HRB ⊢
      clear y6 z6 y6l
      go_upto_region 23 with (go_at_call 35;refine(lawful_x _ gb ([]::PredP.allWords acc) acc l _ HGTz.out hrz HP.out (wd_all HGG.out.rel) HULE.out List.mem_cons_self).mono ?_;rintro e w3 ⟨Wl,Al,cl,rfl,hWl,hAl,hcl,hbut3,hc3,hsets⟩;have HWL:=hide hWl;have HAL:=hide hAl;have HCLS:=hide hcl;have HC3:=hide hc3;have HSE:=hide hsets;have HBU:=hide hbut3;clear hWl hAl hcl hc3 hsets hbut3)
      have hb4:Below w3.heap.size w3 (w3.alloc (.cells #[.int .i64 (Wl:Int),.int .i64 (Al:Int),.string cl] 55)):=(Below.refl _ w3).alloc (Nat.le_refl _) _
      have f0:(w3.alloc (.cells #[.int .i64 (Wl:Int),.int .i64 (Al:Int),.string cl] 55)).cell? ⟨w3.heap.size,0,none⟩=some (.int .i64 (Wl:Int)):=cell_fresh rfl
      have f1:(w3.alloc (.cells #[.int .i64 (Wl:Int),.int .i64 (Al:Int),.string cl] 55)).cell? ⟨w3.heap.size,1,none⟩=some (.int .i64 (Al:Int)):=cell_fresh rfl
      have f2:(w3.alloc (.cells #[.int .i64 (Wl:Int),.int .i64 (Al:Int),.string cl] 55)).cell? ⟨w3.heap.size,2,none⟩=some (.string cl):=cell_fresh rfl
      generalize w3.alloc (.cells #[.int .i64 (Wl:Int),.int .i64 (Al:Int),.string cl] 55)=w4 at hb4 f0 f1 f2 ⊢
      have hs3:=HBU.out.size
      have hgz:gb<wz.heap.size:=hrz.lt
      have hrbz:w.heap.size<wz.heap.size:=(Array.getElem?_eq_some_iff.1 HRB.out).1
      have hr4:w4.heap[w.heap.size]?=some (.cells #[.int .i64 0,.int .i64 0,.string ⟨#[]⟩] 55):=(hb4.block _ (by omega)).trans ((HBU.out.block _ hrbz (by omega)).trans HRB.out)
      have hres:w4.rowIs w.heap.size 55 3 (fun i=>(#[.int .i64 0,.int .i64 0,.string ⟨#[]⟩]:Array Value)[i]?.getD (.int .i64 0)):=⟨_,hr4,rfl,fun i hi=>by rcases i with _ | _ | _ | i<;>first | rfl | omega⟩
      have k0:=hres.cell (i:=0) (by omega)
      have k1:=hres.cell (i:=1) (by omega)
      have k2:=hres.cell (i:=2) (by omega)
      have z0:=hres.frozen 0
      have z1:=hres.frozen 1
      have z2:=hres.frozen 2
      have hlt4:=hres.lt
      have hl3:Below w.heap.size wz w3:={ os:=HBU.out.os,tape:=HBU.out.tape,output:=HBU.out.output,size:=hs3,block:=fun b hb=>HBU.out.block b (by omega) (by omega) }
      have hl4:Below w.heap.size w w4:=(HLZ.out.trans hl3).trans (hb4.mono (by omega))
      have HL5:Hid (Below w.heap.size w (((w4.drew.setCell ⟨w.heap.size,0,none⟩ (.int .i64 (Wl:Int))).setCell ⟨w.heap.size,1,none⟩ (.int .i64 (Al:Int))).setCell ⟨w.heap.size,2,none⟩ (.string cl))):=hide (((hl4.drew.setCell (by simp) _).setCell (by simp) _).setCell (by simp) _)
      have hoff:But w.heap.size w4 (((w4.drew.setCell ⟨w.heap.size,0,none⟩ (.int .i64 (Wl:Int))).setCell ⟨w.heap.size,1,none⟩ (.int .i64 (Al:Int))).setCell ⟨w.heap.size,2,none⟩ (.string cl)):=(((But.refl _ w4).drew.setCell (p:=⟨w.heap.size,0,none⟩) rfl _).setCell (p:=⟨w.heap.size,1,none⟩) rfl _).setCell (p:=⟨w.heap.size,2,none⟩) rfl _
      have hg3:gb<w3.heap.size:=by omega
      have HGT5:=hide (GT.made HXX.out HGG.out hgw HTLw.out (W:=((w4.drew.setCell ⟨w.heap.size,0,none⟩ (.int .i64 (Wl:Int))).setCell ⟨w.heap.size,1,none⟩ (.int .i64 (Al:Int))).setCell ⟨w.heap.size,2,none⟩ (.string cl)) (by have:=hoff.size;have:=hb4.size;omega)
       (fun b hb hl=>(hoff.block b (by have:=hb4.size;omega) (by omega)).trans ((hb4.block b (by omega)).trans ((HBU.out.block b (by omega) (by omega)).trans (HBZ.out b hb hl))))
       (fun k hk=>(hoff.cell (by have:=hb4.size;omega) (by omega)).trans ((hb4.cell (p:=⟨gb,k,none⟩) hg3).trans ((HC3.out k hk).trans (HCZ.out k hk)))) HCN.out (by omega))
      by_cases hW0:Wl=0
      ·obtain⟨G',hG'⟩:∃G',PredP.check acc=.ok G':=by
        have h1:=HWL.out
        rw[hW0]at h1
        cases hc:PredP.check acc with
        | ok G'=>exact⟨G',rfl⟩
        | bad p d=>rw[hc]at h1;cases d<;>simp[whatOf]at h1
        | _=>rw[hc]at h1;simp[whatOf]at h1
       have hGe:=(PredP.check_ok hG').1
       subst hGe
       have hS5:=((HSE.out _ hG').below hg3 hb4).off (by have:=hb4.size;omega) hoff (by omega) (by omega) (fun cs f e=>by rw[hr4]at e;simp at e)
       have HFIN:Hid (XTail (.pointer (some ⟨gb,0,none⟩)) w (((w4.drew.setCell ⟨w.heap.size,0,none⟩ (.int .i64 (Wl:Int))).setCell ⟨w.heap.size,1,none⟩ (.int .i64 (Al:Int))).setCell ⟨w.heap.size,2,none⟩ (.string cl)) (PredP.compile (bs s))):=hide (by rw[HCK.out,hG'];exact⟨_,gb,l,rfl,by omega,HGT5.out,hS5⟩)
       clear hG' hS5 hr4 hres hoff hl3 hl4 hb4 hrb
       subst hW0
       go_upto_region 25 with fail
       refine wp_region_T (S:=fun W'=>W'.cell? ⟨w3.heap.size,0,none⟩=some (.int .i64 ((0:Nat):Int))∧W'.cell? ⟨w3.heap.size,1,none⟩=some (.int .i64 (Al:Int))∧W'.cell? ⟨w3.heap.size,2,none⟩=some (.string cl)) (t:=3) (by kernel_rfl) ⟨f0,f1,f2⟩ ?_
       intro hHeld
       refine tkT 0 ?o0g ?v0g ?i0g hHeld ?_
       case i0g=>(refine⟨?_,?_,Or.inl ⟨?_,?_⟩⟩;simp only[gc3];rfl;exact fun _ _ _ h=>h;rfl;rintro W ⟨q0,q1,q2⟩;go_simp;(try with_reducible rfl))
       simp only[Act.put,pu3]
       refine tkT 1 ?o1g ?v1g ?i1g hHeld ?_
       case i1g=>(refine⟨?_,?_,Or.inl ⟨?_,?_⟩⟩;simp only[gc3];rfl;exact fun _ _ _ h=>h;rfl;rintro W ⟨q0,q1,q2⟩;go_simp;(try with_reducible rfl))
       simp only[Act.put,pu3]
       refine wpAnyT_one (i:=2) (o:=?o2g) (by kernel_rfl) ?i2g (fun K hK=>?c2g)
       case i2g=>(simp only[gc3];rfl)
       go_simp
       refine hK.out _ _ (fun _=>⟨f0,f1,f2⟩) ?_
       clear hK K
       try simp only[Act.put,pu3]
       refine wpAnyT_one (i:=3) (o:=?o3g) (by kernel_rfl) ?i3g (fun K hK=>?c3g)
       case i3g=>(simp only[gc3];rfl)
       go_simp
       refine hK.out _ _ (fun h=>absurd rfl h) ?_
       clear hK K
       try simp only[Act.put,pu3]
       refine wpAnyT_done (by kernel_rfl) ?_ _
       go_wp2_with fail
       exact bodyPost_ret (v:=.tuple #[.pointer (some ⟨gb,0,none⟩),fltV 0 Al cl]) (by simp[results,Tryz.results20,go_sem,k0,k1,k2]) rfl ⟨HL5.out,.pointer (some ⟨gb,0,none⟩),0,Al,cl,rfl,by rw[HCK.out];exact HWL.out,by rw[HCK.out];exact HAL.out,by rw[HCK.out];exact HCLS.out,HFIN.out⟩
      ·have HFIN:Hid (XTail (.pointer none) w (((w4.drew.setCell ⟨w.heap.size,0,none⟩ (.int .i64 (Wl:Int))).setCell ⟨w.heap.size,1,none⟩ (.int .i64 (Al:Int))).setCell ⟨w.heap.size,2,none⟩ (.string cl)) (PredP.compile (bs s))):=hide (by
        have h1:=HWL.out
        rw[HCK.out]
        cases hc:PredP.check acc with
        | ok G'=>rw[hc]at h1;simp[whatOf]at h1;exact absurd h1 hW0
        | _=>rfl)
       have hWp:0<Wl:=by omega
       clear hr4 hres hoff hl3 hl4 hb4 hrb
       go_upto_region 24 with fail
       refine wp_region_T (S:=fun W'=>W'.cell? ⟨w3.heap.size,0,none⟩=some (.int .i64 (Wl:Int))∧W'.cell? ⟨w3.heap.size,1,none⟩=some (.int .i64 (Al:Int))∧W'.cell? ⟨w3.heap.size,2,none⟩=some (.string cl)) (t:=2) (by kernel_rfl) ⟨f0,f1,f2⟩ ?_
       intro hHeld
       refine tkT 0 ?o0h ?v0h ?i0h hHeld ?_
       case i0h=>(refine⟨?_,?_,Or.inl ⟨?_,?_⟩⟩;simp only[gc3];rfl;exact fun _ _ _ h=>h;rfl;rintro W ⟨q0,q1,q2⟩;go_simp;(try with_reducible rfl))
       simp only[Act.put,pu3]
       refine wpAnyT_one (i:=1) (o:=?o1h) (by kernel_rfl) ?i1h (fun K hK=>?c1h)
       case i1h=>(simp only[gc3];rfl)
       go_simp
       refine hK.out _ _ (fun _=>⟨f0,f1,f2⟩) ?_
       clear hK K
       try simp only[Act.put,pu3]
       refine wpAnyT_one (i:=2) (o:=?o2h) (by kernel_rfl) ?i2h (fun K hK=>?c2h)
       case i2h=>(simp only[gc3];rfl)
       go_simp
       refine hK.out _ _ (fun h=>absurd rfl h) ?_
       clear hK K
       try simp only[Act.put,pu3]
       refine wpAnyT_done (by kernel_rfl) ?_ _
       go_wp2_with fail
       exact bodyPost_ret (v:=.tuple #[.pointer none,fltV Wl Al cl]) (by simp[results,Tryz.results20,go_sem,k0,k1,k2]) rfl ⟨HL5.out,.pointer none,Wl,Al,cl,rfl,by rw[HCK.out];exact HWL.out,by rw[HCK.out];exact HAL.out,by rw[HCK.out];exact HCLS.out,HFIN.out⟩
   ·have hne:=hide (isx_not htk (by decide) hk0)
    have HK0:=hide hk0
    obtain⟨sm1,sm2,sm3⟩:=hG.small
    have hkl:=hX.rd.tok.2.2.2
    clear hk0
    go_wp2_with fail
    refine(is_any r g cap s k t 0 0 0 _ hX.rd ⟨#[101,110,100]⟩ false (hide (isx_of hne.out))).mono ?_
    rintro e w2 ⟨rfl,hb2⟩
    have hx2:=hX.rd.below hb2
    go_wp2_with fail
    refine(need_out r g cap s k t 0 0 0 _ hx2 hs 97 (by decide) (by decide)).mono ?_
    rintro e w3 ⟨rfl,hbut3,k3,t3,what3,pos3,hx3,f1,f2,f3⟩
    have F1:Hid (NF (bs s) 0 0 t 97 what3 pos3 t3):=⟨f1,fun a b=>⟨(f2 a b).1,(f2 a b).2.1,(f2 a b).2.2.2⟩,f3⟩
    clear f1 f2 f3
    have hz2:=hb2.size
    have hz3:=hbut3.size
    unfold tokA
    go_wp2_with fail
    have hBb:Below w3.heap.size w3 (w3.alloc (.cells #[.string (kindB t.kind),.string (textB s t),.int .i64 (t.pos:Int)] 81)):=(Below.refl _ w3).alloc (Nat.le_refl _) _
    have b1:(w3.alloc (.cells #[.string (kindB t.kind),.string (textB s t),.int .i64 (t.pos:Int)] 81)).cell? ⟨w3.heap.size,1,none⟩=some (.string (textB s t)):=cell_fresh rfl
    have b2:(w3.alloc (.cells #[.string (kindB t.kind),.string (textB s t),.int .i64 (t.pos:Int)] 81)).cell? ⟨w3.heap.size,2,none⟩=some (.int .i64 (t.pos:Int)):=cell_fresh rfl
    have hzb:(w3.alloc (.cells #[.string (kindB t.kind),.string (textB s t),.int .i64 (t.pos:Int)] 81)).heap.size=w3.heap.size+1:=World.size_alloc _ _
    have hlb:w3.heap.size<(w3.alloc (.cells #[.string (kindB t.kind),.string (textB s t),.int .i64 (t.pos:Int)] 81)).heap.size:=by omega
    generalize w3.alloc (.cells #[.string (kindB t.kind),.string (textB s t),.int .i64 (t.pos:Int)] 81)=wb at hBb b1 b2 hzb hlb ⊢
    clear hzb
    obtain⟨tb,htb⟩:∃tb,tb=w3.heap.size:=⟨_,rfl⟩
    rw[←htb]at b1 b2 hlb hz3 ⊢
    have htr:tb≠r:=by rw[htb];have:=hx3.lt;omega
    have hNr:=hX.size
    have htg:tb≠gb:=by omega
    clear htb
    refine(need_out r g cap s k3 t3 0 what3 pos3 _ (hx3.below hBb) hs 61 (by decide) (by decide)).mono ?_
    rintro e w4 ⟨rfl,hbut4,k4,t4,what4,pos4,hx4,f1,f2,f3⟩
    have F2:Hid (NF (bs s) what3 pos3 t3 61 what4 pos4 t4):=⟨f1,fun a b=>⟨(f2 a b).1,(f2 a b).2.1,(f2 a b).2.2.2⟩,f3⟩
    clear f1 f2 f3
    have hz4:=hbut4.size
    have hmm:=hG.enough
    obtain⟨m',rfl⟩:∃m',m=m'+1:=⟨m - 1,by omega⟩
    have hq4:(what4=0→pos4=0)∧(what4=0→PredP.Enough (bs s) t4 m'):=two_ok F1.out F2.out (PredP.toks_next htk).1.fits hmm
    have HQ4:=hide hq4
    clear hmm hq4 htk
    go_wp2_with fail
    refine(choice_out r g cap s hs k4 t4 0 what4 pos4 m' _ hx4 HQ4.out.1 (by omega) HQ4.out.2).mono ?_
    rintro e w5 ⟨i,k5,t5,what5,pos5,rfl,hbut5,hi5,hx5,HC⟩
    have hz5:=hbut5.size
    go_wp2_with fail
    refine(need_out r g cap s k5 t5 0 what5 pos5 _ hx5 hs 46 (by decide) (by decide)).mono ?_
    rintro e w6 ⟨rfl,hbut6,k6,t6,what6,pos6,hx6,f1,f2,f3⟩
    have F4:Hid (NF (bs s) what5 pos5 t5 46 what6 pos6 t6):=⟨f1,fun a b=>⟨(f2 a b).1,(f2 a b).2.1,(f2 a b).2.2.2⟩,f3⟩
    clear f1 f2 f3
    have hz6:=hbut6.size
    have HOUT:=hide (rule_out (P:=fun ex=>∃x:PredP.X,x.id=i∧PredP.xE ex x∧NewX w4.heap.size w5 x) F1.out F2.out HC.out F4.out)
    clear HC
    have hbAll:But r wr w6:=(((((But.of_below hb2).trans hbut3).trans (But.of_below hBb)).trans hbut4).trans hbut5).trans hbut6
    have hb46:=(hbut4.trans hbut5).trans hbut6
    have d1:=(hb46.cell (b:=tb) (o:=1) hlb htr).trans b1
    have d2:=(hb46.cell (b:=tb) (o:=2) hlb htr).trans b2
    have htl:tb<w6.heap.size:=by omega
    obtain⟨hX6,hT6⟩:=hX.through hgw hbAll hx6
    have g0:w6.cell? ⟨gb,0,none⟩=some vN:=by simp only[World.cell?,hX6.gbk];rfl
    have hgl6:gb<w6.heap.size:=(Array.getElem?_eq_some_iff.1 hX6.gbk).1
    have hnN:=gram_no hX6.gbk hX6.ownN (by decide)
    have htN:vN.ownBlock≠some tb:=fun e=>by have:=(hX.ownN.lt tb e).2;omega
    have hN6:=hX6.size
    have hWX:∀o:Obj,(w6.drew.alloc o).heap[gb]?=some (gramO vN vA vE):=fun o=>(Below.heap_alloc w6.drew o gb hgl6).trans hX6.gbk
    have HWX:=hide hWX
    have hON:w6.drew.ownsRow N 9 1 vN names.length (strC names):=hX6.ownN
    clear hWX b1 b2
    go_wp2_with fail
    refine wp_region_T (S:=fun W'=>W'.cell? ⟨gb,0,none⟩=some vN∧W'.cell? ⟨tb,1,none⟩=some (.string (textB s t))) (t:=11) (by kernel_rfl) ⟨g0,d1⟩ ?_
    intro hHeld
    refine tkT 0 ?o0j ?v0j ?i0j hHeld ?_
    case i0j=>(refine⟨?_,?_,Or.inl ⟨?_,?_⟩⟩;simp only[gc3];rfl;exact fun _ _ _ h=>h;rfl;rintro W ⟨q0,q1⟩;go_simp;(try with_reducible rfl))
    simp only[Act.put,pu3]
    refine tkT 1 ?o1j ?v1j ?i1j hHeld ?_
    case i1j=>(refine⟨?_,?_,Or.inl ⟨?_,?_⟩⟩;simp only[gc3];rfl;exact fun _ _ _ h=>h;rfl;rintro W ⟨q0,q1⟩;go_simp;(try with_reducible rfl))
    simp only[Act.put,pu3]
    refine tkT 2 ?o2j ?v2j ?i2j hHeld ?_
    case i2j=>(refine⟨?_,?_,Or.inl ⟨?_,?_⟩⟩;simp only[gc3];rfl;exact fun _ _ _ h=>h;rfl;rintro W ⟨q0,q1⟩;go_simp;(try with_reducible rfl))
    simp only[Act.put,pu3]
    refine tkT 3 ?o3j ?v3j ?i3j hHeld ?_
    case i3j=>(refine⟨?_,?_,Or.inl ⟨?_,?_⟩⟩;simp only[gc3];rfl;exact fun _ _ _ h=>h;rfl;rintro W ⟨q0,q1⟩;go_simp;(try with_reducible rfl))
    simp only[Act.put,pu3]
    refine tkT 4 ?o4j ?v4j ?i4j hHeld ?_
    case i4j=>(refine⟨?_,?_,Or.inl ⟨?_,?_⟩⟩;simp only[gc3];rfl;exact fun _ _ _ h=>h;rfl;rintro W ⟨q0,q1⟩;go_simp;(try with_reducible rfl))
    simp only[Act.put,pu3]
    refine tkT 5 ?o5j ?v5j ?i5j hHeld ?_
    case i5j=>(refine⟨?_,?_,Or.inl ⟨?_,?_⟩⟩;simp only[gc3];rfl;exact fun _ _ _ h=>h;rfl;rintro W ⟨q0,q1⟩;go_simp;(try with_reducible rfl))
    simp only[Act.put,pu3]
    refine tkT 6 ?o6j ?v6j ?i6j hHeld ?_
    case i6j=>(refine⟨?_,?_,Or.inl ⟨?_,?_⟩⟩;simp only[gc3];rfl;exact fun _ _ _ h=>h;rfl;rintro W ⟨q0,q1⟩;go_simp;(try with_reducible rfl))
    simp only[Act.put,pu3]
    refine wpAnyT_one (i:=7) (o:=?o7j) (by kernel_rfl) ?i7j (fun K hK=>?c7j)
    case i7j=>(simp only[gc3];rfl)
    go_simp
    refine hK.out _ _ (fun _=>⟨al (w:=w6.drew) g0,al (w:=w6.drew) d1⟩) ?_
    clear hK K
    try simp only[Act.put,pu3]
    refine wpAnyT_one (i:=8) (o:=?o8j) (by kernel_rfl) ?i8j (fun K hK=>?c8j)
    case i8j=>(simp only[gc3];rfl)
    refine step_append_own_at rfl _ _ _ rfl N 9 iS (.string ByteArray.empty) 1 16 (by kernel_rfl) hiS hzS0 hzS1 hzS2 rfl (by decide) vN names.length (strC names) rfl (hON.alloc _) _ 1 1 [_] rfl rfl (cell_one_new _ _ _) (by simp[Value.oneCell']) (by unfold maxLen;omega) (by omega) (by simp;omega) ?_
    intro vN' wp hownp hgrowp hlocp
    obtain⟨gN',capN,rfl⟩:=Joins.ownsRow_form hownp (by omega)
    obtain⟨y0,yf⟩:=gram_cell (k:=0) (HWX.out _) hnN hgrowp rfl
    have y1:=grow_cell (al (w:=w6.drew) d1) htN hgrowp
    have y2:=grow_cell (al (w:=w6.drew) d2) htN hgrowp
    refine hK.out _ _ (fun _=>⟨y0,y1⟩) ?_
    clear hK K
    try simp only[Act.put,pu3]
    refine wpAnyT_one (i:=9) (o:=?o9j) (by kernel_rfl) ?i9j (fun K hK=>?c9j)
    case i9j=>(simp only[gc3];rfl)
    go_simp
    refine hK.out _ _ (fun _=>⟨y0,y1⟩) ?_
    clear hK K
    try simp only[Act.put,pu3]
    refine wpAnyT_one (i:=10) (o:=?o10j) (by kernel_rfl) ?i10j (fun K hK=>?c10j)
    case i10j=>(simp only[gc3];rfl)
    go_simp
    refine hK.out _ _ (fun _=>⟨y0,y1⟩) ?_
    clear hK K
    try simp only[Act.put,pu3]
    refine wpAnyT_one (i:=11) (o:=?o11j) (by kernel_rfl) ?i11j (fun K hK=>?c11j)
    case i11j=>(simp only[gc3];rfl)
    go_simp
    refine hK.out _ _ (fun h=>absurd rfl h) ?_
    clear hK K
    try simp only[Act.put,pu3]
    refine wpAnyT_done (by kernel_rfl) ?_ _
    have hBW:Below w6.heap.size w6 (w6.drew.alloc (.cells #[.string (textB s t)] 9)):=(Below.refl _ w6).drew.alloc (Nat.le_refl _) _
    obtain⟨hX7,hT7⟩:=hX6.grown (names':=names++[bs (textB s t)]) (ats':=ats) (ids':=ids) (vN':=.slice (some ⟨gN',0,none⟩) (names.length+1) capN) (vA':=vA) (vE':=vE) (j:=0) hgw hBW hgrowp rfl (fun b hb=>(hX6.ownN.lt b hb).1) hnN hlocp rfl (by rw[strC_snoc,List.length_append];exact hownp) (own_kept hX6.ownA hX6.ownN (by decide) hBW hgrowp) (own_kept hX6.ownE hX6.ownN (by decide) hBW hgrowp) (by simp) (by simp)
    have e2:=((But.refl gb wp).setCell (p:=⟨gb,0,none⟩) rfl (.slice (some ⟨gN',0,none⟩) (names.length+1) capN)).cell (b:=tb) (o:=2) (bltc y2) (by omega)
    rw[y2]at e2
    have hz7:w6.heap.size≤(wp.setCell ⟨gb,0,none⟩ (.slice (some ⟨gN',0,none⟩) (names.length+1) capN)).heap.size:=by
     have h1:(w6.alloc (.cells #[.string (textB s t)] 9)).heap.size≤wp.heap.size:=hgrowp.size
     rw[World.size_alloc]at h1
     have h3:=((But.refl gb wp).setCell (p:=⟨gb,0,none⟩) rfl (.slice (some ⟨gN',0,none⟩) (names.length+1) capN)).size
     omega
    generalize wp.setCell ⟨gb,0,none⟩ (.slice (some ⟨gN',0,none⟩) (names.length+1) capN)=w7 at hX7 hT7 e2 hz7 ⊢
    clear y0 y1 y2 yf HWX hON g0 d1 d2
    obtain⟨vN1,hvN1⟩:∃v,v=Value.slice (some ⟨gN',0,none⟩) (names.length+1) capN:=⟨_,rfl⟩
    rw[←hvN1]at hX7 hT7
    clear hvN1 hownp hlocp hgrowp hnN htN
    have g1:w7.cell? ⟨gb,1,none⟩=some vA:=by simp only[World.cell?,hX7.gbk];rfl
    have hgl7:gb<w7.heap.size:=(Array.getElem?_eq_some_iff.1 hX7.gbk).1
    have hnA:=gram_no hX7.gbk hX7.ownA (by decide)
    have htA:vA.ownBlock≠some tb:=fun e=>by have:=(hX.ownA.lt tb e).2;omega
    have hN7:=hX7.size
    have hWX:∀o:Obj,(w7.drew.alloc o).heap[gb]?=some (gramO vN1 vA vE):=fun o=>(Below.heap_alloc w7.drew o gb hgl7).trans hX7.gbk
    have HWX:=hide hWX
    have hOA:w7.drew.ownsRow N 3 1 vA ats.length (intC ats):=hX7.ownA
    clear hWX
    go_wp2_with fail
    refine wp_region_T (S:=fun W'=>W'.cell? ⟨gb,1,none⟩=some vA∧W'.cell? ⟨tb,2,none⟩=some (.int .i64 (t.pos:Int))) (t:=11) (by kernel_rfl) ⟨g1,e2⟩ ?_
    intro hHeld
    refine tkT 0 ?o0l ?v0l ?i0l hHeld ?_
    case i0l=>(refine⟨?_,?_,Or.inl ⟨?_,?_⟩⟩;simp only[gc3];rfl;exact fun _ _ _ h=>h;rfl;rintro W ⟨q0,q1⟩;go_simp;(try with_reducible rfl))
    simp only[Act.put,pu3]
    refine tkT 1 ?o1l ?v1l ?i1l hHeld ?_
    case i1l=>(refine⟨?_,?_,Or.inl ⟨?_,?_⟩⟩;simp only[gc3];rfl;exact fun _ _ _ h=>h;rfl;rintro W ⟨q0,q1⟩;go_simp;(try with_reducible rfl))
    simp only[Act.put,pu3]
    refine tkT 2 ?o2l ?v2l ?i2l hHeld ?_
    case i2l=>(refine⟨?_,?_,Or.inl ⟨?_,?_⟩⟩;simp only[gc3];rfl;exact fun _ _ _ h=>h;rfl;rintro W ⟨q0,q1⟩;go_simp;(try with_reducible rfl))
    simp only[Act.put,pu3]
    refine tkT 3 ?o3l ?v3l ?i3l hHeld ?_
    case i3l=>(refine⟨?_,?_,Or.inl ⟨?_,?_⟩⟩;simp only[gc3];rfl;exact fun _ _ _ h=>h;rfl;rintro W ⟨q0,q1⟩;go_simp;(try with_reducible rfl))
    simp only[Act.put,pu3]
    refine tkT 4 ?o4l ?v4l ?i4l hHeld ?_
    case i4l=>(refine⟨?_,?_,Or.inl ⟨?_,?_⟩⟩;simp only[gc3];rfl;exact fun _ _ _ h=>h;rfl;rintro W ⟨q0,q1⟩;go_simp;(try with_reducible rfl))
    simp only[Act.put,pu3]
    refine tkT 5 ?o5l ?v5l ?i5l hHeld ?_
    case i5l=>(refine⟨?_,?_,Or.inl ⟨?_,?_⟩⟩;simp only[gc3];rfl;exact fun _ _ _ h=>h;rfl;rintro W ⟨q0,q1⟩;go_simp;(try with_reducible rfl))
    simp only[Act.put,pu3]
    refine tkT 6 ?o6l ?v6l ?i6l hHeld ?_
    case i6l=>(refine⟨?_,?_,Or.inl ⟨?_,?_⟩⟩;simp only[gc3];rfl;exact fun _ _ _ h=>h;rfl;rintro W ⟨q0,q1⟩;go_simp;(try with_reducible rfl))
    simp only[Act.put,pu3]
    refine wpAnyT_one (i:=7) (o:=?o7l) (by kernel_rfl) ?i7l (fun K hK=>?c7l)
    case i7l=>(simp only[gc3];rfl)
    go_simp
    refine hK.out _ _ (fun _=>⟨al (w:=w7.drew) g1,al (w:=w7.drew) e2⟩) ?_
    clear hK K
    try simp only[Act.put,pu3]
    refine wpAnyT_one (i:=8) (o:=?o8l) (by kernel_rfl) ?i8l (fun K hK=>?c8l)
    case i8l=>(simp only[gc3];rfl)
    refine step_append_own_at rfl _ _ _ rfl N 3 iI (.int .i64 0) 1 8 (by kernel_rfl) hiI hzI0 hzI1 hzI2 rfl (by decide) vA ats.length (intC ats) rfl (hOA.alloc _) _ 1 1 [_] rfl rfl (cell_one_new _ _ _) (by simp[Value.oneCell']) (by unfold maxLen;omega) (by omega) (by simp;omega) ?_
    intro vA' wp hownp hgrowp hlocp
    obtain⟨gA',capA,rfl⟩:=Joins.ownsRow_form hownp (by omega)
    obtain⟨y0,yf⟩:=gram_cell (k:=1) (HWX.out _) hnA hgrowp rfl
    have y1:=grow_cell (al (w:=w7.drew) e2) htA hgrowp
    refine hK.out _ _ (fun _=>⟨y0,y1⟩) ?_
    clear hK K
    try simp only[Act.put,pu3]
    refine wpAnyT_one (i:=9) (o:=?o9l) (by kernel_rfl) ?i9l (fun K hK=>?c9l)
    case i9l=>(simp only[gc3];rfl)
    go_simp
    refine hK.out _ _ (fun _=>⟨y0,y1⟩) ?_
    clear hK K
    try simp only[Act.put,pu3]
    refine wpAnyT_one (i:=10) (o:=?o10l) (by kernel_rfl) ?i10l (fun K hK=>?c10l)
    case i10l=>(simp only[gc3];rfl)
    go_simp
    refine hK.out _ _ (fun _=>⟨y0,y1⟩) ?_
    clear hK K
    try simp only[Act.put,pu3]
    refine wpAnyT_one (i:=11) (o:=?o11l) (by kernel_rfl) ?i11l (fun K hK=>?c11l)
    case i11l=>(simp only[gc3];rfl)
    go_simp
    refine hK.out _ _ (fun h=>absurd rfl h) ?_
    clear hK K
    try simp only[Act.put,pu3]
    refine wpAnyT_done (by kernel_rfl) ?_ _
    have hBW:Below w7.heap.size w7 (w7.drew.alloc (.cells #[.int .i64 (t.pos:Int)] 3)):=(Below.refl _ w7).drew.alloc (Nat.le_refl _) _
    obtain⟨hX8,hT8⟩:=hX7.grown (names':=names++[bs (textB s t)]) (ats':=ats++[t.pos]) (ids':=ids) (vN':=vN1) (vA':=.slice (some ⟨gA',0,none⟩) (ats.length+1) capA) (vE':=vE) (j:=1) hgw hBW hgrowp rfl (fun b hb=>(hX7.ownA.lt b hb).1) hnA hlocp rfl (own_kept hX7.ownN hX7.ownA (by decide) hBW hgrowp) (by rw[intC_snoc,List.length_append];exact hownp) (own_kept hX7.ownE hX7.ownA (by decide) hBW hgrowp) (by simp) (by simp)
    have hz8:w7.heap.size≤(wp.setCell ⟨gb,1,none⟩ (.slice (some ⟨gA',0,none⟩) (ats.length+1) capA)).heap.size:=by
     have h1:(w7.alloc (.cells #[.int .i64 (t.pos:Int)] 3)).heap.size≤wp.heap.size:=hgrowp.size
     rw[World.size_alloc]at h1
     have h3:=((But.refl gb wp).setCell (p:=⟨gb,1,none⟩) rfl (.slice (some ⟨gA',0,none⟩) (ats.length+1) capA)).size
     omega
    generalize wp.setCell ⟨gb,1,none⟩ (.slice (some ⟨gA',0,none⟩) (ats.length+1) capA)=w8 at hX8 hT8 hz8 ⊢
    clear y0 y1 yf HWX hOA g1 e2
    obtain⟨vA1,hvA1⟩:∃v,v=Value.slice (some ⟨gA',0,none⟩) (ats.length+1) capA:=⟨_,rfl⟩
    rw[←hvA1]at hX8 hT8
    clear hvA1 hownp hlocp hgrowp hnA htA
    have g2:w8.cell? ⟨gb,2,none⟩=some vE:=by simp only[World.cell?,hX8.gbk];rfl
    have hgl8:gb<w8.heap.size:=(Array.getElem?_eq_some_iff.1 hX8.gbk).1
    have hnE:=gram_no hX8.gbk hX8.ownE (by decide)
    have hN8:=hX8.size
    have HX8:=hide hX8.gbk
    have hOE:=hX8.ownE
    go_wp2_with (at_builtin;refine wpList_append_own_at _ rfl _ _ _ rfl N 83 iE (.pointer none) 1 8 (by kernel_rfl) hiE hzE0 hzE1 hzE2 rfl (by decide) vE ids.length (ptrC ids) rfl (hOE.alloc _) _ 1 1 [_] rfl rfl (cell_one_new _ _ _) (by simp[Value.oneCell']) (by unfold maxLen;omega) (by omega) (by simp;omega) ?_;intro vE' wq hownq hgrowq _ hlocq;obtain⟨gE',capE,rfl⟩:=Joins.ownsRow_form hownq (by omega);obtain⟨y0,yf⟩:=gram_cell (k:=2) ((Below.heap_alloc w8 _ gb hgl8).trans HX8.out) hnE hgrowq rfl)
    have hBW:Below w8.heap.size w8 (w8.alloc (.cells #[.pointer (some ⟨i,0,none⟩)] 83)):=(Below.refl _ w8).alloc (Nat.le_refl _) _
    obtain⟨hX9,hT9⟩:=hX8.grown (names':=names++[bs (textB s t)]) (ats':=ats++[t.pos]) (ids':=ids++[i]) (vN':=vN1) (vA':=vA1) (vE':=.slice (some ⟨gE',0,none⟩) (ids.length+1) capE) (j:=2) hgw hBW hgrowq rfl (fun b hb=>(hX8.ownE.lt b hb).1) hnE hlocq rfl (own_kept hX8.ownN hX8.ownE (by decide) hBW hgrowq) (own_kept hX8.ownA hX8.ownE (by decide) hBW hgrowq) (by rw[ptrC_snoc,List.length_append];exact hownq) (by simp) (by simp)
    refine RdR.next (n0:=w4.heap.size) hs hX hG HK0.out hx6 (out_but HOUT.out hbut6 (by have:=hx4.lt;omega)) (by omega) hT6 hX9 (fun l h=>hT9 l (hT8 l (hT7 l h))) (fun h97=>?_)
    rw[textB,if_pos h97,bs_extract]
  ·have hc4:=hX.rd.c4
   have hc5:=hX.rd.c5
   have HCK:=hide (comp_bad (by rw[PredP.bs_length];exact hs) (HO.out.trans ho))
   have hrb':wr.heap[w.heap.size]?=some (.cells #[.int .i64 0,.int .i64 0,.string ⟨#[]⟩] 55):=(hX.low.block _ (by have:=HSZ.out;omega)).trans hrb
   have hres:wr.rowIs w.heap.size 55 3 (fun i=>(#[.int .i64 0,.int .i64 0,.string ⟨#[]⟩]:Array Value)[i]?.getD (.int .i64 0)):=⟨_,hrb',rfl,fun i hi=>by rcases i with _ | _ | _ | i<;>first | rfl | omega⟩
   have hlw:Below w.heap.size w wr.drew:=(Below.all HHA.out hX.low).drew
   have k0:=hres.cell (i:=0) (by omega)
   have k1:=hres.cell (i:=1) (by omega)
   have k2:=hres.cell (i:=2) (by omega)
   have z0:=hres.frozen 0
   have z1:=hres.frozen 1
   have z2:=hres.frozen 2
   have hlt:=hres.lt
   have d3:wr.drew.cell? ⟨r,3,none⟩=some (.int .i64 ((codeOf b:Nat):Int)):=c3
   have d4:wr.drew.cell? ⟨r,4,none⟩=some (.int .i64 ((pos:Nat):Int)):=hc4
   have d5:wr.drew.cell? ⟨r,5,none⟩=some (.string ⟨#[]⟩):=hc5
   clear hX ho hrb hrb' hres
   cases b with
   | false =>
    simp only[codeOf,Bool.false_eq_true,if_false]at c3 d3
    go_upto_region 14 with fail
    refine wp_region_T (S:=fun W'=>W'.cell? ⟨r,3,none⟩=some (.int .i64 ((4:Nat):Int))∧W'.cell? ⟨r,4,none⟩=some (.int .i64 ((pos:Nat):Int))∧W'.cell? ⟨r,5,none⟩=some (.string ⟨#[]⟩)) (t:=5) (by kernel_rfl) ⟨d3,d4,d5⟩ ?_
    intro hHeld
    refine tkT 0 ?o0b ?v0b ?i0b hHeld ?_
    case i0b=>(refine⟨?_,?_,Or.inl ⟨?_,?_⟩⟩;simp only[gc3];rfl;exact fun _ _ _ h=>h;rfl;rintro W ⟨q0,q1,q2⟩;go_simp;(try with_reducible rfl))
    simp only[Act.put,pu3]
    refine tkT 1 ?o1b ?v1b ?i1b hHeld ?_
    case i1b=>(refine⟨?_,?_,Or.inl ⟨?_,?_⟩⟩;simp only[gc3];rfl;exact fun _ _ _ h=>h;rfl;rintro W ⟨q0,q1,q2⟩;go_simp;(try with_reducible rfl))
    simp only[Act.put,pu3]
    refine tkT 2 ?o2b ?v2b ?i2b hHeld ?_
    case i2b=>(refine⟨?_,?_,Or.inl ⟨?_,?_⟩⟩;simp only[gc3];rfl;exact fun _ _ _ h=>h;rfl;rintro W ⟨q0,q1,q2⟩;go_simp;(try with_reducible rfl))
    simp only[Act.put,pu3]
    refine tkT 3 ?o3b ?v3b ?i3b hHeld ?_
    case i3b=>(refine⟨?_,?_,Or.inl ⟨?_,?_⟩⟩;simp only[gc3];rfl;exact fun _ _ _ h=>h;rfl;rintro W ⟨q0,q1,q2⟩;go_simp;(try with_reducible rfl))
    simp only[Act.put,pu3]
    refine wpAnyT_one (i:=4) (o:=?o4b) (by kernel_rfl) ?i4b (fun K hK=>?c4b)
    case i4b=>(simp only[gc3];rfl)
    go_simp
    refine hK.out _ _ (fun _=>⟨d3,d4,d5⟩) ?_
    clear hK K
    try simp only[Act.put,pu3]
    refine wpAnyT_one (i:=5) (o:=?o5b) (by kernel_rfl) ?i5b (fun K hK=>?c5b)
    case i5b=>(simp only[gc3];rfl)
    go_simp
    refine hK.out _ _ (fun h=>absurd rfl h) ?_
    clear hK K
    try simp only[Act.put,pu3]
    refine wpAnyT_done (by kernel_rfl) ?_ _
    go_wp2_with fail
    exact bodyPost_ret (v:=.tuple #[.pointer none,fltV 4 pos ⟨#[]⟩]) (by simp[results,Tryz.results20,go_sem,k0,k1,k2]) rfl ⟨((hlw.setCell (by simp) _).setCell (by simp) _).setCell (by simp) _,.pointer none,4,pos,⟨#[]⟩,rfl,by rw[HCK.out];rfl,by rw[HCK.out];rfl,by rw[HCK.out];rfl,by rw[HCK.out];exact rfl⟩
   | true =>
    simp only[codeOf,if_true]at c3 d3
    go_upto_region 14 with fail
    refine wp_region_T (S:=fun W'=>W'.cell? ⟨r,3,none⟩=some (.int .i64 ((5:Nat):Int))∧W'.cell? ⟨r,4,none⟩=some (.int .i64 ((pos:Nat):Int))∧W'.cell? ⟨r,5,none⟩=some (.string ⟨#[]⟩)) (t:=5) (by kernel_rfl) ⟨d3,d4,d5⟩ ?_
    intro hHeld
    refine tkT 0 ?o0c ?v0c ?i0c hHeld ?_
    case i0c=>(refine⟨?_,?_,Or.inl ⟨?_,?_⟩⟩;simp only[gc3];rfl;exact fun _ _ _ h=>h;rfl;rintro W ⟨q0,q1,q2⟩;go_simp;(try with_reducible rfl))
    simp only[Act.put,pu3]
    refine tkT 1 ?o1c ?v1c ?i1c hHeld ?_
    case i1c=>(refine⟨?_,?_,Or.inl ⟨?_,?_⟩⟩;simp only[gc3];rfl;exact fun _ _ _ h=>h;rfl;rintro W ⟨q0,q1,q2⟩;go_simp;(try with_reducible rfl))
    simp only[Act.put,pu3]
    refine tkT 2 ?o2c ?v2c ?i2c hHeld ?_
    case i2c=>(refine⟨?_,?_,Or.inl ⟨?_,?_⟩⟩;simp only[gc3];rfl;exact fun _ _ _ h=>h;rfl;rintro W ⟨q0,q1,q2⟩;go_simp;(try with_reducible rfl))
    simp only[Act.put,pu3]
    refine tkT 3 ?o3c ?v3c ?i3c hHeld ?_
    case i3c=>(refine⟨?_,?_,Or.inl ⟨?_,?_⟩⟩;simp only[gc3];rfl;exact fun _ _ _ h=>h;rfl;rintro W ⟨q0,q1,q2⟩;go_simp;(try with_reducible rfl))
    simp only[Act.put,pu3]
    refine wpAnyT_one (i:=4) (o:=?o4c) (by kernel_rfl) ?i4c (fun K hK=>?c4c)
    case i4c=>(simp only[gc3];rfl)
    go_simp
    refine hK.out _ _ (fun _=>⟨d3,d4,d5⟩) ?_
    clear hK K
    try simp only[Act.put,pu3]
    refine wpAnyT_one (i:=5) (o:=?o5c) (by kernel_rfl) ?i5c (fun K hK=>?c5c)
    case i5c=>(simp only[gc3];rfl)
    go_simp
    refine hK.out _ _ (fun h=>absurd rfl h) ?_
    clear hK K
    try simp only[Act.put,pu3]
    refine wpAnyT_done (by kernel_rfl) ?_ _
    go_wp2_with fail
    exact bodyPost_ret (v:=.tuple #[.pointer none,fltV 5 pos ⟨#[]⟩]) (by simp[results,Tryz.results20,go_sem,k0,k1,k2]) rfl ⟨((hlw.setCell (by simp) _).setCell (by simp) _).setCell (by simp) _,.pointer none,5,pos,⟨#[]⟩,rfl,by rw[HCK.out];rfl,by rw[HCK.out];rfl,by rw[HCK.out];rfl,by rw[HCK.out];exact rfl⟩
end Go.Proofs.YtpcmemcanpgadaaGreatDoor
