import Derived.Test.YtpcmemcanpgadaaGreatDoorAstG
import Derived.Test.YtpcmemcanpgadaaGreatDoorPureB
import Derived.OwnWalk
set_option maxHeartbeats 2000000
set_option maxRecDepth 100000
namespace Go.Proofs.YtpcmemcanpgadaaGreatDoor
open PredP (hide Str Rule bs)
section
open Go.RowKit
def posOf (w:World) (r:Nat):Nat :=
 match w.cell? ⟨r,2,none⟩ with
 | some (.int _ p)=>p.toNat
 | _=>0
theorem Rd.posOf {r:Nat} {s:ByteArray} {t:PredP.Tok} {d:Nat} {w:World} (h:Rd r s t d w):posOf w r=t.pos:=by
 simp[YtpcmemcanpgadaaGreatDoor.posOf,h.c2]
def okL (n:Nat) (v:Value) (b:Nat):Prop:=n≤b∧some b≠v.ownBlock
def RowPost (r:Nat) (s:ByteArray) (d:Nat) (w:World) (o:PredP.Out PredP.Parts) (e:Ending) (w':World):Prop :=
 But r w w'∧match o with
 | .ok ps t'=>∃v cs,e=.returned (.tuple #[v,.nilIface])∧slAt (fun b=>w.heap.size≤b) w' 1 v cs∧partsAt (fun b=>w.heap.size≤b) w' ps cs∧Rd r s t' d w'
 | .bad p b=>∃u,e=.returned (.tuple #[.slice none 0 0,u])∧Syn w.heap.size w' u p b
structure RowRel (N r:Nat) (s:ByteArray) (d:Nat) (w:World) (o:PredP.Out PredP.Parts) (v:Value) (wr:World) (acc:PredP.Parts) (t:PredP.Tok) (m:Nat) (cs:List Value):Prop where
 out:o=PredP.preP acc (PredP.rowF (bs s) m d t)
 enough:PredP.Enough (bs s) t m
 tok:PredP.IsTok (bs s) t
 rd:Rd r s t d wr
 but:But r w wr
 own:wr.ownsRow w.heap.size 217 1 v cs.length cs
 parts:partsAt (okL w.heap.size v) wr acc cs
 short:cs.length≤t.pos
 le:m≤N
theorem Rd.grown {r:Nat} {s:ByteArray} {t:PredP.Tok} {d:Nat} {w w':World} {row:Option Nat} (h:Rd r s t d w) (hg:w.grownBy w' row) (hr:some r≠row):Rd r s t d w' :=
 have q:=fun k=>World.cell?_of_block (a:=⟨r,k,none⟩) (hg.block r h.lt hr)
 ⟨(q 0).trans h.c0,(q 1).trans h.c1,(q 2).trans h.c2,(q 3).trans h.c3,(q 4).trans h.c4,Nat.lt_of_lt_of_le h.lt hg.size,fun k=>(World.frozen?_of_block (a:=⟨r,k,none⟩) (hg.block r h.lt hr)).trans (h.fz k)⟩
theorem But.grown {r:Nat} {w w':World} (h:But r w w'):w.grownBy w' (some r):=⟨h.os,h.tape,h.output,h.size,fun k hk hr=>h.block k hk (fun e=>hr (by rw[e]))⟩
theorem But.of_grown {r:Nat} {w0 w w':World} {row:Option Nat} (h:But r w0 w) (hg:w.grownBy w' row) (hrow:∀k,row=some k→w0.heap.size≤k):But r w0 w' :=
 ⟨hg.os.trans h.os,hg.tape.trans h.tape,hg.output.trans h.output,Nat.le_trans h.size hg.size,fun k hk hr=>(hg.block k (Nat.lt_of_lt_of_le hk h.size) (fun e=>by have:=hrow k e.symm;omega)).trans (h.block k hk hr)⟩
theorem RowRel.push {N r:Nat} {s:ByteArray} {d:Nat} {w:World} {o:PredP.Out PredP.Parts} {v:Value} {wr:World} {acc:PredP.Parts} {t:PredP.Tok} {m:Nat} {cs:List Value} (hR:RowRel N r s d w o v wr acc t m cs)
  {t1:PredP.Tok} {W w2:World} {x v':Value} {p:PredP.Part} (hr:r<w.heap.size) (hbut:But r wr W) (hrd:Rd r s t1 d W) (hg:W.grownBy w2 v.ownBlock) (hown:w2.ownsRow w.heap.size 217 1 v' (cs.length+1) (cs++[x]))
  (hloc:v'.ownBlock=v.ownBlock∨v'.ownBlock=some W.heap.size) (hx:partAt (fun b=>wr.heap.size≤b) W p x) :
  Rd r s t1 d w2∧But r w w2∧w2.ownsRow w.heap.size 217 1 v' (cs++[x]).length (cs++[x])∧partsAt (okL w.heap.size v') w2 (acc.app (.cons p .nil)) (cs++[x]):=by
 have hlt:=hR.own.lt
 have hsz:=hR.but.size
 refine⟨hrd.grown hg (fun e=>by have:=hlt r e.symm;omega),(hR.but.trans hbut).of_grown hg (fun k e=>(hlt k e).1),by simpa using hown,?_⟩
 refine partsAt.snoc ?_ acc cs ?_
 ·refine partAt.carry hg.size ?_ p x hx
  intro b hb hbW
  have h1:some b≠v.ownBlock:=fun e=>by have:=hlt b e.symm;omega
  refine⟨⟨by omega,fun e=>?_⟩,hg.block b hbW h1⟩
  rcases hloc with q | q
  ·rw[q]at e;exact h1 e
  ·rw[q]at e;simp at e;omega
 ·refine partsAt.carry (Nat.le_trans hbut.size hg.size) ?_ acc cs hR.parts
  rintro b ⟨hb,hne⟩ hbw
  have hbr:b≠r:=by omega
  have hbW:b<W.heap.size:=Nat.lt_of_lt_of_le hbw hbut.size
  refine⟨⟨hb,fun e=>?_⟩,(hg.block b hbW hne).trans (hbut.block b hbw hbr)⟩
  rcases hloc with q | q
  ·rw[q]at e;exact hne e
  ·rw[q]at e;simp at e;omega
theorem RowRel.next {N r:Nat} {s:ByteArray} {d:Nat} {w:World} {o:PredP.Out PredP.Parts} {v:Value} {w2 w3:World} {acc:PredP.Parts} {t':PredP.Tok} {m:Nat} {cs:List Value} (hr:r<w.heap.size)
  (hbut:But r w w2) (hown:w2.ownsRow w.heap.size 217 1 v cs.length cs) (hp:partsAt (okL w.heap.size v) w2 acc cs)
  (hb3:But r w2 w3) (hrd3:Rd r s t' d w3) (hout:o=PredP.preP acc (PredP.rowF (bs s) m d t')) (he:PredP.Enough (bs s) t' m) (hf:PredP.IsTok (bs s) t') (hsh:cs.length≤t'.pos) (hle:m≤N) :
  RowRel N r s d w o v w3 acc t' m cs:=by
 have hlt:=hown.lt
 refine⟨hout,he,hf,hrd3,hbut.trans hb3,hown.kept hb3.grown (.inr fun e=>by have:=hlt r e;omega),?_,hsh,hle⟩
 refine partsAt.carry hb3.size ?_ acc cs hp
 rintro b ⟨hb,hne⟩ hbw
 exact⟨⟨hb,hne⟩,hb3.block b hbw (by omega)⟩
theorem own_below {base e size n:Nat} {v:Value} {xs:List Value} {w w':World} (h:w.ownsRow base e size v n xs) (hb:Below w.heap.size w w'):w'.ownsRow base e size v n xs :=
 h.kept (row:=none) ⟨hb.os,hb.tape,hb.output,hb.size,fun k hk _=>hb.block k hk⟩ (by cases hv:v.ownBlock<;>simp)
theorem one_new2 (w:World) (o:Obj) (x:Value) (ty:Nat):∀j u,[x][j]?=some u→((w.alloc o).alloc (.cells #[x] ty)).cell? ((⟨w.heap.size+1,0,none⟩:Addr).add j)=some u:=by
 have:=cell_one_new (w.alloc o) x ty
 rwa[World.size_alloc]at this
theorem bs_extract (s:ByteArray) (i j:Nat):bs (s.extract i j)=PredP.cut (bs s) i j:=by
 unfold bs PredP.cut
 rw[ByteArray.data_extract,Array.toList_extract]
theorem infoPart:(Tryz.prog.info? 217).map (fun i=>(i.zero,i.size,i.bytes))=some (some .nilIface,1,16):=by kernel_rfl
theorem past_fresh {w:World} {o:Obj} {cs:Array Value} {ty k:Nat} {v:Value} (h:cs[k]?=some v):((w.alloc (.cells cs ty)).alloc o).cell? ⟨w.heap.size,k,none⟩=some v:=by
 rw[World.cell?_alloc_past _ _ _ (by simp)]
 exact cell_fresh h
theorem past_shape {w:World} {o:Obj} {cs:Array Value} {ty n:Nat} (h:cs.size=n):((w.alloc (.cells cs ty)).alloc o).shape? w.heap.size=some (ty,n):=by
 unfold World.shape?
 rw[Below.heap_alloc _ _ _ (by simp),heap_alloc_new]
 simp[h]
theorem partAt.iface {ok:Nat→Prop} {w:World}:∀{p:PredP.Part} {v:Value},partAt ok w p v→∃T b,v=.iface T (.pointer (some ⟨b,0,none⟩))
 | .word _,_,h=>by unfold partAt at h;obtain⟨b,_,rfl,_⟩:=h;exact⟨_,b,rfl⟩
 | .name _ _,_,h=>by unfold partAt at h;obtain⟨b,_,rfl,_⟩:=h;exact⟨_,b,rfl⟩
 | .br _ _ _,_,h=>by unfold partAt at h;obtain⟨b,_,_,rfl,_⟩:=h;exact⟨_,b,rfl⟩
def BrPost (r:Nat) (s:ByteArray) (d:Nat) (w:World) (o:PredP.Out PredP.Part) (e:Ending) (w':World):Prop :=
 But r w w'∧match o with
 | .ok p t'=>∃v,e=.returned (.tuple #[v,.nilIface])∧partAt (fun b=>w.heap.size≤b) w' p v∧Rd r s t' d w'
 | .bad p b=>∃u,e=.returned (.tuple #[.nilIface,u])∧Syn w.heap.size w' u p b
def BrC (s:ByteArray) (m:Nat):Prop:=∀(r:Nat) (t:PredP.Tok) (d:Nat) (k:PredP.Br) (w:World),Rd r s t d w→PredP.IsTok (bs s) t→PredP.brOf t.kind=some k→d≤10→PredP.Enough (bs s) t (m+1) →
 Calls Tryz.prog 139 #[.pointer (some ⟨r,0,none⟩)] w (BrPost r s d w (PredP.brF (bs s) m d t k))
theorem below_or {B:Nat} {w w1 w2:World} (h:Below B w w1) (h':w2=w1∨w2=w1.drew):Below B w w2:=by
 rcases h' with rfl | rfl
 ·exact h
 ·exact h.drew
theorem word_bytes {s:ByteArray} {t:PredP.Tok} (h:PredP.IsTok (bs s) t) (hk:t.kind=34) :
  bs ⟨(Lib.trimB (s.extract t.pos t.to).data.toList 34).toArray⟩=PredP.cut (bs s) (t.pos+1) (t.to - 1):=by
 rw[←PredP.word_trim h hk,←bs_extract]
 rfl
theorem br_some {n:Nat} {k:PredP.Br} (h:PredP.brOf n=some k):n=openK k:=by
 unfold PredP.brOf at h
 split at h
 ·cases h;assumption
 ·split at h
  ·cases h;assumption
  ·split at h
   ·cases h;assumption
   ·simp at h
theorem trim_any {s:ByteArray} {t:PredP.Tok} (hs:s.size≤400) (h:PredP.IsTok (bs s) t) (hk:t.kind=34) (w:World) :
  Calls Tryz.prog 138 #[.string (s.extract t.pos t.to),.string ⟨#[34]⟩] w fun e w'=>∃tr,e=.returned (.string tr)∧Hid (bs tr=PredP.cut (bs s) (t.pos+1) (t.to - 1))∧(w'=w∨w'=w.drew) :=
 (Tryz.strings_Trim_one (s.extract t.pos t.to) 34 (by decide) w (by rw[ByteArray.size_extract];omega)).mono (by
  rintro e w' ⟨rfl,hd⟩
  exact⟨_,rfl,word_bytes h hk,hd⟩)
theorem br_none {k:Nat} (h:PredP.brOf k=none):k≠40∧k≠91∧k≠123:=by
 unfold PredP.brOf at h
 refine⟨fun e=>?_,fun e=>?_,fun e=>?_⟩<;>subst e<;>simp at h
theorem name_step {N r:Nat} {s:ByteArray} {d:Nat} {w:World} {o:PredP.Out PredP.Parts} {v:Value} {wr:World} {acc:PredP.Parts} {t:PredP.Tok} {m:Nat} {cs:List Value} (hR:RowRel N r s d w o v wr acc t (m+1) cs)
  (hr:r<w.heap.size) (hs:s.size≤400) (hk:t.kind=97) {w1 w2:World} {v':Value} {ty:Nat} (hb1:Below wr.heap.size wr w1)
  (hown:w2.ownsRow w.heap.size 217 1 v' (cs.length+1) (cs++[.iface 210 (.pointer (some ⟨w1.heap.size,0,none⟩))]))
  (hg:((w1.alloc (.cells #[.string (s.extract t.pos t.to),.int .i64 (t.pos:Int)] 213)).alloc (.cells #[.iface 210 (.pointer (some ⟨w1.heap.size,0,none⟩))] ty)).grownBy w2 v.ownBlock)
  (hloc:v'.ownBlock=v.ownBlock∨v'.ownBlock=some ((w1.alloc (.cells #[.string (s.extract t.pos t.to),.int .i64 (t.pos:Int)] 213)).alloc (.cells #[.iface 210 (.pointer (some ⟨w1.heap.size,0,none⟩))] ty)).heap.size) :
  Rd r s t d w2∧∀w3,But r w2 w3→Rd r s (PredP.tokFrom (bs s) t.to) d w3→(∃acc t m cs,RowRel N r s d w o v' w3 acc t m cs)∧401 - posOf w3 r<401 - posOf wr r:=by
 have hB:=((hb1.alloc hb1.size (.cells #[.string (s.extract t.pos t.to),.int .i64 (t.pos:Int)] 213)).alloc (Nat.le_trans hb1.size (by simp)) (.cells #[.iface 210 (.pointer (some ⟨w1.heap.size,0,none⟩))] ty))
 have hx:partAt (fun b=>wr.heap.size≤b) ((w1.alloc (.cells #[.string (s.extract t.pos t.to),.int .i64 (t.pos:Int)] 213)).alloc (.cells #[.iface 210 (.pointer (some ⟨w1.heap.size,0,none⟩))] ty)) (.name (PredP.cut (bs s) t.pos t.to) t.pos) (.iface 210 (.pointer (some ⟨w1.heap.size,0,none⟩))):=by
  unfold partAt
  exact⟨w1.heap.size,_,rfl,hb1.size,by simp;omega,past_fresh rfl,bs_extract _ _ _,by rw[ByteArray.size_extract];omega,past_fresh rfl,past_shape rfl⟩
 obtain⟨hrd2,hbut2,hown2,hp2⟩:=hR.push hr (But.of_below hB) (hR.rd.below hB) hg hown hloc hx
 have hfit:=hR.tok.fits
 have hpos:t.pos<(PredP.tokFrom (bs s) t.to).pos:=Nat.lt_of_lt_of_le (hfit.2.2 ⟨by omega,by omega⟩) (PredP.tokFrom_ge _ _)
 have hle:(PredP.tokFrom (bs s) t.to).pos≤400:=by have:=PredP.tokFrom_pos_le (bs s) t.to hfit.2.1;rw[PredP.bs_length]at this;omega
 refine⟨hrd2,fun w3 hb3 hrd3=>⟨⟨_,_,m,_,RowRel.next hr hbut2 hown2 hp2 hb3 hrd3 ?_ ?_ hR.tok.next ?_ (Nat.le_of_succ_le hR.le)⟩,?_⟩⟩
 ·rw[hR.out,PredP.rowF_name hk,PredP.preP_preP]
 ·exact(PredP.Enough.next hR.enough hfit ⟨by omega,by omega⟩).1.mono (by omega)
 ·have:=hR.short;simp;omega
 ·rw[hrd3.posOf,hR.rd.posOf];omega
theorem word_step {N r:Nat} {s:ByteArray} {d:Nat} {w:World} {o:PredP.Out PredP.Parts} {v:Value} {wr:World} {acc:PredP.Parts} {t:PredP.Tok} {m:Nat} {cs:List Value} (hR:RowRel N r s d w o v wr acc t (m+1) cs)
  (hr:r<w.heap.size) (hs:s.size≤400) (hk:t.kind=34) {w1 w2:World} {v':Value} {ty:Nat} {tr:ByteArray} (htr:bs tr=PredP.cut (bs s) (t.pos+1) (t.to - 1)) (hb1:Below wr.heap.size wr w1)
  (hown:w2.ownsRow w.heap.size 217 1 v' (cs.length+1) (cs++[.iface 218 (.pointer (some ⟨w1.heap.size,0,none⟩))]))
  (hg:((w1.alloc (.cells #[.string tr] 260)).alloc (.cells #[.iface 218 (.pointer (some ⟨w1.heap.size,0,none⟩))] ty)).grownBy w2 v.ownBlock)
  (hloc:v'.ownBlock=v.ownBlock∨v'.ownBlock=some ((w1.alloc (.cells #[.string tr] 260)).alloc (.cells #[.iface 218 (.pointer (some ⟨w1.heap.size,0,none⟩))] ty)).heap.size) :
  Rd r s t d w2∧∀w3,But r w2 w3→Rd r s (PredP.tokFrom (bs s) t.to) d w3→(∃acc t m cs,RowRel N r s d w o v' w3 acc t m cs)∧401 - posOf w3 r<401 - posOf wr r:=by
 have hB:=((hb1.alloc hb1.size (.cells #[.string tr] 260)).alloc (Nat.le_trans hb1.size (by simp)) (.cells #[.iface 218 (.pointer (some ⟨w1.heap.size,0,none⟩))] ty))
 have hsz:tr.size≤400:=by
  rw[←PredP.bs_length,htr]
  unfold PredP.cut
  rw[List.length_take,List.length_drop,PredP.bs_length]
  omega
 have hx:partAt (fun b=>wr.heap.size≤b) ((w1.alloc (.cells #[.string tr] 260)).alloc (.cells #[.iface 218 (.pointer (some ⟨w1.heap.size,0,none⟩))] ty)) (.word (PredP.cut (bs s) (t.pos+1) (t.to - 1))) (.iface 218 (.pointer (some ⟨w1.heap.size,0,none⟩))):=by
  unfold partAt
  exact⟨w1.heap.size,_,rfl,hb1.size,by simp;omega,past_fresh rfl,htr,hsz,past_shape rfl⟩
 obtain⟨hrd2,hbut2,hown2,hp2⟩:=hR.push hr (But.of_below hB) (hR.rd.below hB) hg hown hloc hx
 have hfit:=hR.tok.fits
 have hpos:t.pos<(PredP.tokFrom (bs s) t.to).pos:=Nat.lt_of_lt_of_le (hfit.2.2 ⟨by omega,by omega⟩) (PredP.tokFrom_ge _ _)
 have hle:(PredP.tokFrom (bs s) t.to).pos≤400:=by have:=PredP.tokFrom_pos_le (bs s) t.to hfit.2.1;rw[PredP.bs_length]at this;omega
 refine⟨hrd2,fun w3 hb3 hrd3=>⟨⟨_,_,m,_,RowRel.next hr hbut2 hown2 hp2 hb3 hrd3 ?_ ?_ hR.tok.next ?_ (Nat.le_of_succ_le hR.le)⟩,?_⟩⟩
 ·rw[hR.out,PredP.rowF_word hk,PredP.preP_preP]
 ·exact(PredP.Enough.next hR.enough hfit ⟨by omega,by omega⟩).1.mono (by omega)
 ·have:=hR.short;simp;omega
 ·rw[hrd3.posOf,hR.rd.posOf];omega
theorem br_step {N r:Nat} {s:ByteArray} {d:Nat} {w:World} {o:PredP.Out PredP.Parts} {v:Value} {wr:World} {acc:PredP.Parts} {t t':PredP.Tok} {m:Nat} {cs:List Value} (hR:RowRel N r s d w o v wr acc t (m+1) cs)
  (hr:r<w.heap.size) (hs:s.size≤400) {k:PredP.Br} {p:PredP.Part} (hk:PredP.brOf t.kind=some k) (hb:PredP.brF (bs s) m d t k=.ok p t') {w1 w2:World} {x v':Value} {ty:Nat}
  (hbut:But r wr w1) (hrd1:Rd r s t' d w1) (hx:partAt (fun b=>wr.heap.size≤b) w1 p x)
  (hown:w2.ownsRow w.heap.size 217 1 v' (cs.length+1) (cs++[x]))
  (hg:(w1.alloc (.cells #[x] ty)).grownBy w2 v.ownBlock)
  (hloc:v'.ownBlock=v.ownBlock∨v'.ownBlock=some (w1.alloc (.cells #[x] ty)).heap.size) :
  (∃acc t m cs,RowRel N r s d w o v' w2 acc t m cs)∧401 - posOf w2 r<401 - posOf wr r:=by
 have hB:Below w1.heap.size w1 (w1.alloc (.cells #[x] ty)):=(Below.refl _ w1).alloc (Nat.le_refl _) _
 have hx':partAt (fun b=>wr.heap.size≤b) (w1.alloc (.cells #[x] ty)) p x:=partAt.carry hB.size (fun b hb hl=>⟨hb,hB.block b hl⟩) p x hx
 obtain⟨hrd2,hbut2,hown2,hp2⟩:=hR.push hr (hbut.trans (But.of_below hB)) (hrd1.below hB) hg hown hloc hx'
 have hfit:=hR.tok.fits
 have ht':=PredP.brF_tok hR.tok hb
 have hpos:=(PredP.brF_on hfit hk hb).2
 have hle:t'.pos≤s.size:=by have:=Nat.le_trans ht'.fits.1 ht'.fits.2.1;rwa[PredP.bs_length]at this
 refine⟨⟨_,_,m,_,RowRel.next hr hbut2 hown2 hp2 (But.refl _ _) hrd2 ?_ ?_ ht' ?_ (Nat.le_of_succ_le hR.le)⟩,?_⟩
 ·rw[hR.out,PredP.rowF_ok hk hb,PredP.preP_preP]
 ·have:=hR.enough
  unfold PredP.Enough at *
  rw[PredP.bs_length]at *
  omega
 ·have:=hR.short;simp;omega
 ·rw[hrd2.posOf,hR.rd.posOf];omega
theorem row_end {N r:Nat} {s:ByteArray} {d:Nat} {w:World} {o:PredP.Out PredP.Parts} {v:Value} {wr:World} {acc:PredP.Parts} {t:PredP.Tok} {m:Nat} {cs:List Value} (hR:RowRel N r s d w o v wr acc t (m+1) cs)
  (h1:t.kind≠97) (h2:t.kind≠34) (h3:PredP.brOf t.kind=none):RowPost r s d w o (.returned (.tuple #[v,.nilIface])) wr:=by
 refine⟨hR.but,?_⟩
 rw[hR.out,PredP.rowF_end h1 h2 h3]
 simp only[PredP.preP,PredP.Parts.app_nil]
 exact⟨v,cs,rfl,slAt.of_owns hR.own (fun g hg=>(hR.own.lt g hg).1),partsAt.carry (Nat.le_refl _) (fun b hb _=>⟨hb.1,rfl⟩) acc cs hR.parts,hR.rd⟩
theorem row_bad {N r:Nat} {s:ByteArray} {d:Nat} {w:World} {o:PredP.Out PredP.Parts} {v:Value} {wr w1:World} {acc:PredP.Parts} {t:PredP.Tok} {m:Nat} {cs:List Value} (hR:RowRel N r s d w o v wr acc t (m+1) cs)
  {k:PredP.Br} {p:Nat} {b:Bool} (hk:PredP.brOf t.kind=some k) (hb:PredP.brF (bs s) m d t k=.bad p b) (hbut:But r wr w1) {u:Value} (hu:Syn wr.heap.size w1 u p b):RowPost r s d w o (.returned (.tuple #[.slice none 0 0,u])) w1:=by
 refine⟨hR.but.trans hbut,?_⟩
 rw[hR.out,PredP.rowF_bad hk hb]
 exact⟨u,rfl,hu.mono hR.but.size⟩
theorem row_any (n:Nat) (r:Nat) (s:ByteArray) (t0:PredP.Tok) (d:Nat) (w:World) (hbr:Hid (∀m,m<n→BrC s m)) (hs:s.size≤400) (hd:d≤10) (hrd:Rd r s t0 d w) (hf:PredP.IsTok (bs s) t0) (hn:PredP.Enough (bs s) t0 n) :
  Calls Tryz.prog 129 #[.pointer (some ⟨r,0,none⟩)] w (RowPost r s d w (PredP.rowF (bs s) n d t0)):=by
 obtain⟨o,ho⟩:∃o,PredP.rowF (bs s) n d t0=o:=⟨_,rfl⟩
 rw[ho]
 have hrel0:RowRel n r s d w o (.slice none 0 0) w .nil t0 n []:=⟨by rw[PredP.preP_nil];exact ho.symm,hn,hf,hrd,But.refl _ _,World.ownsRow_nil _ _ _ _,by unfold partsAt;rfl,Nat.zero_le _,Nat.le_refl _⟩
 have hr0:=hrd.lt
 clear ho hn hf hrd
 obtain⟨i0,hi,hz0,hz1,hz2⟩:=info_parts infoPart
 go_enter Tryz.func129,Tryz.ntmps129
 go_wp2_with fail
 go_loopw [4] (fun v wr=>∃acc t m cs,RowRel n r s d w o v wr acc t m cs) (fun _ wr=>401 - posOf wr r)
 case atStart=>exact⟨_,_,_,_,hrel0⟩
 case round =>
  clear hrel0
  obtain⟨acc,t,m,cs,hR⟩:=hrel
  obtain⟨m',rfl⟩:=hR.enough.pos
  have hrd:=hR.rd
  obtain⟨c0,c1,c2,c3,c4,lt,fz⟩:=hrd
  have hle:t.pos≤t.to:=hR.tok.fits.1
  have hsh:=hR.short
  have hwr:=hR.but.size
  have hto:t.to≤s.size:=by have:=hR.tok.fits.2.1;rwa[PredP.bs_length]at this
  by_cases h97:t.kind=97
  ·have hb97:((t.kind:Int)==97)=true:=by simp[h97]
   have H97:=hide h97
   clear h97
   go_wp2_with fail
   go_region_law (first
    | (refine step_append_own_at rfl _ _ _ rfl w.heap.size 217 i0 .nilIface 1 16 (by kernel_rfl) hi hz0 hz1 hz2 rfl (by decide) _ cs.length cs rfl ((ho1.alloc _).alloc _) _ 1 1 [_] rfl rfl (one_new2 _ _ _ _) (by simp[Value.oneCell']) (by unfold maxLen;omega) (by omega) (by simp;omega) ?_;intro v' w2 hown2 hgrow2 hloc2)
    | (go_simp;go_at_call 106;refine(text_any r s t d _ hs hle hto (Rd.drew hR.rd)).mono ?_;rintro e w1 ⟨rfl,hb1⟩;have q2:=(hb1.cell (p:=⟨r,2,none⟩) lt).trans c2;have ho1:=own_below (w:=wr.drew) hR.own hb1;have hz1':wr.heap.size≤w1.heap.size:=hb1.size))
   all_goals
    obtain⟨hrd2,hnext⟩:=name_step hR hr0 hs H97.out ((Below.refl _ wr).drew.trans hb1) hown2 hgrow2 hloc2
    have hnext:=hide hnext
    go_wp2_with (go_at_call 128;refine(advance_any r s t _ d _ hs hto hrd2 (hide rfl)).mono ?_;rintro e w3 ⟨rfl,hb3,hr3⟩)
    exact hnext.out _ hb3 hr3
  by_cases h34:t.kind=34
  ·have hb97:((t.kind:Int)==97)=false:=by simp[h34]
   have hb34:((t.kind:Int)==34)=true:=by simp[h34]
   have H34:=hide h34
   clear h34 h97
   go_wp2_with (first
    | (go_at_call 106;refine(text_any r s t d _ hs hle hto hR.rd).mono ?_;rintro e w1 ⟨rfl,hb1⟩)
    | (go_at_call 138;refine(trim_any hs hR.tok H34.out _).mono ?_;rintro e w1' ⟨tr,rfl,htr,hd1⟩;have hb1':Below wr.heap.size wr w1':=below_or hb1 hd1;clear hd1;have ho1:=own_below hR.own hb1';have hz1':wr.heap.size≤w1'.heap.size:=hb1'.size)
    | (at_builtin;refine wpList_append_own_at _ rfl _ _ _ rfl w.heap.size 217 i0 .nilIface 1 16 (by kernel_rfl) hi hz0 hz1 hz2 rfl (by decide) _ cs.length cs rfl ((ho1.alloc _).alloc _) _ 1 1 [_] rfl rfl (one_new2 _ _ _ _) (by simp[Value.oneCell']) (by unfold maxLen;omega) (by omega) (by simp;omega) ?_;intro v' w2 hown2 hgrow2 _ hloc2))
   obtain⟨hrd2,hnext⟩:=word_step hR hr0 hs H34.out htr.out hb1' hown2 hgrow2 hloc2
   have hnext:=hide hnext
   go_wp2_with (go_at_call 128;refine(advance_any r s t _ d _ hs hto hrd2 (hide rfl)).mono ?_;rintro e w3 ⟨rfl,hb3,hr3⟩)
   exact hnext.out _ hb3 hr3
  cases hk:PredP.brOf t.kind with
  | none =>
   have hb97:((t.kind:Int)==97)=false:=by simp;omega
   have hb34:((t.kind:Int)==34)=false:=by simp;omega
   have hn3:=br_none hk
   have hb40:((t.kind:Int)==40)=false:=by simp;omega
   have hb91:((t.kind:Int)==91)=false:=by simp;omega
   have hb123:((t.kind:Int)==123)=false:=by simp;omega
   have hend:=hide (row_end hR h97 h34 hk)
   clear hk h97 h34 hn3
   go_wp2_with fail
   go_ret2
   exact hend.out
  | some k =>
   have hcall:=hbr.out m' hR.le r t d k wr hR.rd hR.tok hk hd hR.enough
   have hkk:t.kind=openK k:=br_some hk
   cases hb:PredP.brF (bs s) m' d t k with
   | bad p b =>
    rw[hb]at hcall
    have HC:=hide hcall
    have HK:=hide hk
    have HB:=hide hb
    clear hcall hk hb h97 h34
    cases k
    all_goals
     simp only[openK]at hkk
     rw[hkk]at c1
     clear hkk
     go_wp2_with (go_at_call 139;refine HC.out.mono ?_;rintro e w1 ⟨hbut1,u,rfl,b0,rfl,hs0,hs1,hs2,hs3⟩)
     go_ret2
     exact row_bad hR HK.out HB.out hbut1 ⟨b0,rfl,hs0,hs1,hs2,hs3⟩
   | ok p t' =>
    rw[hb]at hcall
    have HC:=hide hcall
    have HK:=hide hk
    have HB:=hide hb
    clear hcall hk hb h97 h34
    cases k
    all_goals
     simp only[openK]at hkk
     rw[hkk]at c1
     clear hkk
     go_wp2_with (first
      | (go_at_call 139;refine HC.out.mono ?_;rintro e w1 ⟨hbut1,x,rfl,hpx,hrd1⟩;obtain⟨T,bx,rfl⟩:=hpx.iface;have ho1:=hR.own.kept hbut1.grown (.inr fun e=>by have:=hR.own.lt r e;omega);have hz1':wr.heap.size≤w1.heap.size:=hbut1.size)
      | (at_builtin;refine wpList_append_own_at _ rfl _ _ _ rfl w.heap.size 217 i0 .nilIface 1 16 (by kernel_rfl) hi hz0 hz1 hz2 rfl (by decide) _ cs.length cs rfl (ho1.alloc _) _ 1 1 [_] rfl rfl (cell_one_new _ _ _) (by simp[Value.oneCell']) (by unfold maxLen;omega) (by omega) (by simp;omega) ?_;intro v' w2 hown2 hgrow2 _ hloc2))
     exact br_step hR hr0 hs HK.out HB.out hbut1 hrd1 hpx hown2 hgrow2 hloc2
end
section
open Go.RowKit
def ExpPost (r:Nat) (s:ByteArray) (d:Nat) (w:World) (o:PredP.Out PredP.Rows) (e:Ending) (w':World):Prop :=
 But r w w'∧match o with
 | .ok ps t'=>∃v cs,e=.returned (.tuple #[v,.nilIface])∧slAt (fun b=>w.heap.size≤b) w' 2 v cs∧rowsAt (fun b=>w.heap.size≤b) w' ps cs∧Rd r s t' d w'
 | .bad p b=>∃u,e=.returned (.tuple #[.slice none 0 0,u])∧Syn w.heap.size w' u p b
structure ExpRel (N r:Nat) (s:ByteArray) (d:Nat) (w:World) (o:PredP.Out PredP.Rows) (v:Value) (wr:World) (acc:PredP.Rows) (bar:Nat) (t:PredP.Tok) (m n:Nat) (cs:List Value):Prop where
 out:o=PredP.preE acc (PredP.expF (bs s) (m+1) d bar t)
 enough:PredP.Enough (bs s) t m
 tok:PredP.IsTok (bs s) t
 rd:Rd r s t d wr
 but:But r w wr
 own:wr.ownsRow w.heap.size 227 2 v n cs
 rows:rowsAt (okL w.heap.size v) wr acc cs
 short:n≤t.pos
 bars:bar≤400
 le:m+1≤N
theorem slAt.form {ok:Nat→Prop} {w:World} {size:Nat} {v:Value} {cs:List Value} (h:slAt ok w size v cs):∃a n c,v=.slice a n c:=by
 rcases h with ⟨rfl,_⟩ | ⟨g,n,cap,rfl,_⟩
 ·exact⟨_,_,_,rfl⟩
 ·exact⟨_,_,_,rfl⟩
theorem ExpRel.push {N r:Nat} {s:ByteArray} {d:Nat} {w:World} {o:PredP.Out PredP.Rows} {v:Value} {wr:World} {acc:PredP.Rows} {bar:Nat} {t:PredP.Tok} {m n:Nat} {cs:List Value} (hR:ExpRel N r s d w o v wr acc bar t m n cs)
  {t1:PredP.Tok} {W w2:World} {u v':Value} {p:PredP.Parts} {us:List Value} (hr:r<w.heap.size) (hbut:But r wr W) (hrd:Rd r s t1 d W) (hg:W.grownBy w2 v.ownBlock)
  (hloc:v'.ownBlock=v.ownBlock∨v'.ownBlock=some W.heap.size) (hu:slAt (fun b=>wr.heap.size≤b) W 1 u us) (hx:partsAt (fun b=>wr.heap.size≤b) W p us) :
  Rd r s t1 d w2∧But r w w2∧rowsAt (okL w.heap.size v') w2 (acc.app (.cons bar p .nil)) (cs++[.int .i64 (bar:Int),u]):=by
 have hlt:=hR.own.lt
 have hsz:=hR.but.size
 have hnew:∀b,wr.heap.size≤b→b<W.heap.size→okL w.heap.size v' b∧w2.heap[b]?=W.heap[b]?:=by
  intro b hb hbW
  have h1:some b≠v.ownBlock:=fun e=>by have:=hlt b e.symm;omega
  refine⟨⟨by omega,fun e=>?_⟩,hg.block b hbW h1⟩
  rcases hloc with q | q
  ·rw[q]at e;exact h1 e
  ·rw[q]at e;simp at e;omega
 refine⟨hrd.grown hg (fun e=>by have:=hlt r e.symm;omega),(hR.but.trans hbut).of_grown hg (fun k e=>(hlt k e).1),?_⟩
 refine rowsAt.snoc (slAt.carry hg.size hnew hu) (partsAt.carry hg.size hnew p us hx) acc cs ?_
 refine rowsAt.carry (Nat.le_trans hbut.size hg.size) ?_ acc cs hR.rows
 rintro b ⟨hb,hne⟩ hbw
 have hbr:b≠r:=by omega
 have hbW:b<W.heap.size:=Nat.lt_of_lt_of_le hbw hbut.size
 refine⟨⟨hb,fun e=>?_⟩,(hg.block b hbW hne).trans (hbut.block b hbw hbr)⟩
 rcases hloc with q | q
 ·rw[q]at e;exact hne e
 ·rw[q]at e;simp at e;omega
theorem ExpRel.push1 {N r:Nat} {s:ByteArray} {d:Nat} {w:World} {o:PredP.Out PredP.Rows} {v:Value} {wr:World} {acc:PredP.Rows} {bar:Nat} {t:PredP.Tok} {m n:Nat} {cs:List Value} (hR:ExpRel N r s d w o v wr acc bar t m n cs)
  {t1:PredP.Tok} {w1 w2:World} {ob:Obj} {u v':Value} {p:PredP.Parts} {us:List Value} (hr:r<w.heap.size) (hbut:But r wr w1) (hrd:Rd r s t1 d w1) (hg:(w1.alloc ob).grownBy w2 v.ownBlock)
  (hloc:v'.ownBlock=v.ownBlock∨v'.ownBlock=some (w1.alloc ob).heap.size) (hu:slAt (fun b=>wr.heap.size≤b) w1 1 u us) (hx:partsAt (fun b=>wr.heap.size≤b) w1 p us) :
  Rd r s t1 d w2∧But r w w2∧rowsAt (okL w.heap.size v') w2 (acc.app (.cons bar p .nil)) (cs++[.int .i64 (bar:Int),u]):=by
 have hB:Below w1.heap.size w1 (w1.alloc ob):=(Below.refl _ w1).alloc (Nat.le_refl _) _
 exact hR.push hr (hbut.trans (But.of_below hB)) (hrd.below hB) hg hloc (slAt.carry hB.size (fun b hb hl=>⟨hb,hB.block b hl⟩) hu) (partsAt.carry hB.size (fun b hb hl=>⟨hb,hB.block b hl⟩) p us hx)
theorem exp_last {N r:Nat} {s:ByteArray} {d:Nat} {w:World} {o:PredP.Out PredP.Rows} {v:Value} {wr:World} {acc:PredP.Rows} {bar:Nat} {t t1:PredP.Tok} {m n:Nat} {cs:List Value} (hR:ExpRel N r s d w o v wr acc bar t m n cs)
  {ps:PredP.Parts} (hrow:PredP.rowF (bs s) m d t=.ok ps t1) (hk:t1.kind≠124) {w2:World} {v' u:Value} (hrd:Rd r s t1 d w2) (hbut:But r w w2) (hown:w2.ownsRow w.heap.size 227 2 v' (n+1) (cs++[.int .i64 (bar:Int),u]))
  (hrows:rowsAt (okL w.heap.size v') w2 (acc.app (.cons bar ps .nil)) (cs++[.int .i64 (bar:Int),u])):ExpPost r s d w o (.returned (.tuple #[v',.nilIface])) w2:=by
 refine⟨hbut,?_⟩
 rw[hR.out,PredP.expF_last hrow hk]
 simp only[PredP.preE]
 exact⟨v',_,rfl,slAt.of_owns hown (fun g hg=>(hown.lt g hg).1),rowsAt.carry (Nat.le_refl _) (fun b hb _=>⟨hb.1,rfl⟩) _ _ hrows,hrd⟩
theorem exp_bad {N r:Nat} {s:ByteArray} {d:Nat} {w:World} {o:PredP.Out PredP.Rows} {v:Value} {wr w1:World} {acc:PredP.Rows} {bar:Nat} {t:PredP.Tok} {m n:Nat} {cs:List Value} (hR:ExpRel N r s d w o v wr acc bar t m n cs)
  {p:Nat} {b:Bool} (hrow:PredP.rowF (bs s) m d t=.bad p b) (hbut:But r wr w1) {u:Value} (hu:Syn wr.heap.size w1 u p b):ExpPost r s d w o (.returned (.tuple #[.slice none 0 0,u])) w1:=by
 refine⟨hR.but.trans hbut,?_⟩
 rw[hR.out,PredP.expF_bad hrow]
 exact⟨u,rfl,hu.mono hR.but.size⟩
theorem exp_more {N r:Nat} {s:ByteArray} {d:Nat} {w:World} {o:PredP.Out PredP.Rows} {v:Value} {wr:World} {acc:PredP.Rows} {bar:Nat} {t t1:PredP.Tok} {m n:Nat} {cs:List Value} (hR:ExpRel N r s d w o v wr acc bar t m n cs) (hr:r<w.heap.size) (hs:s.size≤400)
  {ps:PredP.Parts} (hrow:PredP.rowF (bs s) m d t=.ok ps t1) (hk:t1.kind=124) {w2 w3:World} {v' u:Value} (hbut:But r w w2) (hown:w2.ownsRow w.heap.size 227 2 v' (n+1) (cs++[.int .i64 (bar:Int),u]))
  (hrows:rowsAt (okL w.heap.size v') w2 (acc.app (.cons bar ps .nil)) (cs++[.int .i64 (bar:Int),u])) (hb3:But r w2 w3) (hrd3:Rd r s (PredP.tokFrom (bs s) t1.to) d w3) :
  (∃acc,∃bar:Nat,∃t m n cs,(.int .i64 (t1.pos:Int))=Value.int .i64 (bar:Int)∧ExpRel N r s d w o v' w3 acc bar t m n cs)∧401 - posOf w3 r<401 - posOf wr r:=by
 have hon:=(PredP.reader_on (bs s) m).2 _ _ _ _ hR.tok.fits hrow
 have htok:=(PredP.reader_tok (bs s) m).2 _ _ _ _ hR.tok hrow
 have hp:=PredP.Tok.on_pos hon
 have hfit:=htok.fits
 have hpos:t1.pos<(PredP.tokFrom (bs s) t1.to).pos:=Nat.lt_of_lt_of_le (hfit.2.2 ⟨by omega,by omega⟩) (PredP.tokFrom_ge _ _)
 have hle:(PredP.tokFrom (bs s) t1.to).pos≤s.size:=by have:=PredP.tokFrom_pos_le (bs s) t1.to hfit.2.1;rwa[PredP.bs_length]at this
 have he:=hR.enough
 have hl:=hR.le
 unfold PredP.Enough at he
 rw[PredP.bs_length]at he
 obtain⟨m',rfl⟩:∃m',m=m'+1:=⟨m - 1,by omega⟩
 have hlt:=hown.lt
 refine⟨⟨acc.app (.cons bar ps .nil),t1.pos,_,m',n+1,_,rfl,⟨?_,?_,htok.next,hrd3,hbut.trans hb3,hown.kept hb3.grown (.inr fun e=>by have:=hlt r e;omega),?_,?_,?_,by omega⟩⟩,?_⟩
 ·rw[hR.out,PredP.expF_more hrow hk,PredP.preE_preE]
 ·unfold PredP.Enough;rw[PredP.bs_length];omega
 ·refine rowsAt.carry hb3.size ?_ _ _ hrows
  rintro b ⟨hb,hne⟩ hbw
  exact⟨⟨hb,hne⟩,hb3.block b hbw (by omega)⟩
 ·have:=hR.short;omega
 ·omega
 ·rw[hrd3.posOf,hR.rd.posOf];omega
theorem infoRow:(Tryz.prog.info? 227).map (fun i=>(i.zero,i.size,i.bytes))=some (some (.agg #[.int .i64 0,.slice none 0 0]),2,32):=by kernel_rfl
theorem two_new (w:World) (x y:Value) (ty:Nat):∀j u,[x,y][j]?=some u→(w.alloc (.cells #[x,y] ty)).cell? ((⟨w.heap.size,0,none⟩:Addr).add j)=some u:=by
 intro j u hu
 have hadd:(⟨w.heap.size,0,none⟩:Addr).add j=⟨w.heap.size,j,none⟩:=by unfold Addr.add;split<;>simp_all
 rw[hadd]
 exact cell_fresh (by simpa using hu)
theorem expression_any (N:Nat) (r:Nat) (s:ByteArray) (t0:PredP.Tok) (d:Nat) (w:World) (hbr:Hid (∀m,m<N→BrC s m)) (hs:s.size≤400) (hd:d≤10) (hrd:Rd r s t0 d w) (hf:PredP.IsTok (bs s) t0) (hn:PredP.Enough (bs s) t0 N) :
  Calls Tryz.prog 108 #[.pointer (some ⟨r,0,none⟩)] w (ExpPost r s d w (PredP.expF (bs s) (N+1) d 0 t0)):=by
 obtain⟨o,ho⟩:∃o,PredP.expF (bs s) (N+1) d 0 t0=o:=⟨_,rfl⟩
 rw[ho]
 have hrel0:ExpRel (N+1) r s d w o (.slice none 0 0) w .nil 0 t0 N 0 []:=⟨by rw[PredP.preE_nil];exact ho.symm,hn,hf,hrd,But.refl _ _,World.ownsRow_nil _ _ _ _,by unfold rowsAt;rfl,Nat.zero_le _,by omega,Nat.le_refl _⟩
 have hr0:=hrd.lt
 clear ho hn hf hrd
 obtain⟨i0,hi,hz0,hz1,hz2⟩:=info_parts infoRow
 go_enter Tryz.func108,Tryz.ntmps108
 go_wp2_with fail
 go_loopw [4,5] (fun v g wr=>∃acc,∃bar:Nat,∃t m n cs,g=Value.int .i64 (bar:Int)∧ExpRel (N+1) r s d w o v wr acc bar t m n cs) (fun _ _ wr=>401 - posOf wr r)
 case atStart=>exact⟨_,0,_,_,_,_,rfl,hrel0⟩
 case round =>
  clear hrel0
  obtain⟨acc,bar,t,m,n,cs,rfl,hR⟩:=hrel
  have hsh:=hR.short
  have hwr:=hR.but.size
  have hle:=hR.tok.fits.1
  have hto:t.to≤s.size:=by have:=hR.tok.fits.2.1;rwa[PredP.bs_length]at this
  have hcall:=row_any m r s t d wr (hide fun k hk=>hbr.out k (by have:=hR.le;omega)) hs hd hR.rd hR.tok hR.enough
  cases hrow:PredP.rowF (bs s) m d t with
  | bad p b =>
   rw[hrow]at hcall
   have HC:=hide hcall
   have HB:=hide hrow
   clear hcall hrow
   go_wp2_with (go_at_call 129;refine HC.out.mono ?_;rintro e w1 ⟨hbut1,u,rfl,b0,rfl,hs0,hs1,hs2,hs3⟩)
   go_ret2
   exact exp_bad hR HB.out hbut1 ⟨b0,rfl,hs0,hs1,hs2,hs3⟩
  | ok ps t1 =>
   rw[hrow]at hcall
   have HC:=hide hcall
   have HB:=hide hrow
   have htok1:=(PredP.reader_tok (bs s) m).2 _ _ _ _ hR.tok hrow
   have hto1:t1.to≤s.size:=by have:=htok1.fits.2.1;rwa[PredP.bs_length]at this
   clear hcall hrow
   by_cases hk:t1.kind=124
   ·have hb:((t1.kind:Int) != 124)=false:=by simp[hk]
    have HK:=hide hk
    clear hk
    go_wp2_with (first
    | (go_at_call 129;refine HC.out.mono ?_;rintro e w1 ⟨hbut1,u,us,rfl,hsl,hps,hrd1⟩;obtain⟨ua,un,uc,rfl⟩:=hsl.form;have ho1:=hR.own.kept hbut1.grown (.inr fun e=>by have:=hR.own.lt r e;omega);have hz1':wr.heap.size≤w1.heap.size:=hbut1.size)
    | (at_builtin;refine wpList_append_own_at _ rfl _ _ _ rfl w.heap.size 227 i0 (.agg #[.int .i64 0,.slice none 0 0]) 2 32 (by kernel_rfl) hi hz0 hz1 hz2 rfl (by decide) _ n cs rfl (ho1.alloc _) _ 1 1 [_,_] rfl rfl (two_new _ _ _ _) (by simp[Value.oneCell']) (by unfold maxLen;omega) (by omega) (by simp;omega) ?_;intro v' w2 hown2 hgrow2 _ hloc2;obtain⟨hrd2,hbut2,hrows2⟩:=hR.push1 hr0 hbut1 hrd1 hgrow2 hloc2 hsl hps;have q1:=hrd2.c1;have q2:=hrd2.c2)
    | (go_at_call 128;refine(advance_any r s t1 _ d _ hs hto1 hrd2 (hide rfl)).mono ?_;rintro e w3 ⟨rfl,hb3,hr3⟩))
    exact exp_more hR hr0 hs HB.out HK.out hbut2 hown2 hrows2 hb3 hr3
   ·have hb:((t1.kind:Int) != 124)=true:=by rw[bne_iff_ne];omega
    have HK:=hide hk
    clear hk
    go_wp2_with (first
    | (go_at_call 129;refine HC.out.mono ?_;rintro e w1 ⟨hbut1,u,us,rfl,hsl,hps,hrd1⟩;obtain⟨ua,un,uc,rfl⟩:=hsl.form;have ho1:=hR.own.kept hbut1.grown (.inr fun e=>by have:=hR.own.lt r e;omega);have hz1':wr.heap.size≤w1.heap.size:=hbut1.size)
    | (at_builtin;refine wpList_append_own_at _ rfl _ _ _ rfl w.heap.size 227 i0 (.agg #[.int .i64 0,.slice none 0 0]) 2 32 (by kernel_rfl) hi hz0 hz1 hz2 rfl (by decide) _ n cs rfl (ho1.alloc _) _ 1 1 [_,_] rfl rfl (two_new _ _ _ _) (by simp[Value.oneCell']) (by unfold maxLen;omega) (by omega) (by simp;omega) ?_;intro v' w2 hown2 hgrow2 _ hloc2;obtain⟨hrd2,hbut2,hrows2⟩:=hR.push1 hr0 hbut1 hrd1 hgrow2 hloc2 hsl hps;have q1:=hrd2.c1;have q2:=hrd2.c2))
    go_ret2
    exact exp_last hR HB.out HK.out hrd2 hbut2 hown2 hrows2
end
section
open Go.RowKit
theorem Rd.opened {r:Nat} {s:ByteArray} {t:PredP.Tok} {d:Nat} {w:World} (h:Rd r s t d w) (d':Nat):Rd r s t d' (w.setCell ⟨r,4,none⟩ (.int .i64 (d':Int))):=by
 obtain⟨c0,c1,c2,c3,c4,lt,fz⟩:=h
 refine⟨?_,?_,?_,?_,?_,by simp[World.setCell];exact lt,fun k=>by simp only[World.frozen?_setCell];exact fz k⟩
 all_goals simp[go_sem,c0,c1,c2,c3,c4]
theorem br_deep {r:Nat} {s:ByteArray} {t:PredP.Tok} {d m:Nat} {k:PredP.Br} {w w':World} {u:Value} (hd:d=10) (hb:But r w w') (hu:Syn w.heap.size w' u t.pos true):BrPost r s d w (PredP.brF (bs s) m d t k) (.returned (.tuple #[.nilIface,u])) w':=by
 refine⟨hb,?_⟩
 unfold PredP.brF
 rw[if_pos hd]
 exact⟨u,rfl,hu⟩
theorem br_in {r:Nat} {s:ByteArray} {t:PredP.Tok} {d m p:Nat} {b:Bool} {k:PredP.Br} {w w':World} {u:Value} (hd:d≠10) (he:PredP.expF (bs s) m (d+1) 0 (PredP.tokFrom (bs s) t.to)=.bad p b) (hb:But r w w') (hu:Syn w.heap.size w' u p b):BrPost r s d w (PredP.brF (bs s) m d t k) (.returned (.tuple #[.nilIface,u])) w':=by
 refine⟨hb,?_⟩
 unfold PredP.brF
 rw[if_neg hd,he]
 exact⟨u,rfl,hu⟩
theorem br_close {r:Nat} {s:ByteArray} {t t1:PredP.Tok} {d m:Nat} {e:PredP.Rows} {k:PredP.Br} {w w':World} {u:Value} (hd:d≠10) (he:PredP.expF (bs s) m (d+1) 0 (PredP.tokFrom (bs s) t.to)=.ok e t1) (hk:t1.kind≠PredP.closing k) (hb:But r w w') (hu:Syn w.heap.size w' u t1.pos false):BrPost r s d w (PredP.brF (bs s) m d t k) (.returned (.tuple #[.nilIface,u])) w':=by
 refine⟨hb,?_⟩
 unfold PredP.brF
 rw[if_neg hd,he]
 simp only[hk,if_false]
 exact⟨u,rfl,hu⟩
theorem br_ok {r:Nat} {s:ByteArray} {t t1:PredP.Tok} {d m:Nat} {e:PredP.Rows} {k:PredP.Br} {w w':World} {v:Value} (hd:d≠10) (he:PredP.expF (bs s) m (d+1) 0 (PredP.tokFrom (bs s) t.to)=.ok e t1) (hk:t1.kind=PredP.closing k) (hb:But r w w')
  (hv:partAt (fun b=>w.heap.size≤b) w' (.br k t.pos e) v) (hr:Rd r s (PredP.tokFrom (bs s) t1.to) d w'):BrPost r s d w (PredP.brF (bs s) m d t k) (.returned (.tuple #[v,.nilIface])) w':=by
 refine⟨hb,?_⟩
 unfold PredP.brF
 rw[if_neg hd,he]
 simp only[hk,if_true]
 exact⟨v,rfl,hv,hr⟩
theorem br_part {ok:Nat→Prop} {w:World} {k:PredP.Br} {p b:Nat} {e:PredP.Rows} {u:Value} {cs:List Value} (h1:ok b) (h2:b<w.heap.size) (h3:w.cell? ⟨b,0,none⟩=some (.int .i64 (p:Int))) (h4:w.cell? ⟨b,1,none⟩=some u) (h5:slAt ok w 2 u cs) (h6:rowsAt ok w e cs) :
  partAt ok w (.br k p e) (.iface (tyOf k) (.pointer (some ⟨b,0,none⟩))):=by
 unfold partAt
 exact⟨b,u,cs,rfl,h1,h2,h3,h4,h5,h6⟩
theorem bracket_any (s:ByteArray) (hs:s.size≤400) (m:Nat) (ih:Hid (∀k,k<m→BrC s k)):BrC s m:=by
 intro r t d k w hrd htok hk hd hen
 have hfit:=htok.fits
 have hto:t.to≤s.size:=by have:=hfit.2.1;rwa[PredP.bs_length]at this
 have hle:=hfit.1
 obtain⟨hen',h1m⟩:=PredP.Enough.next hen hfit (PredP.brOf_some hk)
 obtain⟨m',rfl⟩:∃m',m=m'+1:=⟨m - 1,by omega⟩
 rw[Nat.add_sub_cancel]at hen'
 obtain⟨c0,c1,c2,c3,c4,lt,fz⟩:=id hrd
 by_cases h10:d=10
 ·have hb:((d:Int)==10)=true:=by simp[h10]
  have H10:=hide h10
  clear h10
  go_enter Tryz.func139,Tryz.ntmps139
  go_wp2_with fail
  go_region
  all_goals go_wp2_with fail
  all_goals go_ret2
  all_goals exact br_deep H10.out (But.of_below (((Below.refl _ _).alloc (Nat.le_refl _) _).alloc (by simp) _).drew) ⟨w.heap.size+1,rfl,by omega,by simp,cell_fresh2 rfl,cell_fresh2 rfl⟩
 ·have hb:((d:Int)==10)=false:=by simp;omega
  have hd9:d+1≤10:=by omega
  have H10:=hide h10
  have hf4:=fz 4
  clear h10
  have hrW:=(Rd.opened hrd (d+1)).below (w':=(w.setCell ⟨r,4,none⟩ (.int .i64 ((d:Int)+1))).alloc (.cells #[.int .u8 (t.kind:Int),.int .i64 (t.pos:Int),.int .i64 (t.to:Int)] 159)) ((Below.refl _ _).alloc (Nat.le_refl _) _)
  have hbW:But r w ((w.setCell ⟨r,4,none⟩ (.int .i64 ((d:Int)+1))).alloc (.cells #[.int .u8 (t.kind:Int),.int .i64 (t.pos:Int),.int .i64 (t.to:Int)] 159)):=((But.refl r w).setCell (p:=⟨r,4,none⟩) rfl _).trans (But.of_below ((Below.refl _ _).alloc (Nat.le_refl _) _))
  have hsz:(w.setCell ⟨r,4,none⟩ (.int .i64 ((d:Int)+1))).heap.size=w.heap.size:=by simp[World.setCell]
  have oW0:=cell_fresh (w:=w.setCell ⟨r,4,none⟩ (.int .i64 ((d:Int)+1))) (cs:=#[.int .u8 (t.kind:Int),.int .i64 (t.pos:Int),.int .i64 (t.to:Int)]) (ty:=159) (k:=0) rfl
  have oW1:=cell_fresh (w:=w.setCell ⟨r,4,none⟩ (.int .i64 ((d:Int)+1))) (cs:=#[.int .u8 (t.kind:Int),.int .i64 (t.pos:Int),.int .i64 (t.to:Int)]) (ty:=159) (k:=1) rfl
  rw[hsz]at oW0 oW1
  have HE:=hide fun w2 h2=>expression_any m' r s (PredP.tokFrom (bs s) t.to) (d+1) w2 (hide fun k hk=>ih.out k (by omega)) hs hd9 h2 htok.next hen'
  have HK:=hide hk
  clear hk hen hen' ih hfit
  cases hexp:PredP.expF (bs s) (m'+1) (d+1) 0 (PredP.tokFrom (bs s) t.to) with
  | bad p b =>
   rw[hexp]at HE
   have HX:=hide hexp
   clear hexp
   go_enter Tryz.func139,Tryz.ntmps139
   go_wp2_with (first
    | (go_at_call 128;refine(advance_any r s t _ (d+1) _ hs hto hrW (hide rfl)).mono ?_;rintro e w2 ⟨rfl,hb2,hr2⟩;have o0:=(hb2.cell (b:=w.heap.size) (o:=0) (by simp) (by omega)).trans oW0;have o1:=(hb2.cell (b:=w.heap.size) (o:=1) (by simp) (by omega)).trans oW1;have hz2:w.heap.size+1≤w2.heap.size:=by have:=hb2.size;simpa using this)
    | (go_at_call 108;refine(HE.out w2 hr2).mono ?_;rintro e w3 ⟨hb3,u,rfl,b0,rfl,hs0,hs1,hs2,hs3⟩))
   go_ret2
   exact br_in H10.out HX.out ((hbW.trans hb2).trans hb3) ⟨b0,rfl,by omega,hs1,hs2,hs3⟩
  | ok e t1 =>
   rw[hexp]at HE
   have HX:=hide hexp
   have htok1:=(PredP.reader_tok (bs s) (m'+1)).1 _ _ _ _ _ htok.next hexp
   have hto1:t1.to≤s.size:=by have:=htok1.fits.2.1;rwa[PredP.bs_length]at this
   clear hexp
   by_cases hc:t1.kind=PredP.closing k
   ·have HC:=hide hc
    clear hc
    go_enter Tryz.func139,Tryz.ntmps139
    go_wp2_with (first
     | (go_at_call 128;refine(advance_any r s t _ (d+1) _ hs hto hrW (hide rfl)).mono ?_;rintro e w2 ⟨rfl,hb2,hr2⟩;have o0:=(hb2.cell (b:=w.heap.size) (o:=0) (by simp) (by omega)).trans oW0;have o1:=(hb2.cell (b:=w.heap.size) (o:=1) (by simp) (by omega)).trans oW1;have hz2:w.heap.size+1≤w2.heap.size:=by have:=hb2.size;simpa using this)
     | (go_at_call 108;refine(HE.out w2 hr2).mono ?_;rintro e w3 ⟨hb3,v,cs,rfl,hsl,hrows,hr3⟩;obtain⟨va,vn,vc,rfl⟩:=hsl.form;have q4:w3.cell? ⟨r,4,none⟩=some (.int .i64 ((d:Int)+1)):=hr3.c4;have g4:=hr3.fz 4;have p0:=(hb3.cell (b:=w.heap.size) (o:=0) (by omega) (by omega)).trans o0;have p1:=(hb3.cell (b:=w.heap.size) (o:=1) (by omega) (by omega)).trans o1;have hz3:=hb3.size)
     | (go_at_call 150;refine(bracketed_any k t.kind (hide (br_some HK.out)) t.pos va vn vc _).mono ?_;rintro e w5 ⟨bb,rfl,hbb1,hbb2,hbc0,hbc1,hB5⟩;have hr5:=(Rd.opened hr3 d).below hB5)
     | (go_at_call 107;refine(take_yes r s t1 _ d _ _ hs hto1 hr5 HC.out (hide rfl)).mono ?_;rintro e w6 ⟨rfl,hb6,hr6⟩))
    go_ret2
    have hB3:But r w3 w6:=(((But.refl r w3).setCell (p:=⟨r,4,none⟩) rfl _).trans (But.of_below hB5)).trans hb6
    have hcar:∀b,w2.heap.size≤b→b<w3.heap.size→w.heap.size≤b∧w6.heap[b]?=w3.heap[b]?:=fun b hb hl=>⟨by omega,hB3.block b hl (by omega)⟩
    have hsz3:(w3.setCell ⟨r,4,none⟩ (.int .i64 (d:Int))).heap.size=w3.heap.size:=by simp[World.setCell]
    rw[hsz3]at hbb1
    exact br_ok H10.out HX.out HC.out ((hbW.trans hb2).trans (hb3.trans hB3)) (br_part (by omega) (Nat.lt_of_lt_of_le hbb2 hb6.size) ((hb6.cell hbb2 (by omega)).trans hbc0) ((hb6.cell hbb2 (by omega)).trans hbc1) (slAt.carry hB3.size hcar hsl) (rowsAt.carry hB3.size hcar _ _ hrows)) hr6
   ·have HC:=hide hc
    clear hc
    go_enter Tryz.func139,Tryz.ntmps139
    go_wp2_with (first
     | (go_at_call 128;refine(advance_any r s t _ (d+1) _ hs hto hrW (hide rfl)).mono ?_;rintro e w2 ⟨rfl,hb2,hr2⟩;have o0:=(hb2.cell (b:=w.heap.size) (o:=0) (by simp) (by omega)).trans oW0;have o1:=(hb2.cell (b:=w.heap.size) (o:=1) (by simp) (by omega)).trans oW1;have hz2:w.heap.size+1≤w2.heap.size:=by have:=hb2.size;simpa using this)
     | (go_at_call 108;refine(HE.out w2 hr2).mono ?_;rintro e w3 ⟨hb3,v,cs,rfl,hsl,hrows,hr3⟩;obtain⟨va,vn,vc,rfl⟩:=hsl.form;have q4:w3.cell? ⟨r,4,none⟩=some (.int .i64 ((d:Int)+1)):=hr3.c4;have g4:=hr3.fz 4;have p0:=(hb3.cell (b:=w.heap.size) (o:=0) (by omega) (by omega)).trans o0;have p1:=(hb3.cell (b:=w.heap.size) (o:=1) (by omega) (by omega)).trans o1;have hz3:=hb3.size)
     | (go_at_call 150;refine(bracketed_any k t.kind (hide (br_some HK.out)) t.pos va vn vc _).mono ?_;rintro e w5 ⟨bb,rfl,hbb1,hbb2,hbc0,hbc1,hB5⟩;have hr5:=(Rd.opened hr3 d).below hB5)
     | (go_at_call 107;refine(take_not r s t1 d _ _ hr5 HC.out).mono ?_;rintro e w6 ⟨u,rfl,⟨b0,rfl,hs0,hs1,hs2,hs3⟩,hb6⟩))
    go_ret2
    have hB3:But r w3 w6:=(((But.refl r w3).setCell (p:=⟨r,4,none⟩) rfl _).trans (But.of_below hB5)).trans (But.of_below hb6)
    have hsz3:(w3.setCell ⟨r,4,none⟩ (.int .i64 (d:Int))).heap.size=w3.heap.size:=by simp[World.setCell]
    exact br_close H10.out HX.out HC.out ((hbW.trans hb2).trans (hb3.trans hB3)) ⟨b0,rfl,by have h5:=hB5.size;rw[hsz3]at h5;omega,hs1,hs2,hs3⟩
theorem brackets (s:ByteArray) (hs:s.size≤400) (m:Nat):BrC s m:=by
 induction m using Nat.strongRecOn with
 | _ m ih=>exact bracket_any s hs m ih
theorem exp_all (s:ByteArray) (hs:s.size≤400) (N r:Nat) (t:PredP.Tok) (d:Nat) (w:World) (hd:d≤10) (hrd:Rd r s t d w) (ht:PredP.IsTok (bs s) t) (hn:PredP.Enough (bs s) t N) :
  Calls Tryz.prog 108 #[.pointer (some ⟨r,0,none⟩)] w (ExpPost r s d w (PredP.expF (bs s) (N+1) d 0 t)) :=
 expression_any N r s t d w (fun m _=>brackets s hs m) hs hd hrd ht hn
end
end Go.Proofs.YtpcmemcanpgadaaGreatDoor
