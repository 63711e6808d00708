import Derived.Test.YtpcmemcanpgadaaGreatDoorPureB
import Derived.Test.YtpcmemcanpgadaaGreatDoorTokG
import Derived.Test.YtpcmemcanpgadaaGreatDoorPureS
import Derived.OwnWalk
import Derived.RegionTactic
import Derived.BigRegion
import Derived.Deep.RegionWith
import Derived.WalkSmall
import Derived.Lib.SmallJoins
set_option maxHeartbeats 4000000
set_option maxRecDepth 100000
namespace PredP
def Tok.last (t:Tok):Bool:=t.kind==0||t.kind==1
def toksF (l:Str):Nat→Nat→List Tok
 | 0,_=>[]
 | n+1,i=>if (tokFrom l i).last then[tokFrom l i] else tokFrom l i::toksF l n (tokFrom l i).to
def toks (l:Str):List Tok:=toksF l (l.length+1) 0
theorem toksF_last {l:Str} {m i:Nat} (h:(tokFrom l i).last=true):toksF l (m+1) i=[tokFrom l i]:=by rw[toksF,if_pos h]
theorem toksF_more {l:Str} {m i:Nat} (h:(tokFrom l i).last=false):toksF l (m+1) i=tokFrom l i::toksF l m (tokFrom l i).to:=by rw[toksF,if_neg (by simp[h])]
theorem last_false {t:Tok} (h:t.last=false):t.kind≠0∧t.kind≠1:=by
 unfold Tok.last at h
 simp at h
 exact h
theorem tokFrom_step {l:Str} {i:Nat} (h:(tokFrom l i).last=false):i<(tokFrom l i).to :=
 Nat.lt_of_le_of_lt (tokFrom_ge l i) (tokFrom_lt l i (last_false h))
theorem toksF_next {l:Str}:∀{m i k:Nat} {t:Tok},i≤l.length→l.length - i<m→(toksF l m i)[k]?=some t→IsTok l t∧(t.last=false→(toksF l m i)[k+1]?=some (tokFrom l t.to))
 | 0,_,_,_,_,hm,_=>by omega
 | m+1,i,k,t,hi,hm,h=>by
  by_cases hl:(tokFrom l i).last=true
  ·rw[toksF_last hl]at h ⊢
   cases k with
   | zero =>
    simp at h
    subst h
    exact⟨⟨i,hi,rfl⟩,fun h'=>by rw[hl]at h';cases h'⟩
   | succ k=>simp at h
  ·have hl':(tokFrom l i).last=false:=by simpa using hl
   have hs:=tokFrom_step hl'
   have hto:=tokFrom_to_le l i hi
   have hpos:∃m',m=m'+1:=⟨m - 1,by omega⟩
   obtain⟨m',rfl⟩:=hpos
   rw[toksF_more hl']at h ⊢
   cases k with
   | zero =>
    simp at h
    subst h
    refine⟨⟨i,hi,rfl⟩,fun _=>?_⟩
    rw[List.getElem?_cons_succ,toksF]
    split<;>rfl
   | succ k =>
    rw[List.getElem?_cons_succ]at h
    rw[List.getElem?_cons_succ]
    exact toksF_next hto (by omega) h
theorem toksF_end {l:Str}:∀{m i k:Nat} {t:Tok},(toksF l m i)[k]?=some t→t.last=true→(toksF l m i).length=k+1
 | 0,_,_,_,h,_=>by simp[toksF]at h
 | m+1,i,k,t,h,ht=>by
  by_cases hl:(tokFrom l i).last=true
  ·rw[toksF_last hl]at h ⊢
   cases k with
   | zero=>rfl
   | succ k=>simp at h
  ·have hl':(tokFrom l i).last=false:=by simpa using hl
   rw[toksF_more hl']at h ⊢
   cases k with
   | zero=>simp at h;subst h;rw[hl']at ht;cases ht
   | succ k =>
    rw[List.getElem?_cons_succ]at h
    rw[List.length_cons,toksF_end h ht]
theorem toksF_length {l:Str}:∀{m i:Nat},i≤l.length→(toksF l m i).length+i≤l.length+1
 | 0,_,hi=>by simp[toksF];omega
 | m+1,i,hi=>by
  by_cases hl:(tokFrom l i).last=true
  ·rw[toksF_last hl];simp;omega
  ·have hl':(tokFrom l i).last=false:=by simpa using hl
   have:=toksF_length (l:=l) (m:=m) (tokFrom_to_le l i hi)
   have:=tokFrom_step hl'
   rw[toksF_more hl',List.length_cons]
   omega
theorem toks_zero (l:Str):(toks l)[0]?=some (tokFrom l 0):=by
 unfold toks
 rw[toksF]
 split<;>rfl
theorem toks_next {l:Str} {k:Nat} {t:Tok} (h:(toks l)[k]?=some t):IsTok l t∧(t.last=false→(toks l)[k+1]?=some (tokFrom l t.to)) :=
 toksF_next (Nat.zero_le _) (by omega) h
theorem toks_length (l:Str):(toks l).length≤l.length+1:=toksF_length (Nat.zero_le _)
theorem toks_last {l:Str} {k:Nat} {t:Tok} (h:(toks l)[k]?=some t) (ht:t.last=true):(toks l).length=k+1:=toksF_end h ht
def Tok.text (l:Str) (t:Tok):Str:=if t.kind=97 then cut l t.pos t.to else if t.kind=34 then cut l (t.pos+1) (t.to - 1) else[]
end PredP
namespace Go.Proofs.YtpcmemcanpgadaaGreatDoor
open PredP (hide Str Rule bs)
open Go.RowKit
theorem small_any (c:UInt8) (w:World) :
  Calls Tryz.prog 50 #[.int .u8 (c.toNat:Int)] w fun e w'=>e=.returned (.bool (PredP.letter c))∧w'=w:=by
 by_cases h:97≤(c.toNat:Int)
 all_goals
  by_cases h':(c.toNat:Int)≤122
  all_goals
   go_enter Tryz.func50,Tryz.ntmps50
   go_wp2
   go_ret
   exact⟨ret_bool (by rw[PredP.letter_int];first | exact dec_t (by omega) | exact dec_f (by omega)),rfl⟩
theorem figure_any (c:UInt8) (w:World) :
  Calls Tryz.prog 51 #[.int .u8 (c.toNat:Int)] w fun e w'=>e=.returned (.bool (PredP.digit c))∧w'=w:=by
 by_cases h:48≤(c.toNat:Int)
 all_goals
  by_cases h':(c.toNat:Int)≤57
  all_goals
   go_enter Tryz.func51,Tryz.ntmps51
   go_wp2
   go_ret
   exact⟨ret_bool (by rw[PredP.digit_int];first | exact dec_t (by omega) | exact dec_f (by omega)),rfl⟩
def kindB (k:Nat):ByteArray :=
 if k=0 then⟨#[101,110,100]⟩ else if k=1 then⟨#[110,111,110,101]⟩ else if k=97 then⟨#[110,97,109,101]⟩ else if k=34 then⟨#[119,111,114,100]⟩ else⟨#[UInt8.ofNat k]⟩
def textB (s:ByteArray) (t:PredP.Tok):ByteArray :=
 if t.kind=97 then s.extract t.pos t.to else if t.kind=34 then s.extract (t.pos+1) (t.to - 1) else⟨#[]⟩
def tokC (s:ByteArray) (t:PredP.Tok):List Value:=[.string (kindB t.kind),.string (textB s t),.int .i64 (t.pos:Int)]
structure TkRel (s:ByteArray) (w:World) (v:Value) (wr:World) (i:Nat) (acc:List PredP.Tok) (m:Nat):Prop where
 out:acc++PredP.toksF (bs s) m i=PredP.toks (bs s)
 fuel:s.size - i<m
 le:i≤s.size
 own:wr.ownsRow w.heap.size 81 3 v acc.length (acc.flatMap (tokC s))
 below:Below w.heap.size w wr
 short:acc.length≤i
def TkPost (s:ByteArray) (w:World) (e:Ending) (w':World):Prop :=
 ∃v,e=.returned v∧w'.ownsRow w.heap.size 81 3 v (PredP.toks (bs s)).length ((PredP.toks (bs s)).flatMap (tokC s))∧Below w.heap.size w w'
theorem infoTok:(Tryz.prog.info? 81).map (fun i=>(i.zero,i.size,i.bytes))=some (some (.agg #[.string ⟨#[]⟩,.string ⟨#[]⟩,.int .i64 0]),3,40):=by kernel_rfl
theorem tk_three (w:World) (o:Obj) (x y z:Value) (ty:Nat):∀j u,[x,y,z][j]?=some u→((w.alloc o).alloc (.cells #[x,y,z] ty)).cell? ((⟨w.heap.size+1,0,none⟩:Addr).add j)=some u:=by
 intro j u hu
 have hadd:(⟨w.heap.size+1,0,none⟩:Addr).add j=⟨w.heap.size+1,j,none⟩:=by unfold Addr.add;split<;>simp_all
 rw[hadd]
 have h:=heap_alloc_new (w.alloc o) (.cells #[x,y,z] ty)
 rw[World.size_alloc]at h
 simp only[World.cell?,h]
 simpa using hu
theorem tk_box {B T n:Nat} {v:Value} {xs:List Value} {wr w2:World} {cs:Array Value} {ty k:Nat} {o:Obj} {u:Value} (hO:wr.ownsRow B T 3 v n xs) (hg:((wr.alloc (.cells cs ty)).alloc o).grownBy w2 v.ownBlock) (h:cs[k]?=some u):w2.cell? ⟨wr.heap.size,k,none⟩=some u:=by
 rw[World.cell?_of_block (a:=⟨wr.heap.size,k,none⟩) (hg.block wr.heap.size (by simp;omega) (fun e=>by have:=(hO.lt _ e.symm).2;omega)),World.cell?_alloc_past _ _ _ (by simp)]
 simp only[World.cell?,heap_alloc_new]
 simpa using h
theorem tk_three2 (w:World) (o o':Obj) (x y z:Value) (ty:Nat):∀j u,[x,y,z][j]?=some u→(((w.alloc o).alloc o').alloc (.cells #[x,y,z] ty)).cell? ((⟨w.heap.size+1+1,0,none⟩:Addr).add j)=some u:=by
 have:=tk_three (w.alloc o) o' x y z ty
 rwa[World.size_alloc]at this
theorem tk_box2 {B T n:Nat} {v:Value} {xs:List Value} {wr w2:World} {cs:Array Value} {ty k:Nat} {o o':Obj} {u:Value} (hO:wr.ownsRow B T 3 v n xs) (hg:(((wr.alloc (.cells cs ty)).alloc o).alloc o').grownBy w2 v.ownBlock) (h:cs[k]?=some u):w2.cell? ⟨wr.heap.size,k,none⟩=some u:=by
 rw[World.cell?_of_block (a:=⟨wr.heap.size,k,none⟩) (hg.block wr.heap.size (by simp;omega) (fun e=>by have:=(hO.lt _ e.symm).2;omega)),World.cell?_alloc_past _ _ _ (by simp;omega),World.cell?_alloc_past _ _ _ (by simp)]
 simp only[World.cell?,heap_alloc_new]
 simpa using h
theorem tk_below2 {B:Nat} {w wr w2:World} {b o o':Obj} {T n:Nat} {v:Value} {xs:List Value} (hB:B=w.heap.size) (hb:Below w.heap.size w wr) (hO:wr.ownsRow B T 3 v n xs) (hg:(((wr.alloc b).alloc o).alloc o').grownBy w2 v.ownBlock):Below w.heap.size w w2:=by
 have h1:=((hb.alloc hb.size b).alloc (Nat.le_trans hb.size (by simp)) o).alloc (Nat.le_trans hb.size (by simp;omega)) o'
 subst hB
 exact⟨hg.os.trans h1.os,hg.tape.trans h1.tape,hg.output.trans h1.output,Nat.le_trans h1.size hg.size,fun k hk=>(hg.block k (Nat.lt_of_lt_of_le hk h1.size) (fun e=>by have:=(hO.lt _ e.symm).1;omega)).trans (h1.block k hk)⟩
theorem tk_below {B:Nat} {w wr w2:World} {b o:Obj} {T n:Nat} {v:Value} {xs:List Value} (hB:B=w.heap.size) (hb:Below w.heap.size w wr) (hO:wr.ownsRow B T 3 v n xs) (hg:((wr.alloc b).alloc o).grownBy w2 v.ownBlock):Below w.heap.size w w2:=by
 have h1:=(hb.alloc hb.size b).alloc (Nat.le_trans hb.size (by simp)) o
 subst hB
 exact⟨hg.os.trans h1.os,hg.tape.trans h1.tape,hg.output.trans h1.output,Nat.le_trans h1.size hg.size,fun k hk=>(hg.block k (Nat.lt_of_lt_of_le hk h1.size) (fun e=>by have:=(hO.lt _ e.symm).1;omega)).trans (h1.block k hk)⟩
theorem Tk.last {s:ByteArray} {w wr w2:World} {v v':Value} {i m:Nat} {acc:List PredP.Tok} {t:PredP.Tok} (hR:TkRel s w v wr i acc m) (ht:PredP.tokFrom (bs s) i=t) (hl:t.last=true)
  (hown:w2.ownsRow w.heap.size 81 3 v' (acc.length+1) (acc.flatMap (tokC s)++tokC s t)) (hb:Below w.heap.size w w2):TkPost s w (.returned v') w2:=by
 subst ht
 obtain⟨m',rfl⟩:∃m',m=m'+1:=⟨m - 1,by have:=hR.fuel;omega⟩
 have ho:=hR.out
 rw[PredP.toksF_last hl]at ho
 refine⟨v',rfl,?_,hb⟩
 rw[←ho]
 simpa using hown
theorem Tk.more {s:ByteArray} {w wr w2:World} {v v':Value} {i m:Nat} {acc:List PredP.Tok} {t:PredP.Tok} (hR:TkRel s w v wr i acc m) (ht:PredP.tokFrom (bs s) i=t) (hl:t.last=false)
  (hown:w2.ownsRow w.heap.size 81 3 v' (acc.length+1) (acc.flatMap (tokC s)++tokC s t)) (hb:Below w.heap.size w w2) :
  (∃(i:Nat) (acc:List PredP.Tok) (m:Nat),Value.int .i64 (t.to:Int)=.int .i64 i∧TkRel s w v' w2 i acc m)∧s.size - t.to<s.size - i:=by
 subst ht
 obtain⟨m',rfl⟩:∃m',m=m'+1:=⟨m - 1,by have:=hR.fuel;omega⟩
 have ho:=hR.out
 have hst:=PredP.tokFrom_step hl
 have hto:=PredP.tokFrom_to_le (bs s) i (by rw[PredP.bs_length];exact hR.le)
 rw[PredP.bs_length]at hto
 rw[PredP.toksF_more hl]at ho
 refine⟨⟨_,acc++[PredP.tokFrom (bs s) i],m',rfl,?_,?_,hto,?_,hb,?_⟩,by omega⟩
 ·rw[←ho];simp
 ·have:=hR.fuel;omega
 ·simpa using hown
 ·have:=hR.short;simp;omega
theorem lead_first {p:UInt8→Bool} {s:ByteArray} {k q:Nat} (hk:k<s.size) (hp:p s[k]=true) (h:k+PredP.lead p ((bs s).drop k)=q):k+1+PredP.lead p ((bs s).drop (k+1))=q:=by
 rw[PredP.bs_drop s k hk,PredP.lead,if_pos hp]at h
 omega
theorem tf_name {s:ByteArray} {i k q:Nat} (hlt:k<s.size) (h1:PredP.letter s[k]=true) (HK:i+PredP.lead PredP.blank ((bs s).drop i)=k) (HQ:k+1+PredP.lead PredP.alnum ((bs s).drop (k+1))=q) (h:(q:Int) - (k:Int)≤8):PredP.tokFrom (bs s) i=⟨97,k,q⟩:=by
 rw[PredP.tokFrom,HK,PredP.bs_drop s k hlt]
 simp only[PredP.tokHere,h1,if_true]
 rw[if_pos (by omega),HQ]
theorem tf_long {s:ByteArray} {i k q:Nat} (hlt:k<s.size) (h1:PredP.letter s[k]=true) (HK:i+PredP.lead PredP.blank ((bs s).drop i)=k) (HQ:k+1+PredP.lead PredP.alnum ((bs s).drop (k+1))=q) (h:8<(q:Int) - (k:Int)):PredP.tokFrom (bs s) i=⟨1,k,k⟩:=by
 rw[PredP.tokFrom,HK,PredP.bs_drop s k hlt]
 simp only[PredP.tokHere,h1,if_true]
 rw[if_neg (by omega)]
theorem tf_end {s:ByteArray} {i k:Nat} (hlt:¬k<s.size) (HK:i+PredP.lead PredP.blank ((bs s).drop i)=k):PredP.tokFrom (bs s) i=⟨0,k,k⟩:=by
 rw[PredP.tokFrom,HK]
 exact here_end (Nat.le_of_not_lt hlt) rfl
theorem tf_word {s:ByteArray} {i k q:Nat} (hlt:k<s.size) (hq:s[k]=34) (HK:i+PredP.lead PredP.blank ((bs s).drop i)=k) (HQ:k+1+PredP.lead PredP.inWord ((bs s).drop (k+1))=q) (hl:q<s.size) (hc:s[q]=34) (h1:1≤q - k - 1) (h2:q - k - 1≤8):PredP.tokFrom (bs s) i=⟨34,k,q+1⟩:=by
 rw[PredP.tokFrom,HK]
 exact word_ok hlt hq HQ hl hc h1 h2 (hide rfl)
theorem tf_noword {s:ByteArray} {i k q:Nat} (hlt:k<s.size) (hq:s[k]=34) (HK:i+PredP.lead PredP.blank ((bs s).drop i)=k) (HQ:k+1+PredP.lead PredP.inWord ((bs s).drop (k+1))=q) (h:¬(∃hlt:q<s.size,s[q]=34∧1≤q - k - 1∧q - k - 1≤8)):PredP.tokFrom (bs s) i=⟨1,k,k⟩:=by
 rw[PredP.tokFrom,HK]
 exact word_not hlt hq HQ h (hide rfl)
theorem tf_sign {s:ByteArray} {i k:Nat} (hlt:k<s.size) (h1:PredP.letter s[k]=false) (h2:¬s[k]=34) (h3:PredP.sign s[k]=true) (HK:i+PredP.lead PredP.blank ((bs s).drop i)=k):PredP.tokFrom (bs s) i=⟨s[k].toNat,k,k+1⟩:=by
 rw[PredP.tokFrom,HK]
 exact here_sign hlt h1 h2 h3 rfl
theorem tf_none {s:ByteArray} {i k:Nat} (hlt:k<s.size) (h1:PredP.letter s[k]=false) (h2:¬s[k]=34) (h3:PredP.sign s[k]=false) (HK:i+PredP.lead PredP.blank ((bs s).drop i)=k):PredP.tokFrom (bs s) i=⟨1,k,k⟩:=by
 rw[PredP.tokFrom,HK]
 exact here_none hlt h1 h2 h3 rfl
def sgl:List Int:=[61,46,124,91,93,123,125,40,41]
abbrev sgv:Array Value:=#[.int .u8 61,.int .u8 46,.int .u8 124,.int .u8 91,.int .u8 93,.int .u8 123,.int .u8 125,.int .u8 40,.int .u8 41]
def sgF (z:Int) (n:Nat):Bool:=(sgl.take n).contains z
theorem sgF_succ (z:Int) (n:Nat) (h:n<9):sgF z (n+1)=(sgF z n||z==sgl.getD n 0):=by
 unfold sgF
 have hl:n<sgl.length:=h
 rw[List.take_succ_eq_append_getElem hl,List.contains_append]
 rw[Bool.eq_iff_iff]
 simp[List.getD,List.getElem?_eq_getElem hl]
theorem sgF_once:∀n,n<9→sgF (sgl.getD n 0) n=false:=by decide
theorem sgF_sign (c:UInt8):sgF (c.toNat:Int) 9=PredP.sign c:=by
 rw[PredP.sign_int]
 unfold sgF sgl
 rw[Bool.eq_iff_iff]
 simp
theorem sgv_at:∀n,n<9→sgv[n]?=some (.int .u8 (sgl.getD n 0)):=by
 intro n hn
 match n,hn with
 | 0,_=>rfl
 | 1,_=>rfl
 | 2,_=>rfl
 | 3,_=>rfl
 | 4,_=>rfl
 | 5,_=>rfl
 | 6,_=>rfl
 | 7,_=>rfl
 | 8,_=>rfl
theorem extract_one (s:ByteArray) (k:Nat) (h:k<s.size):s.extract k (k+1)=⟨#[s[k]]⟩:=by
 have h':k<s.data.size:=h
 apply ByteArray.ext
 rw[ByteArray.data_extract]
 apply Array.ext
 ·simp;omega
 ·intro i h1 h2
  simp at h2
  subst h2
  simp
  rfl
theorem one_ne {s:ByteArray} {k:Nat} (h:k<s.size):((s.extract k (k+1)).toList==[110,111,110,101])=false∧((s.extract k (k+1)).toList==[101,110,100])=false ∧
  ((s.extract k (k+1)).toList==(ByteArray.mk #[110,111,110,101]).toList)=false∧((s.extract k (k+1)).toList==(ByteArray.mk #[101,110,100]).toList)=false:=by
 rw[extract_one s k h,ByteArray.toList_eq,ByteArray.toList_eq,ByteArray.toList_eq]
 simp
theorem sign_num {c:UInt8} (h:PredP.sign c=true):c.toNat≠0∧c.toNat≠1∧c.toNat≠97∧c.toNat≠34:=by
 rw[PredP.sign_int]at h
 simp at h
 omega
theorem sign_last {s:ByteArray} {k j:Nat} {h:k<s.size} (hs:PredP.sign s[k]=true):(⟨s[k].toNat,k,j⟩:PredP.Tok).last=false:=by
 obtain⟨a,b,_,_⟩:=sign_num hs
 simp[PredP.Tok.last,a,b]
theorem sign_cells {s:ByteArray} {k:Nat} (h:k<s.size) (hs:PredP.sign s[k]=true):tokC s ⟨s[k].toNat,k,k+1⟩=[.string (s.extract k (k+1)),.string ⟨#[]⟩,.int .i64 (k:Int)]:=by
 obtain⟨a,b,c,d⟩:=sign_num hs
 unfold tokC kindB textB
 rw[extract_one s k h]
 simp[a,b,c,d]
abbrev sgW (wr:World) (b:ByteArray) (k:Nat):World:=(wr.alloc (.cells #[.string b,.string ⟨#[]⟩,.int .i64 (k:Int)] 81)).alloc (.cells sgv 5 (9,10))
theorem sgW_at (wr:World) (b:ByteArray) (k n:Nat) (hn:n<9):(sgW wr b k).cell? ⟨wr.heap.size+1,n,none⟩=some (.int .u8 (sgl.getD n 0)):=by
 have h:=heap_alloc_new (wr.alloc (.cells #[.string b,.string ⟨#[]⟩,.int .i64 (k:Int)] 81)) (.cells sgv 5 (9,10))
 rw[World.size_alloc]at h
 simp only[World.cell?,h]
 exact sgv_at n hn
theorem tokens_any (s:ByteArray) (hs:s.size≤400) (w:World):Calls Tryz.prog 30 #[.string s] w (TkPost s w):=by
 have hrel0:TkRel s w (.slice none 0 0) w 0 [] (s.size+1):=⟨by rw[PredP.toks,PredP.bs_length];rfl,by omega,Nat.zero_le _,World.ownsRow_nil _ _ _ _,Below.refl _ _,Nat.zero_le _⟩
 obtain⟨i0,hi,hz0,hz1,hz2⟩:=info_parts infoTok
 go_enter Tryz.func30,Tryz.ntmps30
 go_wp2_with fail
 go_loopw [3,4] (fun v t wr=>∃(i:Nat) (acc:List PredP.Tok) (m:Nat),t=.int .i64 i∧TkRel s w v wr i acc m) (fun _ t _=>s.size - (intOf t).toNat)
 case atStart=>exact⟨0,_,_,rfl,hrel0⟩
 case round =>
  clear hrel0
  obtain⟨i,acc,m,rfl,hR⟩:=hrel
  obtain⟨W0,rfl⟩:∃W0,W0=wr:=⟨wr,rfl⟩
  have hbelow:=hR.below
  have hsz:=hbelow.size
  have hsh:=hR.short
  have hle:=hR.le
  have hO:=hR.own
  go_wp2_with fail
  go_loop [4] (fun t=>∃k:Nat,i≤k∧k≤s.size∧t=.int .i64 k∧PredP.Run PredP.blank s i k) (fun t=>s.size - (intOf t).toNat)
  case atStart=>exact⟨i,Nat.le_refl _,hle,rfl,PredP.Run.nil _ _ _⟩
  case round =>
   obtain⟨k,hk1,hk2,rfl,hr⟩:=hrel
   by_cases hlt:k<s.size
   ·have hne:((k:Int)==(s.size:Int))=false:=by simp;omega
    cases hbl:PredP.blank s[k]
    ·have HK:=hide (hr.stop hlt hk1 hbl)
     rw[PredP.blank_int]at hbl
     have h32:((s[k].toNat:Int)==32)=false:=by simp at hbl ⊢;omega
     have h10:((s[k].toNat:Int)==10)=false:=by simp at hbl ⊢;omega
     clear hbl hr
     cases h1:PredP.letter s[k]
     ·by_cases hc:(s[k].toNat:Int)=34
      ·have hb:((s[k].toNat:Int)==34)=true:=by simpa using hc
       have HC:Hid (s[k]=34):=by
        rw[←UInt8.toNat_inj]
        show _=34
        omega
       clear hc
       go_wp2_with (go_at_call 50;refine(small_any _ _).mono ?_;rintro e w' ⟨rfl,rfl⟩)
       go_loop [6] (fun t=>∃q:Nat,k+1≤q∧q≤s.size∧t=.int .i64 q∧PredP.Run PredP.inWord s (k+1) q) (fun t=>s.size - (intOf t).toNat)
       case atStart=>exact⟨k+1,Nat.le_refl _,hlt,by go_num,PredP.Run.nil _ _ _⟩
       case round =>
        obtain⟨q,hq1,hq2,rfl,hr⟩:=hrel
        by_cases hq:q<s.size
        ·have HM:=hide (fun h=>hr.more hq hq1 h)
         have HS:=hide (fun h=>hr.stop hq hq1 h)
         rw[PredP.inWord_int]at HM HS
         clear hr
         by_cases a1:32<(s[q].toNat:Int)
         ·by_cases a2:(s[q].toNat:Int)<127
          ·by_cases a3:(s[q].toNat:Int)=34
           ·have b3:((s[q].toNat:Int)==34)=true:=by simpa using a3
            have b4:((s[q].toNat:Int) != 34)=false:=by simpa using a3
            have HE:Hid (s[q]=34):=by
             rw[←UInt8.toNat_inj]
             show _=34
             omega
            have HQ:=hide (HS.out (decide_eq_false (by omega)))
            clear a3 HM HS
            by_cases c1:(k:Int)+1<(q:Int)
            ·by_cases c2:(q:Int) - (k:Int) - 1≤8
             ·have f1:(0:Int)≤(k:Int)+1:=by omega
              have f2:(k:Int)+1≤(q:Int):=by omega
              have f3:(q:Int)≤(s.size:Int):=by omega
              go_wp2_with (at_builtin;refine wpList_append_own_at _ rfl _ _ _ rfl w.heap.size 81 i0 (.agg #[.string ⟨#[]⟩,.string ⟨#[]⟩,.int .i64 0]) 3 40 (by kernel_rfl) hi hz0 hz1 hz2 rfl (by decide) _ acc.length _ rfl ((hO.alloc _).alloc _) _ 1 1 [_,_,_] rfl rfl (tk_three _ _ _ _ _ _) (by simp[Value.oneCell']) (by unfold maxLen;omega) (by omega) (by simp;omega) ?_;intro v' w2 hown2 hgrow2 _ hloc2;have q0:=tk_box (k:=0) hO hgrow2 rfl;have hb2:=tk_below rfl hbelow hO hgrow2)
              exact Tk.more hR (tf_word hlt HC.out HK.out HQ.out hq HE.out (by omega) (by omega)) rfl hown2 hb2
             ·go_wp2_with (at_builtin;refine wpList_append_own_at _ rfl _ _ _ rfl w.heap.size 81 i0 (.agg #[.string ⟨#[]⟩,.string ⟨#[]⟩,.int .i64 0]) 3 40 (by kernel_rfl) hi hz0 hz1 hz2 rfl (by decide) _ acc.length _ rfl ((hO.alloc _).alloc _) _ 1 1 [_,_,_] rfl rfl (tk_three _ _ _ _ _ _) (by simp[Value.oneCell']) (by unfold maxLen;omega) (by omega) (by simp;omega) ?_;intro v' w2 hown2 hgrow2 _ hloc2;have q0:=tk_box (k:=0) hO hgrow2 rfl;have hb2:=tk_below rfl hbelow hO hgrow2)
              go_ret
              exact Tk.last hR (tf_noword hlt HC.out HK.out HQ.out (fun⟨_,_,_,h⟩=>by omega)) rfl hown2 hb2
            ·go_wp2_with (at_builtin;refine wpList_append_own_at _ rfl _ _ _ rfl w.heap.size 81 i0 (.agg #[.string ⟨#[]⟩,.string ⟨#[]⟩,.int .i64 0]) 3 40 (by kernel_rfl) hi hz0 hz1 hz2 rfl (by decide) _ acc.length _ rfl ((hO.alloc _).alloc _) _ 1 1 [_,_,_] rfl rfl (tk_three _ _ _ _ _ _) (by simp[Value.oneCell']) (by unfold maxLen;omega) (by omega) (by simp;omega) ?_;intro v' w2 hown2 hgrow2 _ hloc2;have q0:=tk_box (k:=0) hO hgrow2 rfl;have hb2:=tk_below rfl hbelow hO hgrow2)
             go_ret
             exact Tk.last hR (tf_noword hlt HC.out HK.out HQ.out (fun⟨_,_,h,_⟩=>by omega)) rfl hown2 hb2
           ·have b3:((s[q].toNat:Int)==34)=false:=by simpa using a3
            have b4:((s[q].toNat:Int) != 34)=true:=by rw[bne_iff_ne];exact a3
            clear a3
            go_wp2_with fail
            simp only[beq_eq_false_iff_ne,ne_eq]at b3
            exact⟨⟨q+1,by omega,by omega,by go_num,HM.out (decide_eq_true (by omega))⟩,by simp[intOf];omega⟩
          ·have b3:((s[q].toNat:Int)==34)=false:=by rw[beq_eq_false_iff_ne];omega
           have HE:Hid (¬s[q]=34):=fun e=>by rw[e]at a2;exact a2 (by decide)
           have HQ:=hide (HS.out (decide_eq_false (by omega)))
           clear HM HS
           go_wp2_with (at_builtin;refine wpList_append_own_at _ rfl _ _ _ rfl w.heap.size 81 i0 (.agg #[.string ⟨#[]⟩,.string ⟨#[]⟩,.int .i64 0]) 3 40 (by kernel_rfl) hi hz0 hz1 hz2 rfl (by decide) _ acc.length _ rfl ((hO.alloc _).alloc _) _ 1 1 [_,_,_] rfl rfl (tk_three _ _ _ _ _ _) (by simp[Value.oneCell']) (by unfold maxLen;omega) (by omega) (by simp;omega) ?_;intro v' w2 hown2 hgrow2 _ hloc2;have q0:=tk_box (k:=0) hO hgrow2 rfl;have hb2:=tk_below rfl hbelow hO hgrow2)
           go_ret
           exact Tk.last hR (tf_noword hlt HC.out HK.out HQ.out (fun⟨_,h,_⟩=>HE.out h)) rfl hown2 hb2
         ·have b3:((s[q].toNat:Int)==34)=false:=by rw[beq_eq_false_iff_ne];omega
          have HE:Hid (¬s[q]=34):=fun e=>by rw[e]at a1;exact a1 (by decide)
          have HQ:=hide (HS.out (decide_eq_false (by omega)))
          clear HM HS
          go_wp2_with (at_builtin;refine wpList_append_own_at _ rfl _ _ _ rfl w.heap.size 81 i0 (.agg #[.string ⟨#[]⟩,.string ⟨#[]⟩,.int .i64 0]) 3 40 (by kernel_rfl) hi hz0 hz1 hz2 rfl (by decide) _ acc.length _ rfl ((hO.alloc _).alloc _) _ 1 1 [_,_,_] rfl rfl (tk_three _ _ _ _ _ _) (by simp[Value.oneCell']) (by unfold maxLen;omega) (by omega) (by simp;omega) ?_;intro v' w2 hown2 hgrow2 _ hloc2;have q0:=tk_box (k:=0) hO hgrow2 rfl;have hb2:=tk_below rfl hbelow hO hgrow2)
          go_ret
          exact Tk.last hR (tf_noword hlt HC.out HK.out HQ.out (fun⟨_,h,_⟩=>HE.out h)) rfl hown2 hb2
        ·have HQ:=hide (hr.done hq hq1 hq2)
         clear hr
         go_wp2_with (at_builtin;refine wpList_append_own_at _ rfl _ _ _ rfl w.heap.size 81 i0 (.agg #[.string ⟨#[]⟩,.string ⟨#[]⟩,.int .i64 0]) 3 40 (by kernel_rfl) hi hz0 hz1 hz2 rfl (by decide) _ acc.length _ rfl ((hO.alloc _).alloc _) _ 1 1 [_,_,_] rfl rfl (tk_three _ _ _ _ _ _) (by simp[Value.oneCell']) (by unfold maxLen;omega) (by omega) (by simp;omega) ?_;intro v' w2 hown2 hgrow2 _ hloc2;have q0:=tk_box (k:=0) hO hgrow2 rfl;have hb2:=tk_below rfl hbelow hO hgrow2)
         go_ret
         exact Tk.last hR (tf_noword hlt HC.out HK.out HQ.out (fun⟨h,_⟩=>hq h)) rfl hown2 hb2
      ·have hb:((s[k].toNat:Int)==34)=false:=by simpa using hc
       have HC:Hid (¬s[k]=34):=by
        rw[←UInt8.toNat_inj]
        show ¬_=34
        omega
       clear hc
       have hconv:=_root_.Go.Joins.run_convert_bytes_const_at (P:=Tryz.prog) (W0.alloc (.cells #[.string ⟨#[110,111,110,101]⟩,.string ⟨#[]⟩,.int .i64 (k:Int)] 81)) 72 5 sgv 9 9 (W0.heap.size+1) (by simp) Tryz.underlying72 Tryz.underlying5
       go_wp2_with (go_at_call 50;refine(small_any _ _).mono ?_;rintro e w' ⟨rfl,rfl⟩)
       go_loopw [33,6] (fun a b W=>∃n:Nat,n≤9∧a=.int .i64 n∧((sgF (s[k].toNat:Int) n=false∧b=.int .i64 k∧W=sgW W0 ⟨#[110,111,110,101]⟩ k)∨(sgF (s[k].toNat:Int) n=true∧b=.int .i64 ((k+1:Nat):Int)∧W=sgW W0 (s.extract k (k+1)) k))) (fun a _ _=>9 - (intOf a).toNat)
       case atStart=>exact⟨0,by omega,rfl,.inl ⟨rfl,rfl,rfl⟩⟩
       case round =>
        clear hconv
        obtain⟨n,hn,rfl,hcase⟩:=hrel
        by_cases hn9:n<9
        ·have hz:=sgF_succ (s[k].toNat:Int) n hn9
         have ho:=sgF_once n hn9
         have hA:=fun b=>sgW_at W0 b k n hn9
         obtain⟨z,hzz⟩:∃z,sgl.getD n 0=z:=⟨_,rfl⟩
         rw[hzz]at hz ho hA
         clear hzz
         by_cases he:(s[k].toNat:Int)=z
         ·subst he
          rcases hcase with ⟨h0,rfl,rfl⟩ | ⟨h0,rfl,rfl⟩
          ·have hA:=hA ⟨#[110,111,110,101]⟩
           have HZ:=hide hz
           clear hz ho h0
           have f1:(k:Int)+1≤(s.size:Int):=by omega
           have f2:(k:Int)≤(k:Int)+1:=by omega
           go_wp2_with fail
           exact⟨⟨n+1,Nat.succ_le_of_lt hn9,by go_num,.inr ⟨by rw[HZ.out];simp,rfl,trivial⟩⟩,by simp[intOf];omega⟩
          ·rw[ho]at h0;cases h0
         ·have he':((s[k].toNat:Int)==z)=false:=by simpa using he
          have HZ:=hide hz
          rcases hcase with ⟨h0,rfl,rfl⟩ | ⟨h0,rfl,rfl⟩
          ·have hA:=hA ⟨#[110,111,110,101]⟩
           have H0:=hide h0
           clear hz ho h0
           go_wp2_with fail
           exact⟨⟨n+1,Nat.succ_le_of_lt hn9,by go_num,.inl ⟨by rw[HZ.out,H0.out];simpa using he,rfl,trivial⟩⟩,by simp[intOf];omega⟩
          ·have hA:=hA (s.extract k (k+1))
           have H0:=hide h0
           clear hz ho h0
           go_wp2_with fail
           exact⟨⟨n+1,Nat.succ_le_of_lt hn9,by go_num,.inr ⟨by rw[HZ.out,H0.out];rfl,rfl,trivial⟩⟩,by simp[intOf];omega⟩
        ·have hn':n=9:=by omega
         subst hn'
         rcases hcase with ⟨h0,rfl,rfl⟩ | ⟨h0,rfl,rfl⟩
         ·have H0:=hide h0
          clear h0
          go_wp2_with (at_builtin;refine wpList_append_own_at _ rfl _ _ _ rfl w.heap.size 81 i0 (.agg #[.string ⟨#[]⟩,.string ⟨#[]⟩,.int .i64 0]) 3 40 (by kernel_rfl) hi hz0 hz1 hz2 rfl (by decide) _ acc.length _ rfl (((hO.alloc _).alloc _).alloc _) _ 1 1 [_,_,_] rfl rfl (tk_three2 _ _ _ _ _ _ _) (by simp[Value.oneCell']) (by unfold maxLen;omega) (by omega) (by simp;omega) ?_;intro v' w2 hown2 hgrow2 _ hloc2;have q0:=tk_box2 (k:=0) hO hgrow2 rfl;have hb2:=tk_below2 rfl hbelow hO hgrow2)
          go_ret
          exact Tk.last hR (tf_none hlt h1 HC.out (by rw[←sgF_sign];exact H0.out) HK.out) rfl hown2 hb2
         ·have H0:=hide h0
          clear h0
          have HS:=hide ((sgF_sign s[k]).symm.trans H0.out)
          obtain⟨x1,x2,x3,x4⟩:=one_ne hlt
          go_wp2_with (at_builtin;refine wpList_append_own_at _ rfl _ _ _ rfl w.heap.size 81 i0 (.agg #[.string ⟨#[]⟩,.string ⟨#[]⟩,.int .i64 0]) 3 40 (by kernel_rfl) hi hz0 hz1 hz2 rfl (by decide) _ acc.length _ rfl (((hO.alloc _).alloc _).alloc _) _ 1 1 [_,_,_] rfl rfl (tk_three2 _ _ _ _ _ _ _) (by simp[Value.oneCell']) (by unfold maxLen;omega) (by omega) (by simp;omega) ?_;intro v' w2 hown2 hgrow2 _ hloc2;have q0:=tk_box2 (k:=0) hO hgrow2 rfl;have hb2:=tk_below2 rfl hbelow hO hgrow2)
          exact Tk.more hR (tf_sign hlt h1 HC.out HS.out HK.out) (sign_last HS.out) (by rw[sign_cells hlt HS.out];exact hown2) hb2
     ·go_wp2_with (go_at_call 50;refine(small_any _ _).mono ?_;rintro e w' ⟨rfl,rfl⟩)
      go_loop [6] (fun t=>∃q:Nat,k≤q∧q≤s.size∧t=.int .i64 q∧PredP.Run PredP.alnum s k q) (fun t=>s.size - (intOf t).toNat)
      case atStart=>exact⟨k,Nat.le_refl _,hk2,rfl,PredP.Run.nil _ _ _⟩
      case round =>
       obtain⟨q,hq1,hq2,rfl,hr⟩:=hrel
       by_cases hq:q<s.size
       ·have HM:=hide (fun h=>hr.more hq hq1 h)
        have HS:=hide (fun h=>hr.stop hq hq1 h)
        cases g1:PredP.letter s[q]
        ·cases g2:PredP.digit s[q]
         ·have HQ:=hide (lead_first hlt (alnum_l h1) (HS.out (alnum_f g1 g2)))
          clear HM HS hr
          by_cases h8:(q:Int) - (k:Int)≤8
          ·go_wp2_with (first | (go_at_call 50;refine(small_any _ _).mono ?_;rintro e w' ⟨rfl,rfl⟩) | (go_at_call 51;refine(figure_any _ _).mono ?_;rintro e w' ⟨rfl,rfl⟩) | (at_builtin;refine wpList_append_own_at _ rfl _ _ _ rfl w.heap.size 81 i0 (.agg #[.string ⟨#[]⟩,.string ⟨#[]⟩,.int .i64 0]) 3 40 (by kernel_rfl) hi hz0 hz1 hz2 rfl (by decide) _ acc.length _ rfl ((hO.alloc _).alloc _) _ 1 1 [_,_,_] rfl rfl (tk_three _ _ _ _ _ _) (by simp[Value.oneCell']) (by unfold maxLen;omega) (by omega) (by simp;omega) ?_;intro v' w2 hown2 hgrow2 _ hloc2;have q0:=tk_box (k:=0) hO hgrow2 rfl;have hb2:=tk_below rfl hbelow hO hgrow2))
           exact Tk.more hR (tf_name hlt h1 HK.out HQ.out h8) rfl hown2 hb2
          ·go_wp2_with (first | (go_at_call 50;refine(small_any _ _).mono ?_;rintro e w' ⟨rfl,rfl⟩) | (go_at_call 51;refine(figure_any _ _).mono ?_;rintro e w' ⟨rfl,rfl⟩) | (at_builtin;refine wpList_append_own_at _ rfl _ _ _ rfl w.heap.size 81 i0 (.agg #[.string ⟨#[]⟩,.string ⟨#[]⟩,.int .i64 0]) 3 40 (by kernel_rfl) hi hz0 hz1 hz2 rfl (by decide) _ acc.length _ rfl ((hO.alloc _).alloc _) _ 1 1 [_,_,_] rfl rfl (tk_three _ _ _ _ _ _) (by simp[Value.oneCell']) (by unfold maxLen;omega) (by omega) (by simp;omega) ?_;intro v' w2 hown2 hgrow2 _ hloc2;have q0:=tk_box (k:=0) hO hgrow2 rfl;have hb2:=tk_below rfl hbelow hO hgrow2))
           go_ret
           exact Tk.last hR (tf_long hlt h1 HK.out HQ.out (by omega)) rfl hown2 hb2
         ·go_wp2_with (first | (go_at_call 50;refine(small_any _ _).mono ?_;rintro e w' ⟨rfl,rfl⟩) | (go_at_call 51;refine(figure_any _ _).mono ?_;rintro e w' ⟨rfl,rfl⟩))
          exact⟨⟨q+1,by omega,by omega,by go_num,HM.out (alnum_d g2)⟩,by simp[intOf];omega⟩
        ·go_wp2_with (go_at_call 50;refine(small_any _ _).mono ?_;rintro e w' ⟨rfl,rfl⟩)
         exact⟨⟨q+1,by omega,by omega,by go_num,HM.out (alnum_l g1)⟩,by simp[intOf];omega⟩
       ·have HQ:=hide (lead_first hlt (alnum_l h1) (hr.done hq hq1 hq2))
        clear hr
        by_cases h8:(q:Int) - (k:Int)≤8
        ·go_wp2_with (first | (go_at_call 50;refine(small_any _ _).mono ?_;rintro e w' ⟨rfl,rfl⟩) | (go_at_call 51;refine(figure_any _ _).mono ?_;rintro e w' ⟨rfl,rfl⟩) | (at_builtin;refine wpList_append_own_at _ rfl _ _ _ rfl w.heap.size 81 i0 (.agg #[.string ⟨#[]⟩,.string ⟨#[]⟩,.int .i64 0]) 3 40 (by kernel_rfl) hi hz0 hz1 hz2 rfl (by decide) _ acc.length _ rfl ((hO.alloc _).alloc _) _ 1 1 [_,_,_] rfl rfl (tk_three _ _ _ _ _ _) (by simp[Value.oneCell']) (by unfold maxLen;omega) (by omega) (by simp;omega) ?_;intro v' w2 hown2 hgrow2 _ hloc2;have q0:=tk_box (k:=0) hO hgrow2 rfl;have hb2:=tk_below rfl hbelow hO hgrow2))
         exact Tk.more hR (tf_name hlt h1 HK.out HQ.out h8) rfl hown2 hb2
        ·go_wp2_with (first | (go_at_call 50;refine(small_any _ _).mono ?_;rintro e w' ⟨rfl,rfl⟩) | (go_at_call 51;refine(figure_any _ _).mono ?_;rintro e w' ⟨rfl,rfl⟩) | (at_builtin;refine wpList_append_own_at _ rfl _ _ _ rfl w.heap.size 81 i0 (.agg #[.string ⟨#[]⟩,.string ⟨#[]⟩,.int .i64 0]) 3 40 (by kernel_rfl) hi hz0 hz1 hz2 rfl (by decide) _ acc.length _ rfl ((hO.alloc _).alloc _) _ 1 1 [_,_,_] rfl rfl (tk_three _ _ _ _ _ _) (by simp[Value.oneCell']) (by unfold maxLen;omega) (by omega) (by simp;omega) ?_;intro v' w2 hown2 hgrow2 _ hloc2;have q0:=tk_box (k:=0) hO hgrow2 rfl;have hb2:=tk_below rfl hbelow hO hgrow2))
         go_ret
         exact Tk.last hR (tf_long hlt h1 HK.out HQ.out (by omega)) rfl hown2 hb2
    ·have HM:=hide (hr.more hlt hk1 hbl)
     rw[PredP.blank_int]at hbl
     by_cases a1:(s[k].toNat:Int)=32
     ·have b1:((s[k].toNat:Int)==32)=true:=by simpa using a1
      clear hbl a1
      go_wp2_with fail
      exact⟨⟨k+1,by omega,by omega,by go_num,HM.out⟩,by simp[intOf];omega⟩
     ·have b1:((s[k].toNat:Int)==32)=false:=by simpa using a1
      have b2:((s[k].toNat:Int)==10)=true:=by simp at hbl ⊢;omega
      clear hbl a1
      go_wp2_with fail
      exact⟨⟨k+1,by omega,by omega,by go_num,HM.out⟩,by simp[intOf];omega⟩
   ·have hne:((k:Int)==(s.size:Int))=true:=by simp;omega
    have HK:=hide (hr.done hlt hk1 hk2)
    clear hr
    go_wp2_with (at_builtin;refine wpList_append_own_at _ rfl _ _ _ rfl w.heap.size 81 i0 (.agg #[.string ⟨#[]⟩,.string ⟨#[]⟩,.int .i64 0]) 3 40 (by kernel_rfl) hi hz0 hz1 hz2 rfl (by decide) _ acc.length _ rfl ((hO.alloc _).alloc _) _ 1 1 [_,_,_] rfl rfl (tk_three _ _ _ _ _ _) (by simp[Value.oneCell']) (by unfold maxLen;omega) (by omega) (by simp;omega) ?_;intro v' w2 hown2 hgrow2 _ hloc2;have q0:=tk_box (k:=0) hO hgrow2 rfl;have hb2:=tk_below rfl hbelow hO hgrow2)
    go_ret
    exact Tk.last hR (tf_end hlt HK.out) rfl hown2 hb2
end Go.Proofs.YtpcmemcanpgadaaGreatDoor
