import Derived.Test.YtpcmemcanpgadaaGreatDoorTokG
import Derived.Test.YtpcmemcanpgadaaGreatDoorShelf
import Derived.RegionTactic
import Derived.StillTailTactics
import Derived.BigRegion
import Derived.Deep.RegionWith
import Derived.ChangeAlike
import Derived.WalkSmall
set_option maxHeartbeats 1000000
set_option maxRecDepth 100000
namespace Go.Proofs.YtpcmemcanpgadaaGreatDoor
open PredP (hide Str Rule bs)
section
open Go.RowKit
structure But (r:Nat) (w w':World):Prop where
 os:w'.os=w.os
 tape:w'.tape=w.tape
 output:w'.output=w.output
 size:w.heap.size≤w'.heap.size
 block:∀k,k<w.heap.size→k≠r→w'.heap[k]?=w.heap[k]?
theorem But.refl (r:Nat) (w:World):But r w w:=⟨rfl,rfl,rfl,Nat.le_refl _,fun _ _ _=>rfl⟩
theorem But.trans {r:Nat} {a b c:World} (h:But r a b) (k:But r b c):But r a c :=
 ⟨k.os.trans h.os,k.tape.trans h.tape,k.output.trans h.output,Nat.le_trans h.size k.size,fun i hi hr=>(k.block i (Nat.lt_of_lt_of_le hi h.size) hr).trans (h.block i hi hr)⟩
theorem But.of_below {r:Nat} {w w':World} (h:Below w.heap.size w w'):But r w w':=⟨h.os,h.tape,h.output,h.size,fun k hk _=>h.block k hk⟩
theorem But.drew {r:Nat} {a w:World} (h:But r a w):But r a w.drew:=⟨h.os,h.tape,h.output,h.size,h.block⟩
theorem But.setCell {r:Nat} {a w:World} (h:But r a w) {p:Addr} (hp:p.block=r) (u:Value):But r a (w.setCell p u) :=
 h.trans ⟨rfl,rfl,rfl,by simp[World.setCell],fun k _ hr=>Below.heap_setCell _ _ _ _ (by omega)⟩
theorem But.cell {r:Nat} {w w':World} (h:But r w w') {b o:Nat} (hb:b<w.heap.size) (hr:b≠r):w'.cell? ⟨b,o,none⟩=w.cell? ⟨b,o,none⟩:=by
 simp only[World.cell?,h.block b hb hr]
structure Rd (r:Nat) (s:ByteArray) (t:PredP.Tok) (d:Nat) (w:World):Prop where
 c0:w.cell? ⟨r,0,none⟩=some (.string s)
 c1:w.cell? ⟨r,1,none⟩=some (.int .u8 (t.kind:Int))
 c2:w.cell? ⟨r,2,none⟩=some (.int .i64 (t.pos:Int))
 c3:w.cell? ⟨r,3,none⟩=some (.int .i64 (t.to:Int))
 c4:w.cell? ⟨r,4,none⟩=some (.int .i64 (d:Int))
 lt:r<w.heap.size
 fz:∀k,w.frozen? ⟨r,k,none⟩=false
theorem Rd.below {r:Nat} {s:ByteArray} {t:PredP.Tok} {d:Nat} {w w':World} (h:Rd r s t d w) (hb:Below w.heap.size w w'):Rd r s t d w' :=
 have q:=fun k=>hb.cell (p:=⟨r,k,none⟩) h.lt
 ⟨(q 0).trans h.c0,(q 1).trans h.c1,(q 2).trans h.c2,(q 3).trans h.c3,(q 4).trans h.c4,Nat.lt_of_lt_of_le h.lt hb.size,fun k=>(hb.frozen (p:=⟨r,k,none⟩) h.lt).trans (h.fz k)⟩
theorem clone_any (s:ByteArray) (w:World) (h:s.size≤400) :
  Calls Tryz.prog 127 #[.string s] w fun e w'=>e=.returned (.string s)∧Below w.heap.size w w':=by
 go_enter Tryz.func127,Tryz.ntmps127
 go_wp2_with (go_at_call 137;refine(Tryz.stringslite_Clone s _ (by omega)).mono ?_;rintro e w' ⟨rfl,hb⟩)
 go_ret
 exact⟨rfl,hb⟩
theorem mixed:Tryz.prog.follows .mixedOrders=true:=by kernel_rfl
theorem text_any (r:Nat) (s:ByteArray) (t:PredP.Tok) (d:Nat) (w:World) (hs:s.size≤400) (h1:t.pos≤t.to) (h2:t.to≤s.size) (h:Rd r s t d w) :
  Calls Tryz.prog 106 #[.pointer (some ⟨r,0,none⟩)] w fun e w'=>e=.returned (.string (s.extract t.pos t.to))∧Below w.heap.size w w':=by
 obtain⟨c0,c1,c2,c3,c4,lt,fz⟩:=h
 go_enter Tryz.func106,Tryz.ntmps106
 go_wp2_with fail
 go_still_tail 15,mixed
 go_wp2_with (go_at_call 127;refine(clone_any _ _ (by rw[ByteArray.size_extract];omega)).mono ?_;rintro e w' ⟨rfl,hb⟩)
 go_ret
 exact⟨rfl,((Below.refl _ _).drew).trans hb⟩
end
section
open Go.RowKit
theorem cell_fresh {w:World} {cs:Array Value} {ty k:Nat} {v:Value} (h:cs[k]?=some v):(w.alloc (.cells cs ty)).cell? ⟨w.heap.size,k,none⟩=some v:=by
 simp only[World.cell?,heap_alloc_new]
 simpa using h
theorem Rd.drew {r:Nat} {s:ByteArray} {t:PredP.Tok} {d:Nat} {w:World} (h:Rd r s t d w):Rd r s t d w.drew:=⟨h.c0,h.c1,h.c2,h.c3,h.c4,h.lt,h.fz⟩
theorem Rd.store {r:Nat} {s:ByteArray} {t:PredP.Tok} {d:Nat} {w:World} (h:Rd r s t d w) (t':PredP.Tok) :
  Rd r s t' d (((w.setCell ⟨r,1,none⟩ (.int .u8 (t'.kind:Int))).setCell ⟨r,2,none⟩ (.int .i64 (t'.pos:Int))).setCell ⟨r,3,none⟩ (.int .i64 (t'.to:Int))):=by
 obtain⟨c0,c1,c2,c3,c4,lt,fz⟩:=h
 refine⟨?_,?_,?_,?_,?_,by simp[World.setCell];exact lt,fun k=>by simp only[World.frozen?_setCell];exact fz k⟩
 all_goals simp[go_sem,c0,c1,c2,c3,c4]
theorem advance_any (r:Nat) (s:ByteArray) (t t':PredP.Tok) (d:Nat) (w:World) (hs:s.size≤400) (h2:t.to≤s.size) (h:Rd r s t d w) (ht:Hid (PredP.tokFrom (bs s) t.to=t')) :
  Calls Tryz.prog 128 #[.pointer (some ⟨r,0,none⟩)] w fun e w'=>e=.returned (.tuple #[])∧But r w w'∧Rd r s t' d w':=by
 obtain⟨c0,c1,c2,c3,c4,lt,fz⟩:=h
 go_enter Tryz.func128,Tryz.ntmps128
 go_wp2_with fail
 go_region_with (go_at_call 68;refine(tokenFrom_any s t.to t' _ hs h2 ht).mono ?_;rintro e w' ⟨rfl,hb⟩;have q1:=(hb.cell (p:=⟨r,1,none⟩) lt).trans c1;have q2:=(hb.cell (p:=⟨r,2,none⟩) lt).trans c2;have q3:=(hb.cell (p:=⟨r,3,none⟩) lt).trans c3;have g1:=(hb.frozen (p:=⟨r,1,none⟩) lt).trans (fz 1);have g2:=(hb.frozen (p:=⟨r,2,none⟩) lt).trans (fz 2);have g3:=(hb.frozen (p:=⟨r,3,none⟩) lt).trans (fz 3))
 all_goals
  go_end0
  exact⟨rfl,((((But.refl r w).drew.trans (But.of_below hb)).setCell rfl _).setCell rfl _).setCell rfl _,Rd.store (Rd.below (Rd.drew ⟨c0,c1,c2,c3,c4,lt,fz⟩) hb) t'⟩
theorem take_yes (r:Nat) (s:ByteArray) (t t':PredP.Tok) (d k:Nat) (w:World) (hs:s.size≤400) (h2:t.to≤s.size) (h:Rd r s t d w) (hk:t.kind=k) (ht:Hid (PredP.tokFrom (bs s) t.to=t')) :
  Calls Tryz.prog 107 #[.pointer (some ⟨r,0,none⟩),.int .u8 (k:Int)] w fun e w'=>e=.returned .nilIface∧But r w w'∧Rd r s t' d w':=by
 have h':=h
 obtain⟨c0,c1,c2,c3,c4,lt,fz⟩:=h
 rw[hk]at c1
 clear hk
 go_enter Tryz.func107,Tryz.ntmps107
 go_wp2_with (go_at_call 128;refine(advance_any r s t t' d _ hs h2 h' ht).mono ?_;rintro e w' ⟨rfl,hb,hr⟩)
 go_ret
 exact⟨rfl,hb,hr⟩
def Syn (lo:Nat) (w:World) (v:Value) (p:Nat) (deep:Bool):Prop:=∃b,v=.iface 103 (.pointer (some ⟨b,0,none⟩))∧lo≤b∧b<w.heap.size∧w.cell? ⟨b,0,none⟩=some (.int .i64 (p:Int))∧w.cell? ⟨b,1,none⟩=some (.bool deep)
theorem Syn.mono {lo lo':Nat} {w:World} {v:Value} {p:Nat} {deep:Bool} (h:Syn lo w v p deep) (hl:lo'≤lo):Syn lo' w v p deep:=by
 obtain⟨b,e,h1,h2⟩:=h
 exact⟨b,e,Nat.le_trans hl h1,h2⟩
theorem take_not (r:Nat) (s:ByteArray) (t:PredP.Tok) (d k:Nat) (w:World) (h:Rd r s t d w) (hk:t.kind≠k) :
  Calls Tryz.prog 107 #[.pointer (some ⟨r,0,none⟩),.int .u8 (k:Int)] w fun e w'=>∃v,e=.returned v∧Syn w.heap.size w' v t.pos false∧Below w.heap.size w w':=by
 obtain⟨c0,c1,c2,c3,c4,lt,fz⟩:=h
 have hb:((t.kind:Int) != (k:Int))=true:=by rw[bne_iff_ne];omega
 clear hk
 go_enter Tryz.func107,Tryz.ntmps107
 go_wp2_with fail
 go_ret
 exact⟨_,rfl,⟨w.heap.size,rfl,Nat.le_refl _,by simp,cell_fresh rfl,cell_fresh rfl⟩,(Below.refl _ _).alloc (Nat.le_refl _) _⟩
end
end Go.Proofs.YtpcmemcanpgadaaGreatDoor
