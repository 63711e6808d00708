import Derived.Test.YtpcmemcanpgadaaGreatDoorProg
import Derived.Test.YtpcmemcanpgadaaGreatDoorPureB
import Derived.WalkKit
import Derived.Deep.QuietTactic
import Derived.BigQuiet
set_option maxHeartbeats 1000000
namespace Go.Proofs.YtpcmemcanpgadaaGreatDoor
open PredP (hide Str Rule bs)
section
open Go.RowKit
theorem ret_bool {a b:Bool} (h:a=b):Ending.returned (.bool a)=.returned (.bool b):=by rw[h]
theorem ret_int {k:IntKind} {a b:Int} (h:a=b):Ending.returned (.int k a)=.returned (.int k b):=by rw[h]
theorem dec_t {p:Prop} [Decidable p] (h:p):true=decide p:=(decide_eq_true h).symm
theorem dec_f {p:Prop} [Decidable p] (h:¬p):false=decide p:=(decide_eq_false h).symm
theorem isLetter_any (c:UInt8) (w:World) :
  Calls Tryz.prog 102 #[.int .u8 (c.toNat:Int)] w fun e w'=>e=.returned (.bool (PredP.letter c))∧w'=w:=by
 by_cases h:97≤(c.toNat:Int)
 all_goals
  by_cases h':(c.toNat:Int)≤122
  all_goals
   go_enter Tryz.func102,Tryz.ntmps102
   go_wp2
   go_ret
   exact⟨ret_bool (by rw[PredP.letter_int];first | exact dec_t (by omega) | exact dec_f (by omega)),rfl⟩
theorem isDigit_any (c:UInt8) (w:World) :
  Calls Tryz.prog 125 #[.int .u8 (c.toNat:Int)] w fun e w'=>e=.returned (.bool (PredP.digit c))∧w'=w:=by
 by_cases h:48≤(c.toNat:Int)
 all_goals
  by_cases h':(c.toNat:Int)≤57
  all_goals
   go_enter Tryz.func125,Tryz.ntmps125
   go_wp2
   go_ret
   exact⟨ret_bool (by rw[PredP.digit_int];first | exact dec_t (by omega) | exact dec_f (by omega)),rfl⟩
theorem standsInWord_any (c:UInt8) (w:World) :
  Calls Tryz.prog 126 #[.int .u8 (c.toNat:Int)] w fun e w'=>e=.returned (.bool (PredP.inWord c))∧w'=w:=by
 by_cases h:33≤(c.toNat:Int)
 all_goals
  by_cases h':(c.toNat:Int)≤126
  all_goals
   go_enter Tryz.func126,Tryz.ntmps126
   go_wp2
   go_ret
   exact⟨ret_bool (by rw[PredP.inWord_int];first | exact dec_f (by omega) | (rw[Bool.eq_iff_iff];simp;omega)),rfl⟩
theorem isSign_any (c:UInt8) (w:World) :
  Calls Tryz.prog 105 #[.int .u8 (c.toNat:Int)] w fun e w'=>e=.returned (.bool (PredP.sign c))∧w'=w:=by
 go_enter Tryz.func105,Tryz.ntmps105
 go_wp2
 all_goals go_ret
 all_goals refine⟨ret_bool ?_,rfl⟩
 all_goals simp only[beq_iff_eq,beq_eq_false_iff_ne,ne_eq]at *
 all_goals rw[PredP.sign_int]
 all_goals first | exact dec_t (by omega) | exact dec_f (by omega)
theorem skipBlanks_any (s:ByteArray) (i j:Nat) (w:World) (hs:s.size≤400) (hi:i≤s.size) (hj:Hid (i+PredP.lead PredP.blank ((bs s).drop i)=j)) :
  Calls Tryz.prog 101 #[.string s,.int .i64 (i:Int)] w fun e w'=>e=.returned (.int .i64 (j:Int))∧w'=w:=by
 go_enter Tryz.func101,Tryz.ntmps101
 go_wp2
 go_loop [1] (fun t=>∃k:Nat,i≤k∧k≤s.size∧t=.int .i64 k∧PredP.Run PredP.blank s i k) (fun t=>s.size - (intOf t).toNat)
 case atStart=>exact⟨i,Nat.le_refl _,hi,rfl,PredP.Run.nil _ _ _⟩
 case round =>
  obtain⟨k,hk1,hk2,rfl,hr⟩:=hrel
  by_cases hlt:k<s.size
  ·have hm:=fun h=>hr.more hlt hk1 h
   have hst:=fun h=>hr.stop hlt hk1 h
   rw[PredP.blank_int]at hm hst
   have HM:=hide hm
   have HS:=hide hst
   clear hm hst
   go_wp2
   case roundEnd=>exact⟨⟨k+1,by omega,by omega,by go_num,HM.out (decide_eq_true (by omega))⟩,by simp[intOf];omega⟩
   case roundEnd =>
    simp only[beq_iff_eq]at *
    exact⟨⟨k+1,by omega,by omega,by go_num,HM.out (decide_eq_true (by omega))⟩,by simp[intOf];omega⟩
   go_ret
   simp only[beq_eq_false_iff_ne,ne_eq]at *
   exact⟨ret_int (by rw[←hj.out,HS.out (decide_eq_false (by omega))]),trivial⟩
  ·go_wp2
   go_ret
   exact⟨ret_int (by rw[←hj.out,hr.done hlt hk1 hk2]),rfl⟩
abbrev tokV (t:PredP.Tok):Value:=.agg #[.int .u8 (t.kind:Int),.int .i64 (t.pos:Int),.int .i64 (t.to:Int)]
theorem name_long {i k n:Nat} {t:PredP.Tok} (H:Hid ((if n+1≤8 then(⟨97,i,i+1+n⟩:PredP.Tok) else⟨1,i,i⟩)=t)) (hk:i+1+n=k) (h:8<(k:Int) - (i:Int)):t=⟨1,i,i⟩:=by
 rw[←H.out,if_neg (by omega)]
theorem name_short {i k n:Nat} {t:PredP.Tok} (H:Hid ((if n+1≤8 then(⟨97,i,i+1+n⟩:PredP.Tok) else⟨1,i,i⟩)=t)) (hk:i+1+n=k) (h:(k:Int) - (i:Int)≤8):t=⟨97,i,k⟩:=by
 rw[←H.out,if_pos (by omega),hk]
theorem alnum_f {c:UInt8} (h1:PredP.letter c=false) (h2:PredP.digit c=false):PredP.alnum c=false:=by simp[PredP.alnum,h1,h2]
theorem alnum_d {c:UInt8} (h2:PredP.digit c=true):PredP.alnum c=true:=by simp[PredP.alnum,h2]
theorem alnum_l {c:UInt8} (h1:PredP.letter c=true):PredP.alnum c=true:=by simp[PredP.alnum,h1]
theorem nameAt_any (s:ByteArray) (i:Nat) (t:PredP.Tok) (w:World) (hs:s.size≤400) (hi:i<s.size) (hl:PredP.letter s[i]=true) (ht:Hid (PredP.tokHere i ((bs s).drop i)=t)) :
  Calls Tryz.prog 103 #[.string s,.int .i64 (i:Int)] w fun e w'=>e=.returned (tokV t)∧Below w.heap.size w w':=by
 have ht':=ht.out
 rw[PredP.bs_drop s i hi]at ht'
 simp only[PredP.tokHere,hl,if_true]at ht'
 have HT:=hide ht'
 clear ht' ht
 clear hl
 go_enter Tryz.func103,Tryz.ntmps103
 go_wp2_with fail
 go_loop [5] (fun t=>∃k:Nat,i+1≤k∧k≤s.size∧t=.int .i64 k∧PredP.Run PredP.alnum s (i+1) k) (fun t=>s.size - (intOf t).toNat)
 case atStart=>exact⟨i+1,Nat.le_refl _,hi,by go_num,PredP.Run.nil _ _ _⟩
 case round =>
  obtain⟨k,hk1,hk2,rfl,hr⟩:=hrel
  by_cases hlt:k<s.size
  ·have hm:=fun h=>hr.more hlt hk1 h
   have hst:=fun h=>hr.stop hlt hk1 h
   have HM:=hide hm
   have HS:=hide hst
   clear hm hst
   cases h1:PredP.letter s[k]
   ·cases h2:PredP.digit s[k]
    ·have HK:=hide (HS.out (alnum_f h1 h2))
     go_wp2_with (first | (go_at_call 102;refine(isLetter_any _ _).mono ?_;rintro e w' ⟨rfl,rfl⟩) | (go_at_call 125;refine(isDigit_any _ _).mono ?_;rintro e w' ⟨rfl,rfl⟩))
     ·exact bodyPost_ret (v:=.agg #[.int .u8 1,.int .i64 i,.int .i64 i]) (by simp[results,Tryz.results103,go_sem]) rfl ⟨by rw[name_long HT HK.out ‹_›];rfl,(Below.refl _ _).alloc (Nat.le_refl _) _⟩
     ·exact bodyPost_ret (v:=.agg #[.int .u8 97,.int .i64 i,.int .i64 k]) (by simp[results,Tryz.results103,go_sem]) rfl ⟨by rw[name_short HT HK.out ‹_›];rfl,(Below.refl _ _).alloc (Nat.le_refl _) _⟩
    ·go_wp2_with (first | (go_at_call 102;refine(isLetter_any _ _).mono ?_;rintro e w' ⟨rfl,rfl⟩) | (go_at_call 125;refine(isDigit_any _ _).mono ?_;rintro e w' ⟨rfl,rfl⟩))
     exact⟨⟨k+1,by omega,by omega,by go_num,HM.out (alnum_d h2)⟩,by simp[intOf];omega⟩
   ·go_wp2_with (go_at_call 102;refine(isLetter_any _ _).mono ?_;rintro e w' ⟨rfl,rfl⟩)
    exact⟨⟨k+1,by omega,by omega,by go_num,HM.out (alnum_l h1)⟩,by simp[intOf];omega⟩
  ·have HK:=hide (hr.done hlt hk1 hk2)
   go_wp2
   ·exact bodyPost_ret (v:=.agg #[.int .u8 1,.int .i64 i,.int .i64 i]) (by simp[results,Tryz.results103,go_sem]) rfl ⟨by rw[name_long HT HK.out ‹_›];rfl,(Below.refl _ _).alloc (Nat.le_refl _) _⟩
   ·exact bodyPost_ret (v:=.agg #[.int .u8 97,.int .i64 i,.int .i64 k]) (by simp[results,Tryz.results103,go_sem]) rfl ⟨by rw[name_short HT HK.out ‹_›];rfl,(Below.refl _ _).alloc (Nat.le_refl _) _⟩
end
section
open Go.RowKit
theorem word_ok {s:ByteArray} {i k:Nat} {t:PredP.Tok} (hi:i<s.size) (hq:s[i]=34) (hk:i+1+PredP.lead PredP.inWord ((bs s).drop (i+1))=k) (hlt:k<s.size) (hc:s[k]=34)
  (h1:1≤k - i - 1) (h2:k - i - 1≤8) (H:Hid (PredP.tokHere i ((bs s).drop i)=t)):t=⟨34,i,k+1⟩:=by
 have H:=H.out
 rw[PredP.bs_drop s i hi]at H
 have e1:((bs s).drop (i+1))[PredP.lead PredP.inWord ((bs s).drop (i+1))]?=some 34:=by
  rw[List.getElem?_drop,hk,PredP.bs_at s k hlt,hc]
 have e2:PredP.lead PredP.inWord ((bs s).drop (i+1))=k - i - 1:=by omega
 rw[e2]at e1
 simp only[PredP.tokHere,hq,e2,e1]at H
 rw[←H]
 have hl:PredP.letter 34=false:=by decide
 simp[hl,h1,h2]
 omega
theorem word_not {s:ByteArray} {i k:Nat} {t:PredP.Tok} (hi:i<s.size) (hq:s[i]=34) (hk:i+1+PredP.lead PredP.inWord ((bs s).drop (i+1))=k)
  (h:¬(∃hlt:k<s.size,s[k]=34∧1≤k - i - 1∧k - i - 1≤8)) (H:Hid (PredP.tokHere i ((bs s).drop i)=t)):t=⟨1,i,i⟩:=by
 have H:=H.out
 rw[PredP.bs_drop s i hi]at H
 have e2:PredP.lead PredP.inWord ((bs s).drop (i+1))=k - i - 1:=by omega
 have hl:PredP.letter 34=false:=by decide
 simp only[PredP.tokHere,hq,e2,hl]at H
 rw[←H]
 rw[List.getElem?_drop,show i+1+(k - i - 1)=k by omega]
 simp
 intro a b
 refine Nat.lt_of_not_le (fun c=>?_)
 by_cases hlt:k<s.size
 ·rw[PredP.bs_at s k hlt]at a
  exact absurd ⟨hlt,by simpa using a,b,by omega⟩ h
 ·rw[List.getElem?_eq_none (by rw[PredP.bs_length];omega)]at a
  simp at a
theorem wordAt_any (s:ByteArray) (i:Nat) (t:PredP.Tok) (w:World) (hs:s.size≤400) (hi:i<s.size) (hq:Hid (s[i]=34)) (ht:Hid (PredP.tokHere i ((bs s).drop i)=t)) :
  Calls Tryz.prog 104 #[.string s,.int .i64 (i:Int)] w fun e w'=>e=.returned (tokV t)∧Below w.heap.size w w':=by
 go_enter Tryz.func104,Tryz.ntmps104
 go_wp2_with fail
 go_loop [5] (fun t=>∃k:Nat,i+1≤k∧k≤s.size∧t=.int .i64 k∧PredP.Run PredP.inWord s (i+1) k) (fun t=>s.size - (intOf t).toNat)
 case atStart=>exact⟨i+1,Nat.le_refl _,hi,by go_num,PredP.Run.nil _ _ _⟩
 case round =>
  obtain⟨k,hk1,hk2,rfl,hr⟩:=hrel
  by_cases hlt:k<s.size
  ·have hm:=fun h=>hr.more hlt hk1 h
   have hst:=fun h=>hr.stop hlt hk1 h
   have HM:=hide hm
   have HS:=hide hst
   clear hm hst
   cases h1:PredP.inWord s[k]
   ·have HK:=hide (HS.out h1)
    by_cases hc:(s[k].toNat:Int)=34
    ·have hb:((s[k].toNat:Int)==34)=true:=by simpa using hc
     have HC:Hid (s[k]=34):=by
      rw[←UInt8.toNat_inj]
      show _=34
      omega
     clear hc
     go_wp2_with (go_at_call 126;refine(standsInWord_any _ _).mono ?_;rintro e w' ⟨rfl,rfl⟩)
     ·exact bodyPost_ret (v:=.agg #[.int .u8 1,.int .i64 i,.int .i64 i]) (by simp[results,Tryz.results104,go_sem]) rfl ⟨by rw[word_not hi hq.out HK.out (fun⟨_,q⟩=>by omega) ht];rfl,(Below.refl _ _).alloc (Nat.le_refl _) _⟩
     ·exact bodyPost_ret (v:=.agg #[.int .u8 34,.int .i64 i,.int .i64 (k+1)]) (by simp[results,Tryz.results104,go_sem]) rfl ⟨by rw[word_ok hi hq.out HK.out hlt HC.out (by omega) (by omega) ht];rfl,(Below.refl _ _).alloc (Nat.le_refl _) _⟩
     ·exact bodyPost_ret (v:=.agg #[.int .u8 1,.int .i64 i,.int .i64 i]) (by simp[results,Tryz.results104,go_sem]) rfl ⟨by rw[word_not hi hq.out HK.out (fun⟨_,q⟩=>by omega) ht];rfl,(Below.refl _ _).alloc (Nat.le_refl _) _⟩
    ·have hb:((s[k].toNat:Int)==34)=false:=by simpa using hc
     have HC:Hid (¬s[k]=34):=by
      rw[←UInt8.toNat_inj]
      show ¬_=34
      omega
     clear hc
     go_wp2_with (go_at_call 126;refine(standsInWord_any _ _).mono ?_;rintro e w' ⟨rfl,rfl⟩)
     exact bodyPost_ret (v:=.agg #[.int .u8 1,.int .i64 i,.int .i64 i]) (by simp[results,Tryz.results104,go_sem]) rfl ⟨by rw[word_not hi hq.out HK.out (fun⟨_,q⟩=>absurd q.1 HC.out) ht];rfl,(Below.refl _ _).alloc (Nat.le_refl _) _⟩
   ·go_wp2_with (go_at_call 126;refine(standsInWord_any _ _).mono ?_;rintro e w' ⟨rfl,rfl⟩)
    exact⟨⟨k+1,by omega,by omega,by go_num,HM.out h1⟩,by simp[intOf];omega⟩
  ·have HK:=hide (hr.done hlt hk1 hk2)
   go_wp2
   exact bodyPost_ret (v:=.agg #[.int .u8 1,.int .i64 i,.int .i64 i]) (by simp[results,Tryz.results104,go_sem]) rfl ⟨by rw[word_not hi hq.out HK.out (fun⟨_,q⟩=>hlt ‹_›) ht];rfl,(Below.refl _ _).alloc (Nat.le_refl _) _⟩
theorem bcell {W w1:World} (hb:Below W.heap.size W w1):(∀b o,b<W.heap.size→w1.cell? ⟨b,o,none⟩=W.cell? ⟨b,o,none⟩)∧(∀b o,b<W.heap.size→w1.frozen? ⟨b,o,none⟩=W.frozen? ⟨b,o,none⟩) :=
 ⟨fun b o h=>hb.cell (p:=⟨b,o,none⟩) h,fun b o h=>hb.frozen (p:=⟨b,o,none⟩) h⟩
theorem at_name {s:ByteArray} {i j:Nat} {t:PredP.Tok} (h:Hid (PredP.tokFrom (bs s) i=t)) (hj:i+PredP.lead PredP.blank ((bs s).drop i)=j):PredP.tokHere j ((bs s).drop j)=t:=by
 rw[←h.out,PredP.tokFrom,hj]
theorem here_end {s:ByteArray} {j:Nat} {t:PredP.Tok} (hj:s.size≤j) (h:PredP.tokHere j ((bs s).drop j)=t):t=⟨0,j,j⟩:=by
 rw[←h,PredP.bs_drop_end s j hj];rfl
theorem here_sign {s:ByteArray} {j:Nat} {t:PredP.Tok} (hj:j<s.size) (h1:PredP.letter s[j]=false) (h2:¬s[j]=34) (h3:PredP.sign s[j]=true) (h:PredP.tokHere j ((bs s).drop j)=t):t=⟨s[j].toNat,j,j+1⟩:=by
 rw[←h,PredP.bs_drop s j hj]
 simp[PredP.tokHere,h1,h2,h3]
theorem here_none {s:ByteArray} {j:Nat} {t:PredP.Tok} (hj:j<s.size) (h1:PredP.letter s[j]=false) (h2:¬s[j]=34) (h3:PredP.sign s[j]=false) (h:PredP.tokHere j ((bs s).drop j)=t):t=⟨1,j,j⟩:=by
 rw[←h,PredP.bs_drop s j hj]
 simp[PredP.tokHere,h1,h2,h3]
theorem tokenFrom_any (s:ByteArray) (i:Nat) (t:PredP.Tok) (w:World) (hs:s.size≤400) (hi:i≤s.size) (ht:Hid (PredP.tokFrom (bs s) i=t)) :
  Calls Tryz.prog 68 #[.string s,.int .i64 (i:Int)] w fun e w'=>e=.returned (tokV t)∧Below w.heap.size w w':=by
 obtain⟨j,hj⟩:∃j,i+PredP.lead PredP.blank ((bs s).drop i)=j:=⟨_,rfl⟩
 have hle:j≤s.size:=by
  have:=PredP.lead_le PredP.blank ((bs s).drop i)
  rw[List.length_drop,PredP.bs_length]at this
  omega
 have HT:=hide (at_name ht hj)
 have HJ:=hide hj
 clear hj ht
 by_cases hlt:j<s.size
 ·have hne:((j:Int)==(s.size:Int))=false:=by simp;omega
  cases h1:PredP.letter s[j]
  ·by_cases hc:(s[j].toNat:Int)=34
   ·have hb:((s[j].toNat:Int)==34)=true:=by simpa using hc
    have HC:Hid (s[j]=34):=by
     rw[←UInt8.toNat_inj]
     show _=34
     omega
    clear hc
    go_enter Tryz.func68,Tryz.ntmps68
    go_wp2_with fail
    refine(skipBlanks_any s i j _ hs hi HJ).mono ?_
    rintro e w' ⟨rfl,rfl⟩
    go_wp2_with fail
    refine(isLetter_any _ _).mono ?_
    rintro e w' ⟨rfl,rfl⟩
    go_wp2_with fail
    refine(wordAt_any s j t _ hs hlt HC HT).mono ?_
    rintro e w' ⟨rfl,hb1⟩
    obtain⟨hc1,hf1⟩:=bcell hb1
    go_wp2_with fail
    exact bodyPost_ret (v:=tokV t) (by simp[results,Tryz.results68,go_sem,hc1]) rfl ⟨rfl,(((((Below.refl _ _).alloc (Nat.le_refl _) _).trans (hb1.mono (by simp))).setCell (Nat.le_refl _) _).setCell (Nat.le_refl _) _).setCell (Nat.le_refl _) _⟩
   ·have hb:((s[j].toNat:Int)==34)=false:=by simpa using hc
    have HC:Hid (¬s[j]=34):=by
     rw[←UInt8.toNat_inj]
     show ¬_=34
     omega
    clear hc
    cases h3:PredP.sign s[j]
    all_goals
     go_enter Tryz.func68,Tryz.ntmps68
     go_wp2_with fail
     refine(skipBlanks_any s i j _ hs hi HJ).mono ?_
     rintro e w' ⟨rfl,rfl⟩
     go_wp2_with fail
     refine(isLetter_any _ _).mono ?_
     rintro e w' ⟨rfl,rfl⟩
     go_wp2_with fail
     refine(isSign_any _ _).mono ?_
     rintro e w' ⟨rfl,rfl⟩
     go_wp2_with fail
    ·exact bodyPost_ret (v:=.agg #[.int .u8 1,.int .i64 j,.int .i64 j]) (by simp[results,Tryz.results68,go_sem]) rfl ⟨by rw[here_none hlt h1 HC.out h3 HT.out];rfl,(Below.refl _ _).alloc (Nat.le_refl _) _⟩
    ·exact bodyPost_ret (v:=.agg #[.int .u8 s[j].toNat,.int .i64 j,.int .i64 (j+1)]) (by simp[results,Tryz.results68,go_sem]) rfl ⟨by rw[here_sign hlt h1 HC.out h3 HT.out];rfl,(Below.refl _ _).alloc (Nat.le_refl _) _⟩
  ·go_enter Tryz.func68,Tryz.ntmps68
   go_wp2_with fail
   refine(skipBlanks_any s i j _ hs hi HJ).mono ?_
   rintro e w' ⟨rfl,rfl⟩
   go_wp2_with fail
   refine(isLetter_any _ _).mono ?_
   rintro e w' ⟨rfl,rfl⟩
   go_wp2_with fail
   refine(nameAt_any s j t _ hs hlt h1 HT).mono ?_
   rintro e w' ⟨rfl,hb1⟩
   obtain⟨hc1,hf1⟩:=bcell hb1
   go_wp2_with fail
   exact bodyPost_ret (v:=tokV t) (by simp[results,Tryz.results68,go_sem,hc1]) rfl ⟨rfl,(((((Below.refl _ _).alloc (Nat.le_refl _) _).trans (hb1.mono (by simp))).setCell (Nat.le_refl _) _).setCell (Nat.le_refl _) _).setCell (Nat.le_refl _) _⟩
 ·have hne:((j:Int)==(s.size:Int))=true:=by simp;omega
  go_enter Tryz.func68,Tryz.ntmps68
  go_wp2_with fail
  refine(skipBlanks_any s i j _ hs hi HJ).mono ?_
  rintro e w' ⟨rfl,rfl⟩
  go_wp2_with fail
  exact bodyPost_ret (v:=.agg #[.int .u8 0,.int .i64 j,.int .i64 j]) (by simp[results,Tryz.results68,go_sem]) rfl ⟨by rw[here_end (Nat.le_of_not_lt hlt) HT.out];rfl,(Below.refl _ _).alloc (Nat.le_refl _) _⟩
end
end Go.Proofs.YtpcmemcanpgadaaGreatDoor
